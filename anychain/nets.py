"""Nets: what they are, and what they read."""

from anychain.errors import InvalidNet
from anychain.graphs import linked, reached
from anychain.shapes import MOST_SIGNS, is_ascending, is_integer, is_row, is_set_of_states

MOST_STATES = 100000
EMPTY = -1


def check_net(net):
    """Raise InvalidNet if a value is not a net."""
    check_size(net)
    signs, states, ends, moves = net
    if not is_set_of_states(ends, states):
        raise InvalidNet("the ends are not an ascending tuple of states")
    if type(moves) is not tuple or not all([is_move(move, signs, states) for move in moves]):
        raise InvalidNet("the moves are not a tuple of triples (state, sign, state)")
    if not is_ascending(moves):
        raise InvalidNet("the moves are not ascending")


def check_size(net):
    """Raise InvalidNet if a value is not a tuple of four that begins as a net does."""
    if not is_row(net, 4, 4):
        raise InvalidNet("a net is a tuple of four")
    if not is_integer(net[0], 1, MOST_SIGNS):
        raise InvalidNet("the number of signs is not an integer from 1 to 30")
    if not is_integer(net[1], 1, MOST_STATES):
        raise InvalidNet("the number of states is not an integer from 1 to 100000")


def is_move(move, signs, states):
    """Tell whether a value is a move of a net."""
    if not is_row(move, 3, 3):
        return False
    state, sign, target = move
    if not is_integer(state, 0, states - 1) or not is_integer(target, 0, states - 1):
        return False
    return is_integer(sign, EMPTY, signs - 1)


def reads(net, word):
    """Tell whether a net reads a word."""
    _, _, ends, moves = net
    silent = linked([(state, target) for state, sign, target in moves if sign == EMPTY])
    loud = linked([((state, sign), target) for state, sign, target in moves if sign != EMPTY])
    now = reached(silent, (0,))
    for sign in word:
        targets = {}
        for state in now:
            for target in loud.get((state, sign), ()):
                targets[target] = True
        now = reached(silent, targets)
    return any([end in now for end in ends])
