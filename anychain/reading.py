"""What a reader makes of letters, followed sign by sign."""

from anychain.leads import NO_LEAD, extended
from anychain.lefts import left_ends, left_tree, targets_of
from anychain.nets import EMPTY

DEAD = -1


def read_on(reader, state, word):
    """Return the state behind a word, and what is written on the way; the reader is DEAD if a move is missing."""
    moves = reader[3]
    written = ()
    for sign in word:
        move = None if state == DEAD else moves[state][sign]
        if move is None:
            return DEAD, ()
        written = written + move[0]
        state = move[1]
    return state, written


def ending_of(reader, state):
    """Return the ending of a state, or None if the reader refuses there or is dead."""
    return None if state == DEAD else reader[4][state]


def read_to_end(reader, state, word):
    """Return what a reader writes for a word from a state on, its ending included, or None if it refuses."""
    behind, written = read_on(reader, state, word)
    ending = ending_of(reader, behind)
    return None if ending is None else written + ending


def moves_from(moves):
    """Return a dict from the states of a net to lists of pairs (sign, next state)."""
    found = {}
    for state, sign, target in moves:
        found.setdefault(state, []).append((sign, target))
    return found


def reached_pairs(net, reader):
    """Return a dict of the pairs (net state, reader state) that are reached, with (pair before, sign) for each.

    It is None for the first pair. No pair has a dead reader.
    """
    moves = moves_from(net[3])
    came = {(0, 0): None}
    queue = [(0, 0)]
    at = 0
    while at < len(queue):
        pair = queue[at]
        at += 1
        for sign, target in moves.get(pair[0], ()):
            behind = pair[1]
            if sign != EMPTY:
                behind, _ = read_on(reader, pair[1], (sign,))
            if behind != DEAD and (target, behind) not in came:
                came[(target, behind)] = (pair, sign)
                queue.append((target, behind))
    return came


class Sides:
    """What a reader makes of both sides of the rules of a book, wherever a net reads a left side."""

    def __init__(self, net, book, reader):
        self.tree = left_tree(book)
        self.targets = targets_of(net[3])
        self.pairs = reached_pairs(net, reader)
        self.readers = {}
        for state, reader_state in self.pairs:
            self.readers.setdefault(state, []).append(reader_state)
        self.behind = {}
        for relay, rules in enumerate(book):
            for rule, sides in enumerate(rules):
                self.behind[(relay, rule)] = [behind_sides(reader, state, sides) for state in range(len(reader[3]))]

    def seeds(self, state):
        """Return triples (row, lead, (pair, relay, rule)) for the left sides that are read from a state of the net.

        A row is a triple (net state, reader state, reader state), and the pair is the one reached before.
        """
        found = []
        for relay, rule, _, target in left_ends(self.tree, self.targets, state):
            behind = self.behind[(relay, rule)]
            for reader_state in self.readers[state]:
                first, second, lead = behind[reader_state]
                found.append(((target, first, second), lead, ((state, reader_state), relay, rule)))
        return found


def behind_sides(reader, state, sides):
    """Return the states of a reader behind both sides of a rule, and the lead of what it writes there."""
    first, first_written = read_on(reader, state, sides[0])
    second, second_written = read_on(reader, state, sides[1])
    return first, second, extended(NO_LEAD, first_written, second_written)


def row_behind(reader, row, lead, sign, target):
    """Return the row and its lead, or None, behind a move of the net from another row."""
    if sign == EMPTY:
        return (target, row[1], row[2]), lead
    first, first_written = read_on(reader, row[1], (sign,))
    second, second_written = read_on(reader, row[2], (sign,))
    return (target, first, second), extended(lead, first_written, second_written)


def ends_equal(reader, row, lead):
    """Tell whether both readers of a row may end there, with the same words written."""
    first = ending_of(reader, row[1])
    second = ending_of(reader, row[2])
    return first is not None and second is not None and extended(lead, first, second) == NO_LEAD
