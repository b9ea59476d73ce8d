"""Writing nets, and whether each word has only one value."""

from anychain.errors import InvalidNet
from anychain.graphs import linked, useful_places
from anychain.nets import EMPTY, check_size
from anychain.shapes import is_ascending, is_integer, is_row, is_written
from anychain.ways import joined, unequal_way

# Two paths that read the same word are followed together. A node is a triple of the
# states of the two paths and the sign that the first one has read and the second one
# has not, or -1; so every step is a move of one path only, which keeps the steps few.
# A step is a tuple (sign, first written, second written, next node).
START = (0, 0, -1)


def check_writing_net(net):
    """Raise InvalidNet if a value is not a writing net."""
    check_size(net)
    signs, states, ends, moves = net
    if type(ends) is not tuple or not all([is_end(end, states) for end in ends]):
        raise InvalidNet("the ends are not a tuple of pairs (state, written)")
    if type(moves) is not tuple or not all([is_move(move, signs, states) for move in moves]):
        raise InvalidNet("the moves are not a tuple of quadruples (state, sign, written, state)")
    if not is_ascending(ends) or not is_ascending(moves):
        raise InvalidNet("the ends or the moves are not ascending")


def is_end(end, states):
    """Tell whether a value is an end of a writing net."""
    return is_row(end, 2, 2) and is_integer(end[0], 0, states - 1) and is_written(end[1])


def is_move(move, signs, states):
    """Tell whether a value is a move of a writing net."""
    if not is_row(move, 4, 4):
        return False
    state, sign, written, target = move
    if not is_integer(state, 0, states - 1) or not is_integer(target, 0, states - 1):
        return False
    return is_integer(sign, EMPTY, signs - 1) and is_written(written)


def moves_behind(moves):
    """Return for each state a dict from signs to lists of pairs (written, next state)."""
    found = {}
    for state, sign, written, target in moves:
        found.setdefault(state, {}).setdefault(sign, []).append((written, target))
    return found


def value_of(net, word):
    """Return a value of a word, or None if there is none."""
    _, _, ends, moves = net
    behind = moves_behind(moves)
    trail = [(-1, ())]
    level = {0: 0}
    follow_empty_moves(behind, level, trail)
    for sign in word:
        level_after = {}
        for state, at in level.items():
            for written, target in behind.get(state, {}).get(sign, ()):
                if target not in level_after:
                    level_after[target] = len(trail)
                    trail.append((at, written))
        level = level_after
        follow_empty_moves(behind, level, trail)
    for state, written in ends:
        if state in level:
            return written_on_trail(trail, level[state]) + written
    return None


def follow_empty_moves(behind, level, trail):
    """Add to a level, a dict from states to places of the trail, what empty moves reach."""
    queue = list(level)
    while queue:
        state = queue.pop()
        for written, target in behind.get(state, {}).get(EMPTY, ()):
            if target not in level:
                level[target] = len(trail)
                trail.append((level[state], written))
                queue.append(target)


def written_on_trail(trail, at):
    """Return all that is written up to a place; the trail has pairs (place before, written)."""
    words = []
    while at >= 0:
        words.append(trail[at][1])
        at = trail[at][0]
    return joined(words[::-1])


def two_values(net):
    """Return None if a net is single-valued, and otherwise a word and two different values of it."""
    _, _, ends, moves = net
    useful = useful_places([(move[0], move[3]) for move in moves], [state for state, _ in ends])
    if 0 not in useful:
        return None
    steps = all_steps(moves_behind([move for move in moves if move[0] in useful and move[3] in useful]))
    end_words = linked(ends)
    both_end = [node for node in steps if is_end_node(node, end_words)]
    fault = unequal_way(steps, {node: (end_words[node[0]], end_words[node[1]]) for node in both_end}, START)
    if fault is None:
        return None
    way, first, second = fault
    word = tuple([step[0] for step in way if step[0] != EMPTY])
    return (word, joined([step[1] for step in way]) + first, joined([step[2] for step in way]) + second)


def steps_behind(behind, node):
    """Return the steps from a node."""
    first, second, pending = node
    if pending != EMPTY:
        moves = behind.get(second, {}).get(pending, ())
        return [(EMPTY, (), written, (first, target, EMPTY)) for written, target in moves]
    found = []
    for sign, moves in behind.get(first, {}).items():
        found.extend([(sign, written, (), (target, second, sign)) for written, target in moves])
    moves = behind.get(second, {}).get(EMPTY, ())
    found.extend([(EMPTY, (), written, (first, target, EMPTY)) for written, target in moves])
    return found


def all_steps(behind):
    """Return a dict from each node that is reached to its steps."""
    steps = {START: steps_behind(behind, START)}
    queue = [START]
    while queue:
        found = steps[queue.pop()]
        for _, _, _, node in found:
            if node not in steps:
                steps[node] = steps_behind(behind, node)
                queue.append(node)
    return steps


def is_end_node(node, end_words):
    """Tell whether both paths may end at a node."""
    first, second, pending = node
    return pending == EMPTY and first in end_words and second in end_words
