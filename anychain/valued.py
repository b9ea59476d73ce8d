"""Writing nets, and whether each word has only one value."""

from anychain.errors import InvalidNet
from anychain.graphs import linked, useful_places
from anychain.leads import NO_LEAD, extended
from anychain.nets import EMPTY, check_size
from anychain.shapes import is_ascending, is_integer, is_row, is_written

# Two paths that read the same word are followed together. A node is a triple of the
# states of the two paths and the sign that the first one has read and the second one
# has not, or -1; so every step is a move of one path only, which keeps the steps few.
# A step is a tuple (sign, first written, second written, next node).
START = (0, 0, -1)


def check_writing_net(net):
    """Raise InvalidNet if a value is not a writing net."""
    check_size(net)
    signs, states, ends, moves = net
    if type(ends) is not tuple or not all([is_end(end, states) for end in ends]):
        raise InvalidNet("the ends are not a tuple of pairs (state, written)")
    if type(moves) is not tuple or not all([is_move(move, signs, states) for move in moves]):
        raise InvalidNet("the moves are not a tuple of quadruples (state, sign, written, state)")
    if not is_ascending(ends) or not is_ascending(moves):
        raise InvalidNet("the ends or the moves are not ascending")


def is_end(end, states):
    """Tell whether a value is an end of a writing net."""
    return is_row(end, 2, 2) and is_integer(end[0], 0, states - 1) and is_written(end[1])


def is_move(move, signs, states):
    """Tell whether a value is a move of a writing net."""
    if not is_row(move, 4, 4):
        return False
    state, sign, written, target = move
    if not is_integer(state, 0, states - 1) or not is_integer(target, 0, states - 1):
        return False
    return is_integer(sign, EMPTY, signs - 1) and is_written(written)


def moves_behind(moves):
    """Return for each state a dict from signs to lists of pairs (written, next state)."""
    found = {}
    for state, sign, written, target in moves:
        found.setdefault(state, {}).setdefault(sign, []).append((written, target))
    return found


def value_of(net, word):
    """Return a value of a word, or None if there is none."""
    _, _, ends, moves = net
    behind = moves_behind(moves)
    trail = [(-1, ())]
    level = {0: 0}
    follow_empty_moves(behind, level, trail)
    for sign in word:
        level_after = {}
        for state, at in level.items():
            for written, target in behind.get(state, {}).get(sign, ()):
                if target not in level_after:
                    level_after[target] = len(trail)
                    trail.append((at, written))
        level = level_after
        follow_empty_moves(behind, level, trail)
    for state, written in ends:
        if state in level:
            return written_on_trail(trail, level[state]) + written
    return None


def follow_empty_moves(behind, level, trail):
    """Add to a level, a dict from states to places of the trail, what empty moves reach."""
    queue = list(level)
    while queue:
        state = queue.pop()
        for written, target in behind.get(state, {}).get(EMPTY, ()):
            if target not in level:
                level[target] = len(trail)
                trail.append((level[state], written))
                queue.append(target)


def written_on_trail(trail, at):
    """Return all that is written up to a place; the trail has pairs (place before, written)."""
    words = []
    while at >= 0:
        words.append(trail[at][1])
        at = trail[at][0]
    return joined(words[::-1])


def joined(words):
    """Return the words as one tuple."""
    return tuple([sign for word in words for sign in word])


def two_values(net):
    """Return None if a net is single-valued, and otherwise a word and two different values of it."""
    _, _, ends, moves = net
    useful = useful_places([(move[0], move[3]) for move in moves], [state for state, _ in ends])
    if 0 not in useful:
        return None
    behind = moves_behind([move for move in moves if move[0] in useful and move[3] in useful])
    end_words = linked(ends)
    steps = all_steps(behind)
    return first_fault(steps, ways_to_ends(steps, end_words), end_words)


def steps_behind(behind, node):
    """Return the steps from a node."""
    first, second, pending = node
    if pending != EMPTY:
        moves = behind.get(second, {}).get(pending, ())
        return [(EMPTY, (), written, (first, target, EMPTY)) for written, target in moves]
    found = []
    for sign, moves in behind.get(first, {}).items():
        found.extend([(sign, written, (), (target, second, sign)) for written, target in moves])
    moves = behind.get(second, {}).get(EMPTY, ())
    found.extend([(EMPTY, (), written, (first, target, EMPTY)) for written, target in moves])
    return found


def all_steps(behind):
    """Return a dict from each node that is reached to its steps."""
    steps = {START: steps_behind(behind, START)}
    queue = [START]
    while queue:
        found = steps[queue.pop()]
        for _, _, _, node in found:
            if node not in steps:
                steps[node] = steps_behind(behind, node)
                queue.append(node)
    return steps


def is_end_node(node, end_words):
    """Tell whether both paths may end at a node."""
    first, second, pending = node
    return pending == EMPTY and first in end_words and second in end_words


def ways_to_ends(steps, end_words):
    """Return a dict from each node with a way to an end to the first step of it, None at an end."""
    before = linked([(step[3], (node, step)) for node, found in steps.items() for step in found])
    onward = {node: None for node in steps if is_end_node(node, end_words)}
    queue = list(onward)
    at = 0
    while at < len(queue):
        found = before.get(queue[at], ())
        at += 1
        for node, step in found:
            if node not in onward:
                onward[node] = step
                queue.append(node)
    return onward


def first_fault(steps, onward, end_words):
    """Return a word and two different values of it, or None.

    All ways to a node from which an end is reached must have the same lead: else what
    follows could not make the values of all of them equal.
    """
    leads = {START: NO_LEAD}
    came = {START: None}
    queue = [START]
    at = 0
    while at < len(queue):
        node = queue[at]
        at += 1
        if is_end_node(node, end_words) and not ends_agree(leads[node], node, end_words):
            return different_values(way_to(came, node), node, end_words)
        for step in steps[node]:
            target = step[3]
            if target in onward:
                lead = extended(leads[node], step[1], step[2])
                if lead is None or leads.get(target, lead) != lead:
                    return fault_behind(came, node, step, onward, end_words)
                if target not in leads:
                    leads[target] = lead
                    came[target] = (node, step)
                    queue.append(target)
    return None


def ends_agree(lead, node, end_words):
    """Tell whether all ways to end at a node with this lead make both values equal."""
    for first in end_words[node[0]]:
        for second in end_words[node[1]]:
            if extended(lead, first, second) != NO_LEAD:
                return False
    return True


def way_to(came, node):
    """Return the steps of the way on which a node was first reached."""
    way = []
    while came[node] is not None:
        node, step = came[node]
        way.append(step)
    return way[::-1]


def fault_behind(came, node, step, onward, end_words):
    """Return a word and two different values of it, where a step makes a lead that cannot be."""
    end = step[3]
    ways = [way_to(came, node) + [step]]
    if end in came:
        # With the same rest, two ways with different leads cannot both have equal values.
        ways.append(way_to(came, end))
    rest = []
    while onward[end] is not None:
        rest.append(onward[end])
        end = onward[end][3]
    for way in ways:
        fault = different_values(way + rest, end, end_words)
        if fault is not None:
            return fault
    return None


def different_values(way, node, end_words):
    """Return the word of a way that ends at a node and two different values of it, or None."""
    word = tuple([step[0] for step in way if step[0] != EMPTY])
    one = joined([step[1] for step in way])
    other = joined([step[2] for step in way])
    for first in end_words[node[0]]:
        for second in end_words[node[1]]:
            if one + first != other + second:
                return (word, one + first, other + second)
    return None
