"""Parts of words, and words that are a part of no letter."""

from anychain.arrivals import arriving
from anychain.finding import NOWHERE, only_first, word_of_way
from anychain.least import equal_states
from anychain.machines import least_machine
from anychain.nets import EMPTY
from anychain.papers import all_words


def onward_rows(machine, chosen):
    """Return for each state of a machine the next states for chosen signs, or NOWHERE.

    States from which the same words over these signs go on are one state here, so fewer
    sets of states have to be told apart.
    """
    rows = [[row[sign] for sign in chosen] for row in machine[2]]
    class_of = equal_states(tuple(range(len(rows))), rows)
    numbers = {}
    found = []
    for state, row in enumerate(rows):
        if class_of[state] not in numbers:
            numbers[class_of[state]] = len(found)
            found.append(row)
    return [tuple([NOWHERE if target == NOWHERE else numbers[class_of[target]] for target in row]) for row in found]


def go_on_forever(rows):
    """Tell whether there is a state from which all words go on; then each sign leads back to it."""
    return any([row == (state,) * len(row) for state, row in enumerate(rows)])


def part_machine(machine):
    """Return the machine of all parts of the words that a machine takes."""
    signs = machine[0]
    rows = onward_rows(machine, tuple(range(signs)))
    if go_on_forever(rows):
        return all_words(signs)
    # A part may begin at each state and end at each one.
    moves = [(0, EMPTY, state + 1) for state in range(len(rows))]
    for state, row in enumerate(rows):
        moves.extend([(state + 1, sign, target + 1) for sign, target in enumerate(row) if target != NOWHERE])
    ends = tuple(range(1, len(rows) + 1))
    return least_machine((signs, len(rows) + 1, ends, tuple(moves)))


def least_missing(machine, chosen):
    """Return the least nonempty word over chosen signs that a machine does not take, or None."""
    return only_first(nonempty_words(machine[0], chosen), machine)


def nonempty_words(signs, chosen):
    """Return the machine of all nonempty words over chosen signs."""
    if not chosen:
        return (signs, (), ())
    row = tuple([1 if sign in chosen else NOWHERE for sign in range(signs)])
    return (signs, (1,), (row, row))


def safe_bound(coder, book, chosen):
    """Return the least nonempty word over chosen signs that is a part of no letter that can arrive, or None."""
    rows = onward_rows(arriving(coder, book), chosen)
    # Otherwise each state has a word that ends there, and some word ends at all of them.
    if go_on_forever(rows):
        return None
    groups = [tuple(range(len(rows)))]
    ways = [(NOWHERE, NOWHERE)]
    seen = {groups[0]: True}
    at = 0
    while at < len(groups):
        for place, sign in enumerate(chosen):
            group = next_states(rows, groups[at], place)
            if not group:
                return word_of_way(ways, at) + (sign,)
            if group not in seen:
                seen[group] = True
                groups.append(group)
                ways.append((at, sign))
        at += 1
    return None


def next_states(rows, states, place):
    """Return the states to which some states lead by one chosen sign, in ascending order."""
    found = {rows[state][place]: True for state in states if rows[state][place] != NOWHERE}
    return tuple(sorted(found))
