"""Tables for nets: each state of the table is a set of states of the net."""

from anychain.graphs import linked, reached, useful_places
from anychain.nets import EMPTY


def subset_table(net):
    """Return the ends and the rows of a table that takes the words that a net reads."""
    signs, _, ends, moves = net
    useful = useful_places([(state, target) for state, _, target in moves], ends)
    if 0 not in useful:
        return [], []
    kept = [move for move in moves if move[0] in useful and move[2] in useful]
    loud = linked([(state, (sign, target)) for state, sign, target in kept if sign != EMPTY])
    silent = linked([(state, target) for state, sign, target in kept if sign == EMPTY])
    end_states = {state: True for state in ends}
    # States that only have empty moves add nothing to a set, so they are left out of it.
    telling = {state: True for state in useful if state in loud or state in end_states}
    sets, rows = grown_sets(signs, loud, silent, telling)
    return [at for at, states in enumerate(sets) if any_among(states, end_states)], rows


def any_among(states, chosen):
    """Tell whether any of the states is among the chosen ones."""
    return any([state in chosen for state in states])


def grown_sets(signs, loud, silent, telling):
    """Return all sets of states that words lead to, as tuples, and the rows of the table."""
    sets = [telling_states(silent, telling, (0,))]
    numbers = {sets[0]: 0}
    known = {}
    rows = []
    while len(rows) < len(sets):
        row = [-1] * signs
        moves = targets_by_sign(loud, sets[len(rows)])
        for sign, targets in moves:
            if targets not in known:
                states = telling_states(silent, telling, targets)
                if states not in numbers:
                    numbers[states] = len(sets)
                    sets.append(states)
                known[targets] = numbers[states]
            row[sign] = known[targets]
        rows.append(row)
    return sets, rows


def telling_states(silent, telling, states):
    """Return the telling ones among the states that empty moves reach, in ascending order."""
    return tuple(sorted([state for state in reached(silent, states) if state in telling]))


def targets_by_sign(loud, states):
    """Return pairs of a sign and the states that its moves reach, in ascending order of the signs."""
    found = {}
    for state in states:
        for sign, target in loud.get(state, ()):
            found.setdefault(sign, {})[target] = True
    return [(sign, tuple(sorted(found[sign]))) for sign in sorted(found)]
