"""The least form of tables that move from state to state.

A table consists of `ends` and `rows` as a machine has them, but its states may be
numbered in any way, not reached, without a way to an end, or equal to each other.
"""

from anychain.graphs import linked, reached


def least_form(signs, ends, rows):
    """Return the machine in least form that takes the same words as a table."""
    back = linked([(target, state) for state, row in enumerate(rows) for target in row if target >= 0])
    live = reached(back, ends)
    if 0 not in live:
        return (signs, (), ())
    kept = [[target if target in live else -1 for target in row] for row in rows]
    return numbered(signs, ends, kept, equal_states(ends, kept))


def equal_states(ends, rows):
    """Return a list with a number for each state, the same one for states that take the same words.

    States are told apart as Hopcroft does it: whenever a class falls into two parts,
    only the less one is used to tell other states apart, which keeps long tables fast.
    """
    before = [[] for _ in rows]
    for state, row in enumerate(rows):
        for sign, target in enumerate(row):
            if target >= 0:
                before[target].append((sign, state))
    end_class = {state: True for state in ends}
    classes = [{state: True for state in range(len(rows)) if state not in end_class}, end_class]
    class_of = [1 if state in classes[1] else 0 for state in range(len(rows))]
    work = [0, 1]
    waiting = {0: True, 1: True}
    while work:
        chosen = work.pop()
        del waiting[chosen]
        all_sources = sources_by_sign(before, classes[chosen])
        for sources in all_sources:
            torn = torn_classes(sources, class_of, classes)
            for old, new in torn:
                less = new if old in waiting or len(classes[new]) < len(classes[old]) else old
                waiting[less] = True
                work.append(less)
    return class_of


def sources_by_sign(before, states):
    """Return for each sign by which some of the states are entered the states that do so."""
    sources = {}
    for state in states:
        for sign, source in before[state]:
            sources.setdefault(sign, []).append(source)
    return list(sources.values())


def torn_classes(sources, class_of, classes):
    """Divide the classes of which only a part is among the sources; return pairs (old, new)."""
    parts = {}
    for state in sources:
        parts.setdefault(class_of[state], []).append(state)
    torn = []
    for old, states in parts.items():
        if len(states) < len(classes[old]):
            new = len(classes)
            classes.append({state: True for state in states})
            for state in states:
                del classes[old][state]
                class_of[state] = new
            torn.append((old, new))
    return torn


def numbered(signs, ends, rows, class_of):
    """Return the machine of the classes of states, numbered in the order of their least words."""
    numbers = {class_of[0]: 0}
    order = [0]
    machine_rows = []
    while len(machine_rows) < len(order):
        row = []
        targets = rows[order[len(machine_rows)]]
        for target in targets:
            if target >= 0 and class_of[target] not in numbers:
                numbers[class_of[target]] = len(order)
                order.append(target)
            row.append(numbers[class_of[target]] if target >= 0 else -1)
        machine_rows.append(tuple(row))
    is_end = [False] * len(rows)
    for state in ends:
        is_end[state] = True
    machine_ends = [number for number, state in enumerate(order) if is_end[state]]
    return (signs, tuple(machine_ends), tuple(machine_rows))
