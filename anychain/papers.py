"""Nets that stand in papers: what they must read, and what they must not read."""

from anychain.closing import is_closed
from anychain.errors import InvalidNet
from anychain.graphs import linked, reached
from anychain.lefts import targets_of
from anychain.machines import least_machine
from anychain.nets import EMPTY, check_net
from anychain.translators import written_net


def covers(coder, book, value):
    """Tell whether a value is a net over a coder's letters that reads all sent ones and is closed under a book."""
    try:
        check_net(value)
    except InvalidNet:
        return False
    if value[0] != coder[1]:
        return False
    return reads_all(value, least_machine(written_net(coder))) and is_closed(value, book)


def reads_all(net, machine):
    """Tell whether a net reads every word that a machine takes."""
    _, machine_ends, rows = machine
    is_end = {end: True for end in machine_ends}
    silent = linked([(move[0], move[2]) for move in net[3] if move[1] == EMPTY])
    targets = targets_of([move for move in net[3] if move[1] != EMPTY])
    start = reached(silent, (0,))
    kept = {0: [start]}
    queue = [(0, start)] if rows else []
    while queue:
        state, places = queue.pop()
        if state in is_end and not any([end in places for end in net[2]]):
            return False
        for sign, target in enumerate(rows[state]):
            if target >= 0:
                after = [place for here in places for place in targets.get((here, sign), ())]
                behind = reached(silent, after)
                others = kept.setdefault(target, [])
                # From more places no fewer words are read.
                if not any([is_part(other, behind) for other in others]):
                    others.append(behind)
                    queue.append((target, behind))
    return True


def is_part(first, second):
    """Tell whether all keys of a dict are keys of another one."""
    return len(first) <= len(second) and all([key in second for key in first])


def all_words(signs):
    """Return the machine that takes all words."""
    return (signs, (0,), ((0,) * signs,))


def common_path(targets, state, ends, machine):
    """Return the moves of a shortest path from a state to an end that reads a word a machine takes, or None.

    `targets` is a dict from pairs (state, sign) to the next states.
    """
    _, machine_ends, rows = machine
    is_end = {end: True for end in ends}
    is_machine_end = {end: True for end in machine_ends}
    start = (state, 0)
    came = {start: None}
    queue = [start] if rows else []
    at = 0
    while at < len(queue):
        node = queue[at]
        at += 1
        if node[0] in is_end and node[1] in is_machine_end:
            return path_to(came, node)
        signs = [EMPTY] + [sign for sign, target in enumerate(rows[node[1]]) if target >= 0]
        for sign in signs:
            behind = rows[node[1]][sign] if sign != EMPTY else node[1]
            for target in targets.get((node[0], sign), ()):
                if (target, behind) not in came:
                    came[(target, behind)] = (node, (node[0], sign, target))
                    queue.append((target, behind))
    return None


def path_to(came, node):
    """Return the moves of the path on which a node was first reached."""
    path = []
    while came[node] is not None:
        node, move = came[node]
        path.append(move)
    return path[::-1]
