"""Ways through a graph along which two words are written.

`steps` is a dict from nodes to lists of steps (label, first written, second written, next
node). `ends` is a dict from nodes to pairs of lists: the words that end the first and the
second written word there; None among them stands for a refusal, which is equal to nothing.
"""

from anychain.graphs import linked
from anychain.leads import NO_LEAD, extended


def unequal_way(steps, ends, start):
    """Return None if on every way from the start to an end both written words are equal.

    Otherwise return a triple of a way on which they are not, as a list of steps, and the
    two words that end them. All ways to a node from which an end is reached must have
    the same lead: else what follows could not make the words of all of them equal.
    """
    onward = ways_to_ends(steps, ends)
    leads = {start: NO_LEAD}
    came = {start: None}
    queue = [start]
    at = 0
    while at < len(queue):
        node = queue[at]
        at += 1
        if node in ends:
            fault = unequal_ends([], leads[node], ends[node])
            if fault is not None:
                return (way_to(came, node), fault[1], fault[2])
        for step in steps.get(node, ()):
            target = step[3]
            if target in onward:
                lead = extended(leads[node], step[1], step[2])
                if lead is None or leads.get(target, lead) != lead:
                    return fault_behind(came, node, step, onward, ends)
                if target not in leads:
                    leads[target] = lead
                    came[target] = (node, step)
                    queue.append(target)
    return None


def ways_to_ends(steps, ends):
    """Return a dict from each node with a way to an end to the first step of it, None at an end."""
    before = linked([(step[3], (node, step)) for node, found in steps.items() for step in found])
    onward = {node: None for node in ends}
    queue = list(onward)
    at = 0
    while at < len(queue):
        found = before.get(queue[at], ())
        at += 1
        for node, step in found:
            if node not in onward:
                onward[node] = step
                queue.append(node)
    return onward


def way_on(onward, node):
    """Return the steps of a way from a node to an end."""
    way = []
    while onward[node] is not None:
        way.append(onward[node])
        node = onward[node][3]
    return way


def way_to(came, node):
    """Return the steps of the way on which a node was first reached."""
    way = []
    while came[node] is not None:
        node, step = came[node]
        way.append(step)
    return way[::-1]


def fault_behind(came, node, step, onward, ends):
    """Return what unequal_way does, where a step makes a lead that cannot be."""
    rest = way_on(onward, step[3])
    end = rest[-1][3] if rest else step[3]
    ways = [way_to(came, node) + [step]]
    if step[3] in came:
        # With the same rest, two ways with different leads cannot both have equal words.
        ways.append(way_to(came, step[3]))
    for way in ways:
        both = (joined([part[1] for part in way + rest]), joined([part[2] for part in way + rest]))
        fault = unequal_ends(way + rest, both, ends[end])
        if fault is not None:
            return fault
    return None


def unequal_ends(way, both, end):
    """Return the way and two words of its end that leave two written words unequal, or None."""
    for first in end[0]:
        for second in end[1]:
            if first is None or second is None or extended(both, first, second) != NO_LEAD:
                return (way, first, second)
    return None


def joined(words):
    """Return the words as one tuple."""
    return tuple([sign for word in words for sign in word])
