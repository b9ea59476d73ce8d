"""Two words that a translator reads together, as long as their translations agree.

A node is a triple (state, state, lead): the lead tells how far one translation is ahead.
The first word goes on unless its translation is ahead or it is ended; so each pair of
words has only one way.
"""

from anychain.leads import NO_LEAD, extended

ENDED = -1
START = (0, 0, ((), ()))


def clash_graph(translator):
    """Return the steps and the ends of a graph whose ways write pairs of words with the same translation."""
    steps = {}
    queue = [START]
    while queue:
        node = queue.pop()
        if node not in steps:
            steps[node] = steps_behind(translator, node)
            queue.extend([step[3] for step in steps[node]])
    last = (ENDED, ENDED, NO_LEAD)
    return steps, {last: ([()], [()])} if last in steps else {}


def steps_behind(translator, node):
    """Return the steps from a node."""
    first, second, lead = node
    found = []
    if first != ENDED and not lead[0]:
        moves = choices(translator, first)
        for read, written, state in moves:
            after = extended(lead, written, ())
            if after is not None:
                found.append((None, read, (), (state, second, after)))
    elif second != ENDED and not lead[1]:
        moves = choices(translator, second)
        for read, written, state in moves:
            after = extended(lead, (), written)
            if after is not None:
                found.append((None, (), read, (first, state, after)))
    return found


def choices(translator, state):
    """Return triples (read, written, next state) for the moves of a state and its ending."""
    _, _, _, moves, endings = translator
    found = [((sign,), move[0], move[1]) for sign, move in enumerate(moves[state]) if move is not None]
    if endings[state] is not None:
        found.append(((), endings[state], ENDED))
    return found
