"""Links between numbered places: what is reached, and how far."""


def linked(pairs):
    """Collect pairs (place, next place) as a dict of lists."""
    links = {}
    for place, target in pairs:
        links.setdefault(place, []).append(target)
    return links


def reached(links, starts):
    """Return a dict of all places that are reached from the starts, these included."""
    found = {}
    for place in starts:
        found[place] = True
    queue = list(found)
    while queue:
        place = queue.pop()
        for target in links.get(place, ()):
            if target not in found:
                found[target] = True
                queue.append(target)
    return found


def useful_places(pairs, ends):
    """Return a dict of the places that are reached from place 0 and from which an end is reached."""
    behind = reached(linked(pairs), (0,))
    before = reached(linked([(target, place) for place, target in pairs]), ends)
    return {place: True for place in behind if place in before}


def longest_way(rows):
    """Return the greatest number of links in a row, or None if there is a ring.

    `rows` has for each place, numbered from 0, the places that it is linked to.
    """
    waiting = [0] * len(rows)
    for row in rows:
        for target in row:
            waiting[target] += 1
    queue = [place for place in range(len(rows)) if waiting[place] == 0]
    far = [0] * len(rows)
    at = 0
    while at < len(queue):
        place = queue[at]
        at += 1
        for target in rows[place]:
            far[target] = max(far[target], far[place] + 1)
            waiting[target] -= 1
            if waiting[target] == 0:
                queue.append(target)
    # The places of a ring wait for each other and never come into the queue.
    if len(queue) < len(rows):
        return None
    return max(far, default=0)
