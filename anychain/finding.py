"""Words of machines: the least ones, all short ones, and how many."""

from anychain.errors import TooLong
from anychain.graphs import longest_way

MOST_WORDS = 2000
NOWHERE = -1


def common_word(first, second):
    """Return the least word that both machines take, or None."""
    return least_word(first, second, True)


def only_first(first, second):
    """Return the least word that the first machine takes and the second does not, or None."""
    return least_word(first, second, False)


def least_word(first, second, wanted):
    """Return the least word that the first machine takes and the second takes as wanted, or None.

    The pairs of states are visited in the order of the least words that lead to them.
    """
    first_ends = set(first[1])
    second_ends = set(second[1])
    if not first[2]:
        return None
    pairs = [(0, 0 if second[2] else NOWHERE)]
    ways = [(NOWHERE, NOWHERE)]
    seen = {pairs[0]: True}
    at = 0
    while at < len(pairs):
        here, there = pairs[at]
        if here in first_ends and (there in second_ends) == wanted:
            return word_of_way(ways, at)
        for sign, target in enumerate(first[2][here]):
            other = second[2][there][sign] if there != NOWHERE else NOWHERE
            # Where the second machine has ended, no word of both can follow.
            dead = target == NOWHERE or (wanted and other == NOWHERE)
            if not dead and (target, other) not in seen:
                seen[(target, other)] = True
                pairs.append((target, other))
                ways.append((at, sign))
        at += 1
    return None


def word_of_way(ways, at):
    """Return the word that leads to a place; each way is a pair (place before, sign)."""
    word = []
    while ways[at][0] != NOWHERE:
        word.append(ways[at][1])
        at = ways[at][0]
    return tuple(word[::-1])


def words_of(machine, length):
    """Return the words of at most a length that a machine takes; raise TooLong if there are more than 2,000."""
    _, ends, rows = machine
    far = ways_on(ends, rows)
    ways = [(NOWHERE, NOWHERE)]
    states = [0]
    level = [0] if rows and far[0] <= length else []
    found = []
    left = length
    while level:
        # From each place of a level a word can still be ended in time, and no two
        # places share one: so there are at least as many words as places.
        if len(found) + len(level) > MOST_WORDS:
            raise TooLong("more than 2,000 words")
        found.extend([at for at in level if far[states[at]] == 0])
        left -= 1
        level_after = []
        for at in level:
            for sign, target in enumerate(rows[states[at]]):
                if target != NOWHERE and far[target] <= left:
                    level_after.append(len(ways))
                    ways.append((at, sign))
                    states.append(target)
        level = level_after
    return tuple([word_of_way(ways, at) for at in found])


def ways_on(ends, rows):
    """Return for each state of a machine the length of the shortest word from it to an end."""
    before = [[] for _ in rows]
    for state, row in enumerate(rows):
        for target in row:
            if target != NOWHERE:
                before[target].append(state)
    far = {state: 0 for state in ends}
    queue = list(ends)
    at = 0
    while at < len(queue):
        target = queue[at]
        at += 1
        for state in before[target]:
            if state not in far:
                far[state] = far[target] + 1
                queue.append(state)
    return [far[state] for state in range(len(rows))]


def count_words(machine, length):
    """Return how many words of exactly a length a machine takes."""
    _, ends, rows = machine
    if not rows:
        return 0
    links = [how_often(row) for row in rows]
    # Squaring costs the third power of the number of states, but hardly minds the length.
    if length > 64 * len(rows) ** 3:
        counts = counts_by_squaring(links, length)
    else:
        counts = counts_by_steps(links, length)
    return sum([counts.get(state, 0) for state in ends])


def how_often(row):
    """Return a dict that tells how often each next state stands in a row."""
    counts = {}
    for target in row:
        if target != NOWHERE:
            counts[target] = counts.get(target, 0) + 1
    return counts


def counts_behind(counts, links):
    """Return how many ways lead to each state, one link further on."""
    found = {}
    for state, many in counts.items():
        for target, times in links[state].items():
            found[target] = found.get(target, 0) + many * times
    return found


def counts_by_steps(links, length):
    """Return how many words of a length lead from state 0 to each state."""
    counts = {0: 1}
    left = length
    while left > 0 and counts:
        counts = counts_behind(counts, links)
        left -= 1
    return counts


def counts_by_squaring(links, length):
    """Return the same as counts_by_steps, with links that become twice as long each time."""
    counts = {0: 1}
    left = length
    far = links
    while left > 0:
        if left & 1:
            counts = counts_behind(counts, far)
        left = left >> 1
        if left > 0:
            far = [counts_behind(row, far) for row in far]
    return counts


def is_finite(machine):
    """Tell whether a machine takes finitely many words."""
    rows = [[target for target in row if target != NOWHERE] for row in machine[2]]
    return longest_way(rows) is not None
