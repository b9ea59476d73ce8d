"""Zigzags of a book, and the finest seal that survives it."""

from anychain.chains import places_of, replaced
from anychain.seals import broken_seal, check_settling, reducing_steps, split


def is_zigzag(book, words):
    """Tell whether a tuple of words is a zigzag of a book."""
    pairs = [(words[at], words[at + 1]) for at in range(len(words) - 1)]
    return len(words) > 0 and all([is_step(book, one, other) or is_step(book, other, one) for one, other in pairs])


def is_step(book, first, second):
    """Tell whether the second word comes of the first by one step of a book."""
    for rules in book:
        for left, right in rules:
            if len(first) - len(left) + len(right) == len(second):
                if any([replaced(first, place, left, right) == second for place in places_of(left, first)]):
                    return True
    return False


def is_finest(table, book, links):
    """Tell whether a table and its links show that its seal is the finest one that survives a book."""
    if split(table) is not None or broken_seal(table, book) is not None or len(links) != len(table):
        return False
    for (left, right), link in zip(table, links):
        if not is_zigzag(book, link) or link[0] != left or link[-1] != right:
            return False
    return True


def zigzag(table, links, first, second):
    """Return a zigzag from one letter to another, or None if their seals differ.

    Raise NotSettling if the table is not settling.
    """
    check_settling(table)
    down = way_down(table, links, first)
    up = way_down(table, links, second)
    if down[-1] != up[-1]:
        return None
    # From where both ways go on alike there is no need to go on.
    while len(down) > 1 and len(up) > 1 and down[-2] == up[-2]:
        down.pop()
        up.pop()
    return tuple(down + up[-2::-1])


def way_down(table, links, word):
    """Return as a list a zigzag from a word to its final form, put together from the links of the table."""
    words = [word]
    steps, _ = reducing_steps(table, word)
    for place, rule in steps:
        before = words[-1][:place]
        behind = words[-1][place + len(table[rule][0]):]
        words.extend([before + middle + behind for middle in links[rule][1:]])
    return words
