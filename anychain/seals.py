"""Seals: what stays the same about a letter."""

from anychain.chains import places_of, replaced
from anychain.errors import InvalidSeal, NotSettling
from anychain.shapes import is_row, is_word

MOST_RULES = 12
LONGEST_LEFT = 6


def check_seal_table(signs, table):
    """Raise InvalidSeal if a value is not a seal table for words over so many signs."""
    if not is_row(table, 0, MOST_RULES):
        raise InvalidSeal("a seal table is a tuple of at most 12 rules")
    for rule in table:
        if not is_row(rule, 2, 2):
            raise InvalidSeal("a rule is a pair")
        left, right = rule
        if not is_word(left, signs, 1, LONGEST_LEFT) or not is_word(right, signs, 0, len(left)):
            raise InvalidSeal("a left side is a word of 1 to 6 signs, and a right side has no more signs")
        if len(right) == len(left) and (len(left) > 1 or right >= left):
            raise InvalidSeal("a right side is shorter, or is one smaller sign for one sign")


def reducing_steps(table, word):
    """Return the pairs (place, rule) by which a word is reduced to a final one, and the final word."""
    # The word stands in two parts: what was passed over, and the rest, with its first sign last.
    passed = []
    rest = list(word[::-1])
    steps = []
    while rest:
        rule = first_rule(table, rest)
        if rule is None:
            passed.append(rest.pop())
        else:
            steps.append((len(passed), rule))
            left, right = table[rule]
            del rest[len(rest) - len(left):]
            rest.extend(right[::-1])
            # A left side that stands only now begins at most so many signs further left.
            for _ in range(min(LONGEST_LEFT - 1, len(passed))):
                rest.append(passed.pop())
    return steps, tuple(passed)


def first_rule(table, rest):
    """Return the first rule whose left side stands at the beginning of the rest, or None."""
    begin = tuple(rest[-1:-LONGEST_LEFT - 1:-1])
    for rule, (left, _) in enumerate(table):
        if begin[:len(left)] == left:
            return rule
    return None


def final_form(table, word):
    """Return the final word to which a word is reduced."""
    _, final = reducing_steps(table, word)
    return final


def reduction(table, word):
    """Return the words from a word to a final one, each of them the one before reduced once."""
    words = [word]
    steps, _ = reducing_steps(table, word)
    for place, rule in steps:
        left, right = table[rule]
        words.append(replaced(words[-1], place, left, right))
    return tuple(words)


def split(table):
    """Return the least word that leads to two different final words, and these two, or None."""
    triples = overlaps(table)
    for word, first, second in triples:
        if final_form(table, first) != final_form(table, second):
            return (word, final_form(table, first), final_form(table, second))
    return None


def overlaps(table):
    """Return the words that arise by laying two rules over each other, each with what both make of it."""
    found = {}
    for one in table:
        for other in table:
            for word, first, second in laid_over(one, other):
                # In this order a shorter word is less.
                low, high = sorted([(len(first), first), (len(second), second)])
                if low != high:
                    found[((len(word), word), low, high)] = True
    return tuple([(word[1], first[1], second[1]) for word, first, second in sorted(found)])


def laid_over(one, other):
    """Return triples (word, word, word): what arises by laying one rule over another, and what both make of it."""
    left, right = one
    other_left, other_right = other
    found = []
    for size in range(1, min(len(left), len(other_left)) + 1):
        if left[len(left) - size:] == other_left[:size]:
            behind = other_left[size:]
            found.append((left + behind, right + behind, left[:len(left) - size] + other_right))
    for place in places_of(other_left, left):
        found.append((left, right, replaced(left, place, other_left, other_right)))
    return found


def check_settling(table):
    """Raise NotSettling if a table is not settling."""
    if split(table) is not None:
        raise NotSettling("a word leads to two different final words")


def broken_seal(table, book):
    """Return a shortest letter and a step of a book that changes its seal, or None if there is none.

    Raise NotSettling if the table is not settling.
    """
    check_settling(table)
    found = None
    for relay, rules in enumerate(book):
        for rule, (left, right) in enumerate(rules):
            shorter = found is None or len(left) < len(found[0])
            # If both sides have the same seal, so have all letters around them.
            if shorter and final_form(table, left) != final_form(table, right):
                found = (left, (relay, rule, 0))
    return found
