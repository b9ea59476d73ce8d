"""Steps, chains, and what can come of a word."""

from anychain.errors import BadStep, TooLong
from anychain.graphs import longest_way
from anychain.shapes import is_integer

MOST_OUTCOMES = 2000


def places_of(left, word):
    """Return the places at which a left side stands in a word."""
    size = len(left)
    return [place for place in range(len(word) - size + 1) if word[place:place + size] == left]


def steps_of(book, word):
    """Return all steps that fit a word, in ascending order."""
    found = []
    for relay, rules in enumerate(book):
        for rule, (left, _) in enumerate(rules):
            found.extend([(relay, rule, place) for place in places_of(left, word)])
    return tuple(found)


def fits(book, word, step):
    """Tell whether a value is a step that fits a word."""
    if type(step) is not tuple or len(step) != 3:
        return False
    relay, rule, place = step
    if not is_integer(relay, 0, len(book) - 1) or not is_integer(rule, 0, len(book[relay]) - 1):
        return False
    left = book[relay][rule][0]
    return is_integer(place, 0, len(word) - len(left)) and word[place:place + len(left)] == left


def replaced(word, place, left, right):
    """Return the word with the right side instead of the left side at a place."""
    return word[:place] + right + word[place + len(left):]


def apply_step(book, word, step):
    """Return the word behind a step; raise BadStep if the step does not fit."""
    if not fits(book, word, step):
        raise BadStep("the step does not fit the word")
    relay, rule, place = step
    left, right = book[relay][rule]
    return replaced(word, place, left, right)


def run_chain(book, word, chain):
    """Return all words of a chain from the first one on; raise BadStep where a step does not fit."""
    words = [word]
    for step in chain:
        words.append(apply_step(book, words[-1], step))
    return tuple(words)


def telling_places(word, left, right):
    """Return the places of a left side, without those that give the same word as the place before."""
    size = len(left)
    found = []
    last = None
    for place in places_of(left, word):
        # Within a long run of equal signs every place gives the same word. Comparing
        # the few signs in which two of these words can differ saves building them all.
        if last is None or right + word[last + size:place + size] != word[last:place] + right:
            found.append(place)
        last = place
    return found


def outcome_links(book, word):
    """Return the outcomes of a word as a list, and for each the indexes of those behind one step.

    Raise TooLong if there are more than 2,000.
    """
    rules = [rule for relay in book for rule in relay]
    words = [word]
    numbers = {word: 0}
    rows = []
    while len(rows) < len(words):
        rows.append(numbers_behind(rules, words[len(rows)], words, numbers))
    return words, rows


def numbers_behind(rules, word, words, numbers):
    """Return the numbers of the words behind one step from a word, and number those that are new."""
    row = {}
    for left, right in rules:
        for place in telling_places(word, left, right):
            found = replaced(word, place, left, right)
            if found not in numbers:
                # Asked at each word: the words of one step alone may be far too many.
                if len(words) == MOST_OUTCOMES:
                    raise TooLong("more than 2,000 words can come of the word")
                numbers[found] = len(words)
                words.append(found)
            row[numbers[found]] = True
    return list(row)


def in_word_order(words):
    """Return a tuple of words in ascending order."""
    return tuple(sorted(words, key=lambda word: (len(word), word)))


def outcomes(book, word):
    """Return all words that can come of a word; raise TooLong if there are more than 2,000."""
    words, _ = outcome_links(book, word)
    return in_word_order(words)


def settled_outcomes(book, word):
    """Return the outcomes that no step fits; raise TooLong if there are more than 2,000 outcomes."""
    words, rows = outcome_links(book, word)
    return in_word_order([words[at] for at in range(len(words)) if not rows[at]])


def longest_chain(book, word):
    """Return the greatest number of steps of a chain from a word, or None if there is none.

    Raise TooLong if there are more than 2,000 outcomes.
    """
    _, rows = outcome_links(book, word)
    return longest_way(rows)


def sign_steps(book):
    """Return for each sign the steps that replace a word of this sign by one of one sign."""
    found = {}
    for relay, rules in enumerate(book):
        for rule, (left, right) in enumerate(rules):
            if len(left) == 1 and len(right) == 1:
                found.setdefault(left[0], []).append(((relay, rule, 0), right[0]))
    return found


def way_back(steps, sign):
    """Return a shortest chain of at least one step from a sign back to it, or None."""
    seen = {}
    queue = [(sign, ())]
    at = 0
    while at < len(queue):
        here, chain = queue[at]
        at += 1
        for step, target in steps.get(here, ()):
            if target == sign:
                return chain + (step,)
            if target not in seen:
                seen[target] = True
                queue.append((target, chain + (step,)))
    return None


def ring(book):
    """Return None if every chain comes to an end, and otherwise a sign and a chain back to it."""
    steps = sign_steps(book)
    for sign in sorted(steps):
        chain = way_back(steps, sign)
        if chain is not None:
            return (sign, chain)
    return None
