"""Books compared by what they do to all letters."""

from anychain.lefts import targets_of
from anychain.made import Making
from anychain.papers import common_path
from anychain.sent import word_machine
from anychain.shapes import MOST_SIGNS


def can_come(book, first, last):
    """Tell whether one word can come of another."""
    moves = Making([(at, sign, at + 1) for at, sign in enumerate(first)], book, 0).costs
    return common_path(targets_of(moves), 0, [len(first)], word_machine(MOST_SIGNS, last)) is not None


def first_lack(first, second):
    """Return the first rule (relay, rule) of one book that does what another book cannot do, or None."""
    for relay, rules in enumerate(first):
        for rule, (left, right) in enumerate(rules):
            if not can_come(second, left, right):
                return (relay, rule)
    return None


def same_book(first, second):
    """Tell whether each of two books does at most what the other does."""
    return first_lack(first, second) is None and first_lack(second, first) is None


def without_rule(book, relay, rule):
    """Return a book without one of its rules."""
    rules = book[relay][:rule] + book[relay][rule + 1:]
    return book[:relay] + (rules,) + book[relay + 1:]


def is_spare(book, relay, rule):
    """Tell whether the other rules of a book can do what one of its rules does."""
    left, right = book[relay][rule]
    return can_come(without_rule(book, relay, rule), left, right)


def spare_rules(book):
    """Return the pairs (relay, rule) of the spare rules of a book, in ascending order."""
    found = []
    for relay, rules in enumerate(book):
        found.extend([(relay, rule) for rule in range(len(rules)) if is_spare(book, relay, rule)])
    return tuple(found)


def slim_book(book):
    """Return what is left of a book when each rule, from the last one on, is taken out if it is spare then."""
    for relay in range(len(book) - 1, -1, -1):
        for rule in range(len(book[relay]) - 1, -1, -1):
            if is_spare(book, relay, rule):
                book = without_rule(book, relay, rule)
    return book
