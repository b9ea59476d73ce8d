"""Books of relays."""

from anychain.errors import InvalidBook
from anychain.shapes import MOST_SIGNS, is_integer, is_row, is_word

MOST_RELAYS = 8
MOST_RULES = 8
LONGEST_LEFT = 4
LONGEST_RIGHT = 1


def check_book(signs, book):
    """Raise InvalidBook if a value is not a book that is valid for so many signs."""
    if not is_integer(signs, 1, MOST_SIGNS):
        raise InvalidBook("the number of signs is not an integer from 1 to 30")
    if not is_row(book, 0, MOST_RELAYS):
        raise InvalidBook("a book is a tuple of at most 8 relays")
    for relay in book:
        if not is_row(relay, 0, MOST_RULES):
            raise InvalidBook("a relay is a tuple of at most 8 rules")
        for rule in relay:
            if not is_rule(signs, rule):
                raise InvalidBook("a rule is a pair of two different words of 1 to 4 signs and of 0 or 1 sign")


def is_rule(signs, rule):
    """Tell whether a value is a rule over so many signs."""
    if not is_row(rule, 2, 2):
        return False
    left, right = rule
    if not is_word(left, signs, 1, LONGEST_LEFT) or not is_word(right, signs, 0, LONGEST_RIGHT):
        return False
    return left != right
