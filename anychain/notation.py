"""Texts of books and of chains."""

from anychain.books import LONGEST_LEFT, LONGEST_RIGHT, MOST_RELAYS, MOST_RULES
from anychain.errors import BadLetter

LETTERS = "abcdefghijklmnopqrstuvwxyzABCD"
NO_LETTERS = "."
RELAY = "relay"
DIGITS = "0123456789"
MOST_DIGITS = 9


def book_text(book):
    """Return the text of a book."""
    rows = []
    for rules in book:
        rows.append(RELAY)
        rows.extend([word_text(left) + " to " + word_text(right) for left, right in rules])
    return text_of_rows(rows)


def word_text(word):
    """Return the letters of a word, or a dot for the empty word."""
    return "".join([LETTERS[sign] for sign in word]) if word else NO_LETTERS


def chain_text(chain):
    """Return the text of a chain."""
    return text_of_rows([" ".join([str(number) for number in step]) for step in chain])


def text_of_rows(rows):
    """Return a text in which each row ends with a newline."""
    return "".join([row + "\n" for row in rows])


def rows_of(text):
    """Return the rows of a text; raise BadLetter if there is text after the last newline."""
    rows = text.split("\n")
    if rows[-1] != "":
        raise BadLetter("there is text after the last newline", len(rows) - 1)
    return rows[:-1]


def read_book(text):
    """Return the book of a text; raise BadLetter if it is the text of none."""
    relays = []
    for at, row in enumerate(rows_of(text)):
        if row == RELAY:
            if len(relays) == MOST_RELAYS:
                raise BadLetter("a book has at most 8 relays", at)
            relays.append([])
        else:
            rule = rule_of(row)
            if rule is None or not relays or len(relays[-1]) == MOST_RULES:
                raise BadLetter("no rule can stand in this row as it is", at)
            relays[-1].append(rule)
    return tuple([tuple(rules) for rules in relays])


def rule_of(row):
    """Return the rule of a row, or None if it is the row of none."""
    sides = row.split(" ")
    if len(sides) != 3 or sides[1] != "to":
        return None
    left = word_of(sides[0])
    right = word_of(sides[2])
    if left is None or right is None or left == right:
        return None
    if not 1 <= len(left) <= LONGEST_LEFT or len(right) > LONGEST_RIGHT:
        return None
    return (left, right)


def word_of(text):
    """Return the word of some letters, or None if they are the text of none."""
    if text == NO_LETTERS:
        return ()
    if text == "" or not all([letter in LETTERS for letter in text]):
        return None
    return tuple([LETTERS.index(letter) for letter in text])


def read_chain(text):
    """Return the chain of a text; raise BadLetter if it is the text of none."""
    steps = []
    for at, row in enumerate(rows_of(text)):
        numbers = row.split(" ")
        if len(numbers) != 3 or not all([is_number(number) for number in numbers]):
            raise BadLetter("a row is not three numbers", at)
        steps.append(tuple([int(number) for number in numbers]))
    return tuple(steps)


def is_number(text):
    """Tell whether a text is a number from 0 to 999999999 as it is written."""
    if not 1 <= len(text) <= MOST_DIGITS or not all([digit in DIGITS for digit in text]):
        return False
    return text == "0" or text[0] != "0"
