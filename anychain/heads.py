"""Heads of letters: fields, and lines that are folded."""

from anychain.errors import BadLetter
from anychain.mailsigns import END_OF_HEAD, body_signs, signs_of

NAME_SIGNS = "abAB-"
VALUE_SIGNS = "abAB-:=? \t"
SPACES = " \t"


def write_letter(fields, body):
    """Return the text of a letter with these fields and this body; raise BadLetter if one of them is not valid."""
    for at, field in enumerate(fields):
        if not is_field(field):
            raise BadLetter("a field is not a pair of a name and a value", at)
    if not fields:
        raise BadLetter("there are no fields", 0)
    body_signs(body, 0)
    lines = [name + ": " + value if value else name + ":" for name, value in fields]
    return "\n".join(lines) + "\n\n" + body


def is_field(value):
    """Tell whether a value is a pair of a name and a value of a field."""
    if type(value) is not tuple or len(value) != 2 or not all([type(part) is str for part in value]):
        return False
    name, told = value
    if not name or not all([sign in NAME_SIGNS for sign in name]):
        return False
    return all([sign in VALUE_SIGNS for sign in told]) and told.strip(SPACES) == told


def read_letter(text):
    """Return the fields and the body of a text; raise BadLetter if it has not a head of fields that ends."""
    if END_OF_HEAD not in signs_of(text):
        raise BadLetter("the head does not end", len(text))
    head, rest = divided(text)
    fields = []
    start = 0
    for line, size in zip(unfolded(head).split("\n"), line_sizes(head)):
        name, colon, value = line.partition(":")
        field = (name, value.strip(SPACES))
        if not colon or not is_field(field):
            raise BadLetter("a line is no field", start)
        fields.append(field)
        start += size + 1
    return tuple(fields), rest[2:]


def line_sizes(head):
    """Return for each line that newlines divide how many characters of a head it takes, its folds included."""
    # With two characters for each fold, but no newline, the lines are as long as they were.
    lines = head.replace("\n ", "  ").replace("\n\t", " \t").split("\n")
    return [len(line) for line in lines]


def divided(text):
    """Return the head of a text without its end, and the rest of the text from this end on."""
    head, end, body = text.partition("\n\n")
    return head, end + body


def unfolded(head):
    """Return a part of a head with a blank for each fold and a tab for each tab fold."""
    return head.replace("\n ", " ").replace("\n\t", "\t")


def unfold_text(text):
    """Return a text with a blank for each fold of its head and a tab for each tab fold."""
    signs_of(text)
    head, rest = divided(text)
    return unfolded(head) + rest


def head_lines(text):
    """Return the lines of the head of a text as they stand, those that begin with a fold too."""
    signs_of(text)
    head, _ = divided(text)
    return tuple(head.split("\n"))


def fold_text(text, width):
    """Return a text whose head is unfolded and then folded to a width, with as few folds as possible."""
    signs_of(text)
    head, rest = divided(text)
    lines = unfolded(head).split("\n")
    return "\n".join([folded(line, width) for line in lines]) + rest


def folded(line, width):
    """Return a line with as few folds as possible, the earlier parts as long as possible.

    No part has more signs than the width, unless it has no blank and no tab behind its first sign.
    """
    places = [at for at in range(1, len(line)) if line[at] in SPACES]
    parts = []
    start = 0
    last = 0
    for place in places + [len(line)]:
        # From the last place on there is none where the line could be folded earlier.
        if place - start > width and last > start:
            parts.append(line[start:last])
            start = last
        last = place
    return "\n".join(parts + [line[start:]])
