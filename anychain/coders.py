"""Coders for the signs of mail, and their readers, that are ready for use.

A digit is a number from 0 to 3; two of them stand for a content sign.
"""

from anychain.errors import UnknownName
from anychain.mailsigns import END_OF_HEAD, FIRST_OF_BODY, MANY

NAMES = ("dotted", "headed", "lined", "pairs", "plain", "quoted")
CONTENTS = 14
# The head that all coders but one write first.
HEAD = (0, 5, 1, 13)
QUOTE = 19
DOT = 20
NEWLINE = 25
BLANKS = (22, 23, 24, 25)
# The content signs that are written as a dot and as a newline.
DOT_CONTENT = 6
NEWLINE_CONTENT = 11
# The content signs below this one are not quoted.
FIRST_QUOTED = 5
LINE = 6
HEADED_DIGITS = (0, 1, 4, 5)


def coder_names():
    """Return the names of the ready coders in ascending order."""
    return NAMES


def check_name(name):
    """Raise UnknownName if no ready coder has a name."""
    if name not in NAMES:
        raise UnknownName("no ready coder has this name")


def ready_coder(name):
    """Return the ready coder of a name; raise UnknownName if there is none."""
    check_name(name)
    if name == "plain":
        return coder_of([plain_row(0)])
    if name == "quoted":
        return coder_of([quoted_row((), 0)])
    if name == "lined":
        # The states tell how many content signs stand in the present line.
        rows = [quoted_row((), many + 1) for many in range(LINE)]
        return coder_of(rows + [quoted_row((QUOTE, NEWLINE), 1)])
    if name == "pairs":
        return coder_of([[(digits(sign), 0) for sign in range(CONTENTS)]])
    if name == "dotted":
        # State 0 is the beginning of a line.
        return coder_of([dotted_row((DOT, DOT)), dotted_row((DOT,))])
    return headed_coder()


def coder_of(rows):
    """Return a coder that writes the usual head and then has these moves."""
    return (CONTENTS, MANY, HEAD, tuple([tuple(row) for row in rows]), ((),) * len(rows))


def plain_row(state):
    """Return moves that write each content sign plainly."""
    return [((FIRST_OF_BODY + sign,), state) for sign in range(CONTENTS)]


def digits(sign):
    """Return the two digits of a content sign."""
    high, low = divmod(sign, 4)
    return (FIRST_OF_BODY + high, FIRST_OF_BODY + low)


def quoted_row(before, state):
    """Return moves that write some signs before each content sign, and quote most of these."""
    row = []
    for sign in range(CONTENTS):
        letters = (FIRST_OF_BODY + sign,) if sign < FIRST_QUOTED else (QUOTE,) + digits(sign)
        row.append((before + letters, state))
    return row


def dotted_row(dots):
    """Return moves that write these dots for a dot, and begin a line behind each newline."""
    row = plain_row(1)
    row[NEWLINE_CONTENT] = ((NEWLINE,), 0)
    row[DOT_CONTENT] = (dots, 1)
    return row


def headed_coder():
    """Return the coder that writes a head alone."""
    moves = []
    for sign in range(CONTENTS):
        high, low = divmod(sign, 4)
        moves.append(((HEADED_DIGITS[high], HEADED_DIGITS[low]), 0))
    return (CONTENTS, MANY, (0, 5, 6, 7), (tuple(moves),), ((7, 6, 13),))


def ready_reader(name):
    """Return the reader of the ready coder of a name; raise UnknownName if there is none."""
    check_name(name)
    if name == "plain":
        return reader_of([plain_reading(1)], 1)
    if name == "quoted" or name == "lined":
        return quoted_reader()
    if name == "pairs":
        return pairs_reader()
    if name == "dotted":
        return dotted_reader()
    return headed_reader()


def reader_of(rows, ends):
    """Return a reader that passes over a head, and then has these rows of moves from state 1 on.

    A row is a dict. The first of these states, so many as `ends` tells, are those in which it ends.
    """
    head = {sign: ((), 0) for sign in range(END_OF_HEAD)}
    head[END_OF_HEAD] = ((), 1)
    endings = (None,) + ((),) * ends + (None,) * (len(rows) - ends)
    return (MANY, CONTENTS, (), tuple([full_row(row) for row in [head] + rows]), endings)


def full_row(row):
    """Return a row with None for each sign for which a dict has no move."""
    return tuple([row.get(sign) for sign in range(MANY)])


def plain_reading(state):
    """Return moves that read each content sign as it is written plainly."""
    return {FIRST_OF_BODY + sign: ((sign,), state) for sign in range(CONTENTS)}


def first_digits(state):
    """Return moves that read a first digit and lead to one of four states, from a given one on."""
    return {FIRST_OF_BODY + high: ((), state + high) for high in range(4)}


def second_digits(high, state):
    """Return moves that read a second digit as a content sign, if there is such a one."""
    return {FIRST_OF_BODY + low: ((high * 4 + low,), state) for low in range(4) if high * 4 + low < CONTENTS}


def quoted_reader():
    """Return a reader: state 1 is the body, state 2 stands behind a quote, and four states behind a digit."""
    body = plain_reading(1)
    body[QUOTE] = ((), 2)
    group = first_digits(3)
    group[NEWLINE] = ((), 1)
    return reader_of([body, group] + [second_digits(high, 1) for high in range(4)], 1)


def pairs_reader():
    """Return a reader: state 1 is the body, and four states stand behind a first digit."""
    rows = [first_digits(2)] + [second_digits(high, 1) for high in range(4)]
    return reader_of([passing_blanks(row, at + 1) for at, row in enumerate(rows)], 1)


def passing_blanks(row, state):
    """Return the moves of a state, and those that pass over blanks."""
    found = dict(row)
    for sign in BLANKS:
        found[sign] = ((), state)
    return found


def dotted_reader():
    """Return a reader: state 1 is the beginning of a line, and state 2 the rest of it."""
    inner = plain_reading(2)
    inner[NEWLINE] = ((NEWLINE_CONTENT,), 1)
    first = dict(inner)
    first[DOT] = ((), 2)
    return reader_of([first, inner], 2)


def headed_reader():
    """Return a reader: states 0 to 3 read the beginning, 4 to 8 the digits, and 9 to 11 the end."""
    rows = [{0: ((), 1)}, {5: ((), 2)}, {6: ((), 3)}, {7: ((), 4)}]
    rows.append({sign: ((), 5 + high) for high, sign in enumerate(HEADED_DIGITS)})
    rows[4][7] = ((), 9)
    for high in range(4):
        row = second_digits(high, 4)
        rows.append({HEADED_DIGITS[sign - FIRST_OF_BODY]: move for sign, move in row.items()})
    rows.extend([{6: ((), 10)}, {13: ((), 11)}, {}])
    return (MANY, CONTENTS, (), tuple([full_row(row) for row in rows]), (None,) * 11 + ((),))
