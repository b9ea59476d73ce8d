"""Plain, slow reckonings about the texts of mail. Nothing here uses the program.

Where a text is refused, the answer is an integer: the place that the error tells.
"""

import re
from itertools import combinations

HEAD = "a|b|A|B|-|:|=|?| |\t|\n |\n\t|\n|\n\n".split("|")
BODY = "a|b|A|B|-|=|.|>| |\t|\r|\n|#|?".split("|")
STRINGS = HEAD + BODY


def signs_of(text):
    """The text is read one character after another."""
    signs = []
    in_head = True
    held = False
    for at, character in enumerate(text):
        if not in_head:
            if character not in BODY:
                return at
            signs.append(14 + BODY.index(character))
        elif held:
            # A newline was read before, and it is not yet known what it is.
            held = False
            if character == "\n":
                signs.append(13)
                in_head = False
            elif character in " \t":
                signs.append(10 if character == " " else 11)
            elif character in HEAD:
                signs.extend((12, HEAD.index(character)))
            else:
                return at
        elif character == "\n":
            held = True
        elif character in HEAD:
            signs.append(HEAD.index(character))
        else:
            return at
    return tuple(signs + [12] * held)


def text_of(word):
    text = ""
    for sign in word:
        text += STRINGS[sign]
    return text


def is_letter(word):
    return all(0 <= sign <= 27 for sign in word) and signs_of(text_of(word)) == word


def is_field(value):
    if type(value) is not tuple or len(value) != 2 or type(value[0]) is not str or type(value[1]) is not str:
        return False
    name, told = value
    if not re.fullmatch("[abAB-]+", name) or not re.fullmatch("[abAB:=? \t-]*", told):
        return False
    return told == "" or (told[0] not in " \t" and told[-1] not in " \t")


def write_letter(fields, body):
    for at in range(len(fields)):
        if not is_field(fields[at]):
            return at
    if len(fields) == 0:
        return 0
    for at in range(len(body)):
        if body[at] not in BODY:
            return at
    text = ""
    for name, value in fields:
        text += name + ":"
        if value != "":
            text += " " + value
        text += "\n"
    return text + "\n" + body


def read_letter(text):
    """The signs of the head are gone through one after another, with their places in the text."""
    signs = signs_of(text)
    if type(signs) is int:
        return signs
    if 13 not in signs:
        return len(text)
    end = signs.index(13)
    lines = [[0, ""]]
    at = 0
    for sign in signs[:end]:
        at += len(STRINGS[sign])
        if sign == 12:
            lines.append([at, ""])
        else:
            lines[-1][1] += {10: " ", 11: "\t"}.get(sign, STRINGS[sign])
    fields = []
    for place, line in lines:
        if ":" not in line:
            return place
        name = line[:line.index(":")]
        value = line[line.index(":") + 1:]
        while value[:1] in (" ", "\t"):
            value = value[1:]
        while value[-1:] in (" ", "\t"):
            value = value[:-1]
        if not is_field((name, value)):
            return place
        fields.append((name, value))
    return tuple(fields), text_of(signs[end + 1:])


def unfold_text(text):
    signs = signs_of(text)
    if type(signs) is int:
        return signs
    return text_of([{10: 8, 11: 9}.get(sign, sign) for sign in signs])


def head_lines(text):
    signs = signs_of(text)
    if type(signs) is int:
        return signs
    lines = [""]
    for sign in signs:
        if sign == 13:
            break
        if sign == 12:
            lines.append("")
        elif sign in (10, 11):
            lines.append(" " if sign == 10 else "\t")
        else:
            lines[-1] += STRINGS[sign]
    return tuple(lines)


def fold_text(text, width):
    """All ways to fold the head are tried."""
    signs = signs_of(text)
    if type(signs) is int:
        return signs
    signs = [{10: 8, 11: 9}.get(sign, sign) for sign in signs]
    end = signs.index(13) if 13 in signs else len(signs)
    blanks = [at for at in range(end) if signs[at] in (8, 9)]
    for many in range(len(blanks) + 1):
        best = None
        for chosen in combinations(blanks, many):
            made = text_of([signs[at] + 2 if at in chosen else signs[at] for at in range(len(signs))])
            lines = head_lines(made)
            if all(len(line) <= width or not (" " in line[1:] or "\t" in line[1:]) for line in lines):
                sizes = [len(line) for line in lines]
                if best is None or sizes > best[0]:
                    best = (sizes, made)
        if best is not None:
            return best[1]
    raise AssertionError("a head can always be folded")
