"""The signs of mail: what they stand for in the head and in the body of a letter."""

from anychain.errors import BadLetter

# The strings of the signs 0 to 13.
HEAD = ("a", "b", "A", "B", "-", ":", "=", "?", " ", "\t", "\n ", "\n\t", "\n", "\n\n")
# The characters of the signs 14 to 27. A carriage return is written so only in bytes.
BODY = b"abAB-=.> \t\x0d\n#?"
END_OF_HEAD = 13
FIRST_OF_BODY = 14
MANY = 28


def signs_of(text):
    """Return the signs of a text; raise BadLetter if a character is no sign where it stands."""
    signs, at = head_signs(text)
    return tuple(signs + body_signs(text, at))


def head_signs(text):
    """Return the signs of the head of a text, its end included, and the index behind it."""
    numbers = {string: sign for sign, string in enumerate(HEAD)}
    signs = []
    at = 0
    while at < len(text) and signs[-1:] != [END_OF_HEAD]:
        string = text[at:at + 2]
        if string not in numbers:
            string = text[at]
        if string not in numbers:
            raise BadLetter("a character is no sign of the head", at)
        signs.append(numbers[string])
        at += len(string)
    return signs, at


def body_signs(text, start):
    """Return the signs of a body that begins in a text at an index."""
    numbers = {sign: FIRST_OF_BODY + at for at, sign in enumerate(body_characters())}
    signs = []
    for at in range(start, len(text)):
        if text[at] not in numbers:
            raise BadLetter("a character is no sign of the body", at)
        signs.append(numbers[text[at]])
    return signs


def body_characters():
    """Return the characters of the signs of the body, in order."""
    return tuple(BODY.decode("ascii"))


def text_of(word):
    """Return the text of a word over the signs of mail."""
    strings = HEAD + body_characters()
    return "".join([strings[sign] for sign in word])


def is_letter(word):
    """Tell whether a tuple of integers is a word over the signs of mail that is read back from its own text."""
    if not all([0 <= sign < MANY for sign in word]):
        return False
    try:
        return signs_of(text_of(word)) == word
    except BadLetter:
        return False


def content_text(content):
    """Return the text of a content."""
    characters = body_characters()
    return "".join([characters[sign] for sign in content])


def content_signs(text):
    """Return the content of a text; raise BadLetter if a character is no sign of the body."""
    return tuple([sign - FIRST_OF_BODY for sign in body_signs(text, 0)])
