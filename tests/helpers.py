"""What the tests share: asking twice, odd values, and values spoilt in one place."""

import unittest

from anychain import errors
from anychain.errors import AnychainError, BadLetter

ODD_VALUES = (
    None, True, False, 0, 1, 2, -1, -2, 29, 30, 31, 10 ** 30, -(10 ** 30), 1.0, "", "0", "ab", b"", b"\x00",
    [], [0], [[0], []], {}, {0: 1}, set(), (), (0,), (1,), (-1,), (True,), (None,), ("0",), ([],), (0, 0),
    (0, 1), (1, 0), ((0,), ()), ((0,), 0), ((),), ((), ()), (0, -1, 0), (0, True, 0), (0, 0, 0), (0, 0, (), 0),
    (0, 0, 0, 0, 0), ((0,), (1,)), (10 ** 30,), (0,) * 4, (0,) * 5, (0,) * 7, object, len, ValueError("x"),
)

ERRORS = tuple(
    value for value in vars(errors).values() if isinstance(value, type) and issubclass(value, AnychainError)
)


def ask(function, *args):
    """Call a function twice; its answers are the same and its arguments are left as they were."""
    before = repr(args)
    answers = []
    for _ in range(2):
        try:
            answers.append((function(*args), None))
        except AnychainError as error:
            answers.append((None, error))
        assert repr(args) == before, "the arguments were changed"
    (first, first_error), (second, second_error) = answers
    assert type(first_error) is type(second_error), "another error the second time"
    assert repr(first) == repr(second), "another answer the second time"
    if first_error is not None:
        raise first_error
    return first


def error_of(function, *args):
    """Return the class of the error of the program that a call raises, or None."""
    try:
        answer = ask(function, *args)
    except AnychainError as error:
        assert isinstance(error, ValueError)
        return type(error)
    assert answer is None, "a check returns None"
    return None


def spoilt(value, odd_values=ODD_VALUES):
    """Yield the value with one place replaced, left out, told twice, or a tuple turned round or into a list."""
    yield from odd_values
    if type(value) is not tuple:
        return
    yield list(value)
    yield value[::-1]
    yield value + value
    for at, part in enumerate(value):
        yield value[:at] + value[at + 1:]
        yield value[:at] + (part, part) + value[at + 1:]
        if at > 0:
            yield value[:at - 1] + (part, value[at - 1]) + value[at + 1:]
        if type(part) is int:
            for other in (part - 1, part + 1, float(part), bool(part), str(part)):
                yield value[:at] + (other,) + value[at + 1:]
        for other in spoilt(part, odd_values):
            yield value[:at] + (other,) + value[at + 1:]


def only_plain(value):
    """Tell whether a value is built of tuples, integers, strings and None only."""
    if type(value) is tuple:
        return all(only_plain(part) for part in value)
    return value is None or type(value) in (int, str)


class Case(unittest.TestCase):
    """A test case that asks for errors of exactly one class of the program."""

    def raises(self, error, function, *args):
        with self.assertRaises(AnychainError) as caught:
            ask(function, *args)
        self.assertIs(type(caught.exception), error)
        self.assertIsInstance(caught.exception, ValueError)
        for other in ERRORS:
            if other not in (error, AnychainError):
                self.assertNotIsInstance(caught.exception, other)

    def bad_at(self, place, function, *args):
        """The call raises BadLetter with this place, and with an integer if the place is None."""
        self.raises(BadLetter, function, *args)
        try:
            function(*args)
        except BadLetter as error:
            self.assertIs(type(error.place), int)
            self.assertEqual(error.place, error.place if place is None else place, args)
