"""Point 46: texts of books and chains."""

import random
import re
import unittest

from anychain.books import check_book
from anychain.notation import book_text, chain_text, read_book, read_chain
from anychain.ready import ready_book, relay_names
from tests import making
from tests.helpers import Case, ask, only_plain
from tests.test_mailsigns import ODD_CHARACTERS

LETTERS = "abcdefghijklmnopqrstuvwxyzABCD"


def write_word(word):
    return "".join(LETTERS[sign] for sign in word) or "."


def write_book(book):
    text = ""
    for relay in book:
        text += "relay\n"
        for left, right in relay:
            text += write_word(left) + " to " + write_word(right) + "\n"
    return text


def slow_book(text):
    """The book of a text, or the place of the first row that cannot stand there."""
    rows = text.split("\n")
    if rows.pop() != "":
        return len(rows)
    book = []
    for at, row in enumerate(rows):
        if row == "relay" and len(book) < 8:
            book.append([])
            continue
        match = re.fullmatch(r"([a-zA-D]{1,4}) to ([a-zA-D]|\.)", row)
        if match is None or match[1] == match[2] or book == [] or len(book[-1]) == 8:
            return at
        left = tuple(LETTERS.index(letter) for letter in match[1])
        right = () if match[2] == "." else (LETTERS.index(match[2]),)
        book[-1].append((left, right))
    return tuple(tuple(relay) for relay in book)


def slow_chain(text):
    rows = text.split("\n")
    if rows.pop() != "":
        return len(rows)
    chain = []
    for at, row in enumerate(rows):
        match = re.fullmatch("(0|[1-9][0-9]{0,8}) (0|[1-9][0-9]{0,8}) (0|[1-9][0-9]{0,8})", row)
        if match is None:
            return at
        chain.append(tuple(int(number) for number in match.groups()))
    return tuple(chain)


def near(text, characters):
    """Texts with one character put in, left out or changed, or two neighbours turned round."""
    for at in range(len(text) + 1):
        for character in characters:
            yield text[:at] + character + text[at:]
            yield text[:at] + character + text[at + 1:]
        yield text[:at] + text[at + 1:]
        yield text[:at] + text[at:at + 2][::-1] + text[at + 2:]


class Books(Case):
    def writes(self, book):
        text = ask(book_text, book)
        self.assertEqual(text, write_book(book))
        told = ask(read_book, text)
        self.assertTrue(only_plain(told))
        self.assertEqual(told, book)
        return text

    def reads(self, text):
        expected = slow_book(text)
        if type(expected) is int:
            self.bad_at(expected, read_book, text)
        else:
            self.assertEqual(ask(read_book, text), expected)
            self.assertEqual(book_text(expected), text)
            self.assertIsNone(check_book(30, expected))
        return expected

    def test_ordinary_books(self):
        self.assertEqual(self.writes(((((0, 2), ()),),)), "relay\nac to .\n")
        self.assertEqual(self.writes(()), "")
        self.assertEqual(self.writes(((),)), "relay\n")
        self.assertEqual(self.writes(((), (((29,), (26,)), ((25, 0, 27, 28), ())), ())), (
            "relay\nrelay\nD to A\nzaBC to .\nrelay\n"
        ))

    def test_numbers_of_relays_and_rules(self):
        rule = ((0,), ())
        for relays in (0, 1, 7, 8):
            self.writes(((),) * relays)
            self.writes(((rule,) * 8,) * relays)
        self.assertEqual(self.reads("relay\n" * 9), 8)
        self.assertEqual(self.reads("relay\n" * 8 + "a to .\n" * 8 + "relay\n"), 16)
        self.assertEqual(self.reads("relay\n" + "a to .\n" * 9), 9)
        self.assertEqual(self.reads("relay\n" + "a to .\n" * 9 + "relay\n" * 9), 9)
        self.assertEqual(self.reads("relay\n" * 12), 8)

    def test_each_letter(self):
        for sign in range(30):
            self.assertEqual(self.reads("relay\n" + LETTERS[sign] + " to .\n"), ((((sign,), ()),),))
            self.assertEqual(self.writes(((((sign, sign), (sign,)),),)), "relay\n{0}{0} to {0}\n".format(LETTERS[sign]))
        for character in "EFZ0_-, \t\r" + ODD_CHARACTERS.replace("c", ""):
            for row in (character + " to .", "a" + character + " to .", "a to " + character):
                self.assertEqual(self.reads("relay\n" + row + "\n"), 1)

    def test_sides(self):
        for left, size in (("", 0), (".", 0), ("a", 1), ("abcd", 4), ("abcde", 5), ("a.", 0), ("..", 0), ("a b", 0)):
            for right in (".", "b", "ab", "", "..", "b.", "a"):
                good = 1 <= size <= 4 and right in (".", "b", "a") and left != right
                self.assertIs(type(self.reads("relay\n" + left + " to " + right + "\n")) is tuple, good)

    def test_rows_that_cannot_stand(self):
        for row in (
            "", " ", "relay ", " relay", "Relay", "relays", "rela", "relay a to .", "a to b c", "a  to b", "a to  b",
            " a to b", "a to b ", "a to", "a to ", "to b", " to b", "ato b", "a tob", "a\tto b", "a To b", "a too b",
            "a to b\r", "relay\r", "a to a", ". to .", ". to a", "to to to", "abcd to bc", "a to b to c",
        ):
            self.assertEqual(self.reads(row + "\n"), 0)
            self.assertEqual(self.reads("relay\na to b\n" + row + "\nrelay\n\n"), 2)
        self.assertEqual(self.reads("a to b\nrelay\n"), 0)
        self.assertEqual(self.reads("\nrelay\n"), 0)
        self.assertEqual(self.reads("relay\n\n"), 1)
        self.assertEqual(self.reads("relay\nto to t\n"), ((((19, 14), (19,)),),))

    def test_text_after_the_last_newline_comes_first(self):
        self.assertEqual(self.reads("relay"), 0)
        self.assertEqual(self.reads("relay\na to b"), 1)
        self.assertEqual(self.reads("wrong\n\nrelay\n "), 3)
        self.assertEqual(self.reads("wrong\n" * 20 + "relay"), 20)
        self.assertEqual(self.reads("relay\n" * 9 + "."), 9)

    def test_texts_near_a_book(self):
        for text in ("relay\nac to .\n", "relay\nrelay\nD to a\nabcd to b\nrelay\n", ""):
            for other in near(text, "aDEr. \nt-2"):
                self.reads(other)

    def test_many_books(self):
        rng = random.Random(4601)
        for _ in range(800):
            signs = rng.choice((1, 2, 5, 30))
            text = self.writes(making.book(rng, signs, 8, 8))
            for _ in range(3):
                at = rng.randrange(len(text) + 1)
                self.reads(text[:at] + rng.choice("a. \nrelay") + text[at + rng.randint(0, 1):])
        for names in (relay_names()[:8], relay_names()[8:]):
            self.writes(ready_book(names))


class Chains(Case):
    def reads(self, text):
        expected = slow_chain(text)
        if type(expected) is int:
            self.bad_at(expected, read_chain, text)
        else:
            told = ask(read_chain, text)
            self.assertTrue(only_plain(told))
            self.assertEqual(told, expected)
            self.assertEqual(ask(chain_text, told), text)
        return expected

    def test_ordinary_chains(self):
        self.assertEqual(ask(chain_text, ()), "")
        self.assertEqual(ask(chain_text, ((0, 1, 12), (7, 0, 5))), "0 1 12\n7 0 5\n")
        self.assertEqual(self.reads("0 1 12\n7 0 5\n"), ((0, 1, 12), (7, 0, 5)))
        self.assertEqual(self.reads(""), ())

    def test_numbers(self):
        for number in (0, 1, 9, 10, 99, 100000000, 999999999):
            for step in ((number, 0, 0), (0, number, 0), (0, 0, number), (number,) * 3):
                self.assertEqual(self.reads(chain_text((step,))), (step,))
        for number in (
            "1000000000", "9999999999", "00", "01", "000000001", "-1", "+1", "-0", "1.0", "1e3", "", "a", "0x1", "1_0",
            "\u0661", "\xb2", "\uff11", "1\r", "1\x0b", "None", "9" * 5000,
        ):
            for row in (number + " 0 0", "0 " + number + " 0", "0 0 " + number):
                self.assertEqual(self.reads(row + "\n"), 0)
                self.assertEqual(self.reads("0 1 2\n3 4 5\n" + row + "\n\n"), 2)
        self.assertEqual(ask(chain_text, ((1000000000, 0, 0),)), "1000000000 0 0\n")

    def test_rows_that_cannot_stand(self):
        for row in (
            "", " ", "0", "0 0", "0 0 0 0", "0  0 0", " 0 0 0", "0 0 0 ", "0\t0 0", "0,0,0", "0 0\xa00", "(0, 0, 0)",
        ):
            self.assertEqual(self.reads(row + "\n"), 0)
            self.assertEqual(self.reads("0 0 0\n" + row + "\nx\n"), 1)

    def test_text_after_the_last_newline_comes_first(self):
        self.assertEqual(self.reads("0 0 0"), 0)
        self.assertEqual(self.reads("0 0 0\n1 1 1"), 1)
        self.assertEqual(self.reads("wrong\n\n0 0 0\n "), 3)

    def test_texts_near_a_chain(self):
        for text in ("0 1 2\n", "0 10 999999999\n7 0 0\n", ""):
            for other in near(text, "09 \n-a."):
                self.reads(other)

    def test_many_chains(self):
        rng = random.Random(4602)
        for _ in range(500):
            steps = rng.randint(0, 6)
            chain = tuple(tuple(rng.randrange(rng.choice((9, 10 ** 9))) for _ in range(3)) for _ in range(steps))
            text = ask(chain_text, chain)
            self.assertEqual(text, "".join("%d %d %d\n" % step for step in chain))
            self.assertEqual(ask(read_chain, text), chain)


if __name__ == "__main__":
    unittest.main()
