"""Points 44 and 45: ready coders and their readers."""

import random
import unittest
from itertools import combinations, product

from anychain.arrivals import clash
from anychain.back import back_paper, judge_back, reads_back, spoiled
from anychain.coders import coder_names, ready_coder, ready_reader
from anychain.errors import UnknownName
from anychain.ready import ready_book, ready_relay, relay_names
from anychain.translators import check_translator, translate
from tests import slow, slow_mail
from tests.helpers import Case, ask, only_plain

NAMES = ("dotted", "headed", "lined", "pairs", "plain", "quoted")
SAFE = ("quoted", "lined", "pairs", "headed")
OF_HEADS = ("unfold", "refold", "lower", "squeeze", "trim")


def digits(sign):
    return (14 + sign // 4, 14 + sign % 4)


def write(name, content):
    """What a coder writes, content sign by content sign."""
    if name == "headed":
        letter = (0, 5, 6, 7)
        for sign in content:
            letter += ((0, 1, 4, 5)[sign // 4], (0, 1, 4, 5)[sign % 4])
        return letter + (7, 6, 13)
    letter = (0, 5, 1, 13)
    for at, sign in enumerate(content):
        if name == "plain":
            letter += (14 + sign,)
        elif name == "pairs":
            letter += digits(sign)
        elif name == "dotted":
            letter += (20, 20) if sign == 6 and letter[-1] in (13, 25) else (14 + sign,)
        else:
            if name == "lined" and at > 0 and at % 6 == 0:
                letter += (19, 25)
            letter += (14 + sign,) if sign <= 4 else (19,) + digits(sign)
    return letter


def value(first, second):
    """The content sign that two digits stand for, or None."""
    if first in (14, 15, 16, 17) and second in (14, 15, 16, 17):
        sign = 4 * (first - 14) + second - 14
        return sign if sign < 14 else None
    return None


def read(name, letter):
    """What a reader makes of a letter."""
    if name == "headed":
        for size in range(len(letter)):
            if letter == (0, 5, 6, 7) + letter[4:4 + 2 * size] + (7, 6, 13):
                numbers = [(0, 1, 4, 5).index(sign) if sign in (0, 1, 4, 5) else 99 for sign in letter[4:-3]]
                content = tuple(4 * numbers[at] + numbers[at + 1] for at in range(0, 2 * size, 2))
                return content if all(sign < 14 for sign in content) else None
        return None
    if 13 not in letter or min((14,) + letter[letter.index(13) + 1:]) < 14:
        return None
    if letter[:letter.index(13)] and max(letter[:letter.index(13)]) > 13:
        return None
    return read_body(name, letter[letter.index(13) + 1:])


def read_body(name, body):
    content = ()
    if name == "pairs":
        body = tuple(sign for sign in body if sign not in (22, 23, 24, 25))
        if len(body) % 2:
            return None
        content = tuple(value(body[at], body[at + 1]) for at in range(0, len(body), 2))
        return None if None in content else content
    at = 0
    while at < len(body):
        if name in ("quoted", "lined") and body[at] == 19:
            if body[at + 1:at + 2] == (25,):
                at += 2
                continue
            sign = value(*body[at + 1:at + 3]) if len(body) >= at + 3 else None
            if sign is None:
                return None
            content += (sign,)
            at += 3
        elif name == "dotted" and body[at] == 20 and (at == 0 or body[at - 1] == 25):
            at += 1
            # The dot behind it, if there is one, is read.
            if body[at:at + 1] == (20,):
                content += (6,)
                at += 1
        else:
            content += (body[at] - 14,)
            at += 1
    return content


def all_in_three():
    """A book of three relays with all rules of all ready relays."""
    rules = [rule for name in relay_names() for rule in ready_relay(name)]
    return tuple(tuple(rules[at:at + 8]) for at in (0, 8, 16))


class Names(Case):
    def test_names(self):
        self.assertEqual(ask(coder_names), NAMES)

    def test_unknown_names(self):
        for name in ("", "Plain", "plain ", "quote", "heads", "bodies", "lower", "None", "\n"):
            self.raises(UnknownName, ready_coder, name)
            self.raises(UnknownName, ready_reader, name)

    def test_translators(self):
        for name in NAMES:
            for function, signs in ((ready_coder, (14, 28)), (ready_reader, (28, 14))):
                translator = ask(function, name)
                self.assertTrue(only_plain(translator))
                self.assertIsNone(check_translator(translator))
                self.assertTrue(slow.is_translator(translator))
                self.assertEqual(translator[:2], signs)
            self.assertIsNone(clash(ready_coder(name)))


class Coders(Case):
    def holds(self, name, content):
        letter = translate(ready_coder(name), content)
        self.assertEqual(letter, write(name, content), (name, content))
        self.assertEqual(translate(ready_reader(name), letter), content)
        self.assertTrue(slow_mail.is_letter(letter))
        return letter

    def test_ordinary_contents(self):
        self.assertEqual(self.holds("plain", (0, 5, 13)), (0, 5, 1, 13, 14, 19, 27))
        self.assertEqual(self.holds("quoted", (0, 4, 5, 13)), (0, 5, 1, 13, 14, 18, 19, 15, 15, 19, 17, 15))
        self.assertEqual(self.holds("pairs", (0, 5, 13)), (0, 5, 1, 13, 14, 14, 15, 15, 17, 15))
        self.assertEqual(self.holds("dotted", (6, 6, 11, 6, 0, 6)), (0, 5, 1, 13, 20, 20, 20, 25, 20, 20, 14, 20))
        self.assertEqual(self.holds("headed", (0, 5, 13)), (0, 5, 6, 7, 0, 0, 1, 1, 5, 1, 7, 6, 13))
        self.assertEqual(self.holds("headed", ()), (0, 5, 6, 7, 7, 6, 13))

    def test_lines(self):
        head = (0, 5, 1, 13)
        for many in range(20):
            letter = self.holds("lined", (0,) * many)
            lines = max(0, (many - 1) // 6)
            self.assertEqual(letter, head + ((14,) * 6 + (19, 25)) * lines + (14,) * (many - 6 * lines))
        self.assertEqual(self.holds("lined", (5,) * 7), head + (19, 15, 15) * 6 + (19, 25) + (19, 15, 15))

    def test_all_short_contents(self):
        for name in NAMES:
            for size in range(4):
                for content in product(range(14), repeat=size):
                    self.holds(name, content)

    def test_many_contents(self):
        rng = random.Random(4401)
        for name in NAMES:
            for _ in range(400):
                self.holds(name, tuple(rng.choice((0, 4, 5, 6, 6, 11, 11, rng.randrange(14))) for _ in range(
                    rng.randint(0, 40))))


class Readers(Case):
    def holds(self, name, letter):
        told = translate(ready_reader(name), letter)
        self.assertEqual(told, read(name, letter), (name, letter))
        return told

    def test_heads(self):
        for name in NAMES:
            for letter in ((), (0,), (0, 5, 1), (14,), (14, 13), (0, 27, 13), (13, 13), (13, 0), (13, 14, 12)):
                self.assertIsNone(self.holds(name, letter))
        for name in NAMES[2:]:
            for head in product(range(13), repeat=2):
                self.assertEqual(self.holds(name, head + (13,)), ())
            self.assertEqual(self.holds(name, tuple(range(14))), ())

    def test_quoted(self):
        for name in ("quoted", "lined"):
            # Two digits are read for each content sign, also for one that is not quoted.
            for sign in range(16):
                told = self.holds(name, (13, 19) + digits(sign))
                self.assertEqual(told, (sign,) if sign < 14 else None)
            for sign in range(14):
                self.assertEqual(self.holds(name, (13, 14 + sign)), (sign,) if sign != 5 else None)
            self.assertEqual(self.holds(name, (13, 19, 25, 19, 25, 14, 25)), (0, 11))
            for body in ((19,), (19, 14), (19, 14, 25), (19, 14, 18), (19, 18), (19, 22), (19, 19), (19, 24, 25)):
                self.assertIsNone(self.holds(name, (13,) + body))

    def test_pairs(self):
        for blank in (22, 23, 24, 25):
            self.assertEqual(self.holds("pairs", (13, blank, 15, blank, blank, 15, blank)), (5,))
            self.assertIsNone(self.holds("pairs", (13, 15, 15, blank, 15)))
        for sign in (18, 19, 20, 21, 26, 27):
            for body in ((sign,), (14, sign), (14, 14, sign), (14, sign, 14)):
                self.assertIsNone(self.holds("pairs", (13,) + body))

    def test_dotted(self):
        self.assertEqual(self.holds("dotted", (13, 20)), ())
        self.assertEqual(self.holds("dotted", (13, 20, 14, 20, 25, 20, 25, 20, 20, 20)), (0, 6, 11, 11, 6, 6))

    def test_headed(self):
        right = (0, 5, 6, 7, 0, 1, 5, 1, 7, 6, 13)
        self.assertEqual(self.holds("headed", right), (1, 13))
        for at in range(len(right)):
            self.assertIsNone(self.holds("headed", right[:at] + right[at + 1:]))
            self.assertIsNone(self.holds("headed", right[:at]))
            for sign in range(28):
                self.holds("headed", right[:at] + (sign,) + right[at:])
                self.holds("headed", right[:at] + (sign,) + right[at + 1:])
        self.assertIsNone(self.holds("headed", right + (14,)))
        self.assertIsNone(self.holds("headed", (0, 5, 6, 7, 5, 4, 7, 6, 13)))

    def test_all_short_letters(self):
        for name in NAMES:
            for size in range(3):
                for letter in product(range(28), repeat=size):
                    self.holds(name, letter)
            for size in range(4):
                for body in product(range(14, 28), repeat=size):
                    self.holds(name, (13,) + body)
            for body in product((14, 17, 19, 20, 25), repeat=5):
                self.holds(name, (0, 13) + body)

    def test_letters_near_sent_ones(self):
        rng = random.Random(4402)
        for name in NAMES:
            for _ in range(1500):
                letter = list(write(name, tuple(rng.randrange(14) for _ in range(rng.randint(0, 8)))))
                for _ in range(rng.randint(1, 3)):
                    at = rng.randrange(len(letter))
                    letter[at:at + rng.randint(0, 1)] = [rng.randrange(28)] * rng.randint(0, 1)
                self.holds(name, tuple(letter) or (13,))


class Back(Case):
    def test_without_relays(self):
        for name in NAMES:
            for book in ((), ((),), ((),) * 8):
                self.assertIs(ask(reads_back, ready_coder(name), book, ready_reader(name)), True)
                self.assertIsNone(spoiled(ready_coder(name), book, ready_reader(name)))

    def test_through_all_relays(self):
        book = all_in_three()
        self.assertEqual([len(relay) for relay in book], [8, 8, 5])
        for name in NAMES:
            coder, reader = ready_coder(name), ready_reader(name)
            self.assertIs(ask(reads_back, coder, book, reader), name in SAFE)
            if name in SAFE:
                self.assertTrue(judge_back(coder, book, reader, back_paper(coder, book, reader)))
            for relay in relay_names():
                told = ask(reads_back, coder, (ready_relay(relay),), reader)
                if name in SAFE:
                    self.assertTrue(told)
                elif name == "plain":
                    self.assertIs(told, relay in OF_HEADS)

    def test_plain(self):
        coder, reader = ready_coder("plain"), ready_reader("plain")
        self.assertTrue(reads_back(coder, ready_book(OF_HEADS), reader))
        for names in combinations(relay_names(), 2):
            self.assertIs(reads_back(coder, ready_book(names), reader), set(names) <= set(OF_HEADS))
        rng = random.Random(4501)
        for _ in range(150):
            known = OF_HEADS if rng.random() < 0.5 else relay_names()
            names = tuple(rng.choice(known) for _ in range(rng.randint(0, 8)))
            told = reads_back(coder, ready_book(names), reader)
            self.assertIs(told, set(names) <= set(OF_HEADS), names)

    def test_many_books(self):
        rng = random.Random(4502)
        for _ in range(60):
            names = tuple(rng.choice(relay_names()) for _ in range(rng.randint(3, 8)))
            for name in SAFE:
                self.assertTrue(reads_back(ready_coder(name), ready_book(names), ready_reader(name)))

    def test_letters_that_arrive(self):
        """Short contents are followed through all relays, letter by letter."""
        book = all_in_three()
        for name in SAFE:
            for content in ((), (6,), (8, 11), (11, 6), (9, 10)):
                for letter in slow.outcomes(book, write(name, content)):
                    self.assertEqual(read(name, letter), content)


if __name__ == "__main__":
    unittest.main()
