"""Points 36 and 37: the signs of mail."""

import random
import unittest
from itertools import product

from anychain.mailsigns import content_signs, content_text, is_letter, signs_of, text_of
from tests import slow_mail
from tests.helpers import Case, ask, only_plain

ODD_CHARACTERS = "cZ0_;\x00\x0b\x0c\x1f\x7f\x85\xa0\xe4\u2028\u3000\ud800\U0001f4e8"


def texts(characters, length):
    for size in range(length + 1):
        for text in product(characters, repeat=size):
            yield "".join(text)


class SignsOf(Case):
    def holds(self, text):
        """The signs, or the place of the first character that is none, are those of a slow reading."""
        expected = slow_mail.signs_of(text)
        if type(expected) is int:
            self.bad_at(expected, signs_of, text)
            return expected
        signs = ask(signs_of, text)
        self.assertTrue(only_plain(signs))
        self.assertEqual(signs, expected, text)
        self.assertEqual(ask(text_of, signs), text)
        self.assertIs(ask(is_letter, signs), True)
        return signs

    def test_ordinary_texts(self):
        self.assertEqual(self.holds("a:\n b\n\n>a"), (0, 5, 10, 1, 13, 21, 14))
        self.assertEqual(self.holds("abAB-:=? \t\n \n\t\nb\n\nabAB-=.> \t\r\n#?"), tuple(range(13)) + (1,) + tuple(
            range(13, 28)))
        self.assertEqual(self.holds(""), ())

    def test_each_sign(self):
        for sign in range(13):
            self.assertEqual(self.holds(slow_mail.HEAD[sign]), (sign,))
            self.assertEqual(self.holds("a" + slow_mail.HEAD[sign] + "b\n\n"), (0, sign, 1, 13))
        for at in range(14):
            self.assertEqual(self.holds("\n\n" + slow_mail.BODY[at]), (13, 14 + at))

    def test_newlines(self):
        self.assertEqual(self.holds("\n"), (12,))
        self.assertEqual(self.holds("a\n"), (0, 12))
        self.assertEqual(self.holds("\n\n"), (13,))
        self.assertEqual(self.holds("\n\n\n"), (13, 25))
        self.assertEqual(self.holds("\n\n\n\n"), (13, 25, 25))
        self.assertEqual(self.holds("\n \n\n"), (10, 13))
        self.assertEqual(self.holds("\n \n\t\n \n"), (10, 11, 10, 12))
        self.assertEqual(self.holds("\n  \n\t\t"), (10, 8, 11, 9))
        self.assertEqual(self.holds("\n\n \n\t"), (13, 22, 25, 23))
        self.assertEqual(self.holds("\na\n:"), (12, 0, 12, 5))
        self.assertEqual(self.holds("a\n\n\r\n"), (0, 13, 24, 25))

    def test_a_head_without_an_end(self):
        self.assertEqual(self.holds("a:b\n b\na"), (0, 5, 1, 10, 1, 12, 0))
        self.assertEqual(self.holds("a#"), 1)

    def test_characters_that_are_no_signs(self):
        for character in ODD_CHARACTERS + "#.>\r":
            self.assertEqual(self.holds(character), 0)
            self.assertEqual(self.holds("ab" + character), 2)
            self.assertEqual(self.holds(character + "ab\n\nab"), 0)
            self.assertEqual(self.holds("a\n" + character + "b"), 2)
            self.assertEqual(self.holds("a\n " + character + "\n\n"), 3)
        for character in ODD_CHARACTERS + ":":
            self.assertEqual(self.holds("\n\n" + character), 2)
            self.assertEqual(self.holds("a\n\nab" + character + character), 5)
            self.assertEqual(self.holds("\n\n\n" + character), 3)

    def test_the_first_one_is_told(self):
        self.assertEqual(self.holds("aa#b#\n\n:"), 2)
        self.assertEqual(self.holds("aa\n\n#:#c"), 5)
        self.assertEqual(self.holds("\n#\n"), 1)

    def test_all_short_texts(self):
        for text in texts("a \t\n:#", 5):
            self.holds(text)
        for text in texts("\n ", 10):
            self.holds(text)

    def test_many_texts(self):
        rng = random.Random(3701)
        for _ in range(3000):
            text = "".join(rng.choice("abAB-:=? \t\n\n\n\n") for _ in range(rng.randint(0, 12)))
            text += "".join(rng.choice("abAB-=.> \t\r\n#?" + ":z") for _ in range(rng.randint(0, 12)))
            self.holds(text)

    def test_long_texts(self):
        text = "a:" + "\n b" * 50000 + "\n\n" + "#\r\n" * 50000
        self.assertEqual(text_of(signs_of(text)), text)
        self.bad_at(len(text), signs_of, text + ":")


class Letters(Case):
    def holds(self, word):
        told = ask(is_letter, word)
        self.assertIs(told, slow_mail.is_letter(word), word)
        return told

    def test_words_whose_text_is_read_as_other_signs(self):
        for word in (
            (12, 8), (12, 9), (12, 10), (12, 11), (12, 12), (12, 13), (0, 12, 8, 1), (8, 12, 12, 0), (13, 0), (13, 12),
            (13, 10), (13, 13), (14,), (0, 27), (13, 14, 0), (22, 13), (13, 13, 14), (25, 25),
        ):
            self.assertIs(self.holds(word), False)

    def test_letters(self):
        for word in (
            (), (0,), (12,), (13,), (12, 0), (10, 8), (10, 10), (10, 12), (11, 13), (8, 12, 0, 12), (13, 25, 22),
            (13, 26), (0, 5, 10, 1, 13, 21, 14), tuple(range(13)) + (0, 13) + tuple(range(14, 28)),
        ):
            self.assertIs(self.holds(word), True)

    def test_integers_that_are_no_signs(self):
        for sign in (-1, -14, -28, 28, 29, 10 ** 30, -10 ** 30):
            for word in ((sign,), (0, sign), (sign, 0), (13, sign), (13, 14, sign), (sign,) * 3):
                self.assertIs(self.holds(word), False)

    def test_all_short_words(self):
        for size in range(4):
            for word in product(range(28), repeat=size):
                self.assertEqual(is_letter(word), slow_mail.is_letter(word), word)
                self.assertEqual(text_of(word), slow_mail.text_of(word))

    def test_many_words(self):
        rng = random.Random(3702)
        many = 0
        for _ in range(4000):
            head = [rng.choice((0, 5, 8, 8, 9, 10, 11, 12)) for _ in range(rng.randint(0, 5))]
            body = [rng.randrange(14, 28) for _ in range(rng.randint(0, 4))]
            word = tuple(head + [13] * rng.randint(0, 1) + body)
            many += self.holds(word)
            self.assertEqual(ask(text_of, word), slow_mail.text_of(word))
        self.assertGreater(many, 500)


class Contents(Case):
    def test_each_sign(self):
        for sign in range(14):
            self.assertEqual(ask(content_text, (sign,)), slow_mail.BODY[sign])
            self.assertEqual(ask(content_signs, slow_mail.BODY[sign]), (sign,))
        self.assertEqual(ask(content_text, ()), "")
        self.assertEqual(ask(content_signs, ""), ())
        self.assertEqual(ask(content_text, tuple(range(14))), "abAB-=.> \t\r\n#?")

    def test_texts(self):
        for text in texts("a\n\r #", 4):
            content = ask(content_signs, text)
            self.assertTrue(only_plain(content))
            self.assertEqual(content, tuple(slow_mail.BODY.index(character) for character in text))
            self.assertEqual(ask(content_text, content), text)
            # They are the signs of a body less 14.
            self.assertEqual(signs_of("\n\n" + text)[1:], tuple(sign + 14 for sign in content))

    def test_characters_that_are_no_signs(self):
        for character in ODD_CHARACTERS + ":":
            self.bad_at(0, content_signs, character)
            self.bad_at(0, content_signs, character + "ab")
            self.bad_at(3, content_signs, "\n\n#" + character)
            self.bad_at(1, content_signs, "." + character + "a" + character)


if __name__ == "__main__":
    unittest.main()
