"""Points 38, 39 and 40: heads."""

import random
import unittest
from itertools import product

from anychain.errors import BadLetter
from anychain.heads import fold_text, head_lines, read_letter, unfold_text, write_letter
from anychain.mailsigns import is_letter, signs_of
from tests import slow_mail
from tests.helpers import ODD_VALUES, Case, ask, only_plain
from tests.test_mailsigns import ODD_CHARACTERS, texts

FIELDS = (("a", "b"), ("A-B", ""), ("-", "a:b =\t?"), ("b", ":"))


class Heads(Case):
    def agrees(self, function, *args):
        """The answer, or the place of BadLetter, is that of the slow reckoning of the same name."""
        expected = getattr(slow_mail, function.__name__)(*args)
        if type(expected) is int:
            self.bad_at(expected, function, *args)
        else:
            told = ask(function, *args)
            self.assertTrue(only_plain(told))
            self.assertEqual(told, expected, args)
        return expected


class WriteLetter(Heads):
    def holds(self, fields, body):
        told = self.agrees(write_letter, fields, body)
        if type(told) is str:
            self.assertEqual(ask(read_letter, told), (fields, body))
        return told

    def test_ordinary_letters(self):
        self.assertEqual(self.holds((("a", "b"),), ""), "a: b\n\n")
        self.assertEqual(self.holds((("a", ""),), ">\r\n"), "a:\n\n>\r\n")
        self.assertEqual(self.holds(FIELDS, "\n\n#."), "a: b\nA-B:\n-: a:b =\t?\nb: :\n\n\n\n#.")

    def test_names(self):
        for name in texts("aB-: =\t", 2):
            self.assertIs(type(self.holds(((name, "a"),), "")) is str, name != "" and not set(name) & set(": =\t"))
        for character in ODD_CHARACTERS + "#.>?\r\n":
            for name in (character, "a" + character, character + "a"):
                self.assertEqual(self.holds((("a", ""), (name, "")), ""), 1)

    def test_values(self):
        for value in texts("a: \t", 4):
            self.assertIs(type(self.holds((("a", value),), "")) is str, value.strip() == value)
        for character in ODD_CHARACTERS + "#.>\r\n":
            for value in (character, "a" + character, character + "a", "a" + character + "a"):
                self.assertEqual(self.holds((("a", ""), ("b", value)), ""), 1)

    def test_bodies(self):
        for body in texts("a\n #:", 4):
            told = self.holds((("a", "b"),), body)
            self.assertEqual(told, body.index(":") if ":" in body else "a: b\n\n" + body)
        for character in ODD_CHARACTERS:
            self.assertEqual(self.holds(FIELDS, character + "a"), 0)
            self.assertEqual(self.holds(FIELDS, "a\n\n" + character), 3)

    def test_the_order_of_faults(self):
        self.assertEqual(self.holds((), ""), 0)
        self.assertEqual(self.holds((), "aaa:"), 0)
        self.assertEqual(self.holds((("a", ""), ("a", " "), ("", "")), ":"), 1)
        self.assertEqual(self.holds((None, ("a", "")), "a"), 0)
        self.assertEqual(self.holds((("a", ""), ("a", "b")), "aaaa:"), 4)

    def test_any_value_as_a_field(self):
        strange = ODD_VALUES + (
            ["a", "b"], ("a",), ("a", "b", "a"), (("a", "b"),), ("a", None), (None, "a"), ("a", b"b"), (b"a", "b"),
            ("a", ["b"]), (["a"], ""), ("a", ("b",)), (("a",), ""), ("a", 0), (0, ""), (True, ""), ("a", False), "ab",
            {"a": "b"}, frozenset("ab"), ("a", {}), range(2), Heads, ("a", "b "), ("a ", "b"), ("", ""), ("a", 1.5),
        )
        for value in strange:
            self.assertEqual(self.holds((value,), ""), 0)
            self.assertEqual(self.holds(FIELDS + (value,) + FIELDS, ""), 4)
            self.assertEqual(self.holds((value, value), ":"), 0)

    def test_values_spoilt_in_one_place(self):
        for at in range(len(FIELDS)):
            for part in (0, 1):
                for odd in ODD_VALUES:
                    field = list(FIELDS[at])
                    field[part] = odd
                    self.holds(FIELDS[:at] + (tuple(field),) + FIELDS[at + 1:], "a")

    def test_many_letters(self):
        rng = random.Random(3801)
        for _ in range(1500):
            fields = []
            for _ in range(rng.randint(0, 4)):
                name = "".join(rng.choice("abAB--aaaa:" if rng.random() < 0.1 else "abAB-") for _ in range(
                    rng.choice((1, 1, 2, 3, 4, 5, 0)) if rng.random() < 0.2 else 2))
                value = "".join(rng.choice("abAB-:=? \t") for _ in range(rng.randint(0, 7)))
                fields.append((name, value if rng.random() < 0.1 else value.strip()))
            self.holds(tuple(fields), "".join(rng.choice("abAB-=.> \t\r\n#?") for _ in range(rng.randint(0, 6))))


class ReadLetter(Heads):
    def holds(self, text):
        told = self.agrees(read_letter, text)
        if type(told) is tuple:
            self.assertTrue(is_letter(signs_of(text)))
            # What is written again is the same but for the folds and the blanks around the values.
            self.assertEqual(read_letter(write_letter(*told)), told)
        return told

    def test_ordinary_letters(self):
        self.assertEqual(self.holds("a: b\n\n"), ((("a", "b"),), ""))
        self.assertEqual(self.holds("a: b\nA-: =\n ?\n\t:\n\n>a\n\n"), ((("a", "b"), ("A-", "= ?\t:")), ">a\n\n"))
        self.assertEqual(self.holds("a:\nb: \t \nb:\n \n\n\n"), ((("a", ""), ("b", ""), ("b", "")), "\n"))
        self.assertEqual(self.holds("a::b:\n\n"), ((("a", ":b:"),), ""))
        self.assertEqual(self.holds("a:b\n \n \n\n#"), ((("a", "b"),), "#"))
        self.assertEqual(self.holds("a:\n\tb \tb\n \n\n"), ((("a", "b \tb"),), ""))

    def test_heads_of_one_line(self):
        self.assertEqual(self.holds("\n\n"), 0)
        self.assertEqual(self.holds("\n\na: b"), 2 + 1)
        self.assertEqual(self.holds("\n \n\n"), 0)
        self.assertEqual(self.holds(":\n\n"), 0)
        self.assertEqual(self.holds("a\n\n"), 0)
        self.assertEqual(self.holds("a:\n\n"), ((("a", ""),), ""))

    def test_lines_that_are_no_fields(self):
        for line in ("", "a", ":", ":a", " a:", "\ta:", "a :b", "a\t:", "a b:", "=:", "a?:", "a=b", "a\n :", "a\n b:"):
            if line:
                self.assertEqual(self.holds(line + "\n\n"), 0)
                self.assertEqual(self.holds(line + "\na: b\n\na"), 0)
            # A line that begins with a blank belongs to the one before it.
            if line[:1] not in ("", " ", "\t"):
                self.assertEqual(self.holds("a: b\n B\n" + line + "\n\n"), 8)
                self.assertEqual(self.holds("a:\n \n\tb\n" + line + "\nb:\n" + line + "\n\n#"), 8)
        self.assertEqual(self.holds("\na:\n\n"), 0)
        self.assertEqual(self.holds("\n a:\n\n"), 0)

    def test_the_order_of_faults(self):
        # First a character that is no sign, then a head without an end, then a line that is no field.
        self.assertEqual(self.holds("a\nb#"), 3)
        self.assertEqual(self.holds("a\nb\n\n:"), 5)
        self.assertEqual(self.holds("a\nb"), 3)
        self.assertEqual(self.holds("a: b\n"), 5)
        self.assertEqual(self.holds(""), 0)
        self.assertEqual(self.holds("a: b\n \n\t\n"), 9)
        for character in ODD_CHARACTERS:
            self.assertEqual(self.holds(character), 0)
            self.assertEqual(self.holds("a\n\n#" + character), 4)

    def test_all_short_texts(self):
        for text in texts("a: \t\n", 5):
            self.holds(text)
            self.holds("a:" + text + "\n\n#")
        for text in texts("a:\n", 7):
            self.holds(text + "\n\n")

    def test_many_texts(self):
        rng = random.Random(3901)
        read = 0
        for _ in range(3000):
            lines = []
            for _ in range(rng.randint(1, 4)):
                line = rng.choice(("a:", "b-:", "AB:", "a", "", ":", "a b:")) if rng.random() < 0.2 else rng.choice(
                    ("a:", "b-:", "AB:"))
                lines.append(line + "".join(rng.choice(" \tab:=?\n ") for _ in range(rng.randint(0, 4))))
            text = "\n".join(lines).rstrip("\n") + "\n\n" + rng.choice(("", "a", "\n", "#\r\n", ":"))
            read += type(self.holds(text)) is tuple
        self.assertGreater(read, 500)

    def test_long_texts(self):
        text = "a:" + "\n b" * 30000 + "\n" + "b: a\n" * 30000 + "\n"
        fields, body = read_letter(text)
        self.assertEqual((len(fields), len(fields[0][1]), body), (30001, 59999, ""))
        self.bad_at(len(text) - 1, read_letter, text[:-1] + "b\n\n")


class Unfold(Heads):
    def holds(self, text):
        told = self.agrees(unfold_text, text)
        self.agrees(head_lines, text)
        if type(told) is str:
            self.assertEqual(ask(unfold_text, told), told)
            self.assertEqual("\n".join(head_lines(text)), text.partition("\n\n")[0])
        return told

    def test_ordinary_texts(self):
        self.assertEqual(self.holds("a: b\n a\n\tb\nb:\n\n\n b"), "a: b a\tb\nb:\n\n\n b")
        self.assertEqual(head_lines("a: b\n a\n\tb\nb:\n\n\n b"), ("a: b", " a", "\tb", "b:"))
        self.assertEqual(self.holds("\n a\n  b\n\n"), " a  b\n\n")
        self.assertEqual(head_lines("\n a\n  b\n\n"), ("", " a", "  b"))

    def test_heads_without_an_end(self):
        for text, lines in (
            ("", ("",)), ("a", ("a",)), ("a\n", ("a", "")), ("\n", ("", "")), ("a\n b", ("a", " b")), ("\n\n", ("",)),
            ("\na", ("", "a")), ("a\n \n", ("a", " ", "")), ("a\n\n\n", ("a",)), ("\n\n b", ("",)),
        ):
            self.holds(text)
            self.assertEqual(head_lines(text), lines)

    def test_all_short_texts(self):
        for text in texts("a \t\n#", 6):
            self.holds(text)

    def test_bad_letters(self):
        for function in (unfold_text, head_lines):
            for text, place in (("c", 0), ("a\n #", 3), ("a\n\nab:", 5), ("\n\n\x00", 2), ("\r\n\r\n", 0)):
                self.bad_at(place, function, text)


class Fold(Heads):
    def holds(self, text, width):
        told = self.agrees(fold_text, text, width)
        if type(told) is str:
            self.assertEqual(unfold_text(told), unfold_text(text))
            self.assertEqual(ask(fold_text, told, width), told)
            for line in head_lines(told):
                self.assertTrue(len(line) <= width or not set(line[1:]) & set(" \t"))
        return told

    def test_ordinary_texts(self):
        self.assertEqual(self.holds("a: bb aa b\n\n", 6), "a: bb\n aa b\n\n")
        self.assertEqual(self.holds("a: bb aa b\n\n", 5), "a: bb\n aa b\n\n")
        self.assertEqual(self.holds("a: bb aa b\n\n", 4), "a:\n bb\n aa\n b\n\n")
        self.assertEqual(self.holds("a: bb\taa b\n\n#", 8), "a: bb\taa\n b\n\n#")
        # It is unfolded first; and the body is left as it is.
        self.assertEqual(self.holds("a:\n b\n\tb\nb: a a\n\n a a a\n a", 6), "a: b\tb\nb: a a\n\n a a a\n a")

    def test_widths_about_the_length_of_a_line(self):
        line = "a: bbb aaa"
        self.assertEqual(self.holds(line + "\n\n", len(line)), line + "\n\n")
        self.assertEqual(self.holds(line + "\n\n", len(line) + 1), line + "\n\n")
        self.assertEqual(self.holds(line + "\n\n", len(line) - 1), "a: bbb\n aaa\n\n")
        self.assertEqual(self.holds(line + "\n\n", 7), "a: bbb\n aaa\n\n")
        self.assertEqual(self.holds(line + "\n\n", 6), "a: bbb\n aaa\n\n")
        self.assertEqual(self.holds(line + "\n\n", 5), "a:\n bbb\n aaa\n\n")
        self.assertEqual(self.holds(line, 1), "a:\n bbb\n aaa")
        self.assertEqual(self.holds(line, 10 ** 30), line)

    def test_lines_without_blanks(self):
        for line in ("a:bbbbbbbb", " abababab", "\tabababab", "", " "):
            for width in (1, 2, 5, 9, 20):
                self.assertEqual(self.holds(line, width), line)
                self.assertEqual(self.holds(line + "\n\n", width), line + "\n\n")
        self.assertEqual(self.holds("aaaaaa aaaaaa\taaaaaa", 3), "aaaaaa\n aaaaaa\n\taaaaaa")
        self.assertEqual(self.holds("aaaaaa aaaaaa\taaaaaa", 13), "aaaaaa aaaaaa\n\taaaaaa")

    def test_blanks_and_tabs_side_by_side(self):
        self.assertEqual(self.holds("a  b", 1), "a\n \n b")
        self.assertEqual(self.holds("a  b", 2), "a \n b")
        self.assertEqual(self.holds("a  b", 3), "a \n b")
        self.assertEqual(self.holds("a \t b\n\n", 3), "a \t\n b\n\n")
        self.assertEqual(self.holds("a \n\n", 1), "a\n \n\n")
        self.assertEqual(self.holds(" \t \n\n", 1), " \n\t\n \n\n")
        self.assertEqual(self.holds("\n \n \n \n\n", 2), "  \n \n\n")

    def test_the_first_character_of_a_line_is_not_folded(self):
        self.assertEqual(self.holds(" a b", 2), " a\n b")
        self.assertEqual(self.holds("\n aaaa", 2), " aaaa")
        self.assertEqual(self.holds("\n\taaaa b", 1), "\taaaa\n b")

    def test_all_short_heads(self):
        for text in texts("a \t\n", 5):
            for width in (1, 2, 3, 4, 5):
                self.holds(text, width)
        for text in product("a ", repeat=8):
            for width in (1, 2, 3, 4, 5, 7):
                self.agrees(fold_text, "".join(text) + "\n\n", width)

    def test_many_heads(self):
        rng = random.Random(4001)
        for _ in range(1200):
            text = "".join(rng.choice("aaaab:? \t\n") for _ in range(rng.randint(0, 16)))
            self.holds(text + rng.choice(("", "\n\n", "\n\n a a\n#")), rng.randint(1, 12))

    def test_bad_letters(self):
        for width in (1, 5, 100):
            for text, place in (("c", 0), ("a a\n #", 5), ("a\n\nab:", 5), ("\n\n\x00", 2), ("a a#", 3)):
                self.bad_at(place, fold_text, text, width)

    def test_long_texts(self):
        text = "a:" + " bb" * 20000 + "\n\n"
        lines = head_lines(fold_text(text, 61))
        self.assertEqual({len(line) for line in lines[1:-1]}, {60})
        self.assertEqual(len(lines), 1001)


class Errors(Case):
    def test_other_classes(self):
        self.raises(BadLetter, write_letter, (0,), "")
        self.raises(BadLetter, read_letter, "")


if __name__ == "__main__":
    unittest.main()
