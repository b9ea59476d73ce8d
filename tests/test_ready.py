"""Point 43: ready relays and seal tables."""

import random
import unittest
from itertools import product

from anychain.books import check_book
from anychain.chains import apply_step, steps_of
from anychain.errors import InvalidBook, UnknownName
from anychain.ready import ready_book, ready_relay, ready_seal, relay_names, seal_names
from anychain.seals import check_seal_table
from tests import slow, slow_mail
from tests.helpers import Case, ask, only_plain

RELAYS = """
unfold: 10 to 8; 11 to 8. refold: 8 to 10; 9 to 11. lower: 2 to 0; 3 to 1. squeeze: 8 8 to 8; 9 to 8.
trim: 8 12 to 12; 8 13 to 13; 5 8 to 5. strip: 22 25 to 25; 23 25 to 25. detab: 23 to 22. blanks: 22 22 to 22.
join: 24 25 to 25. bare: 24 to 25. sevenbit: 26 to 27. undot: 25 20 to 25. wrap: 22 to 25. close: 25 25 to 25.
"""
SEALS = """
plain: . bodies: 23 to 22; 22 22 to 22; 22 25 to 25; 24 25 to 25; 25 25 to 25.
heads: 10 to 8; 11 to 8; 9 to 8; 8 8 to 8; 8 12 to 12; 8 13 to 13; 5 8 to 5; 2 to 0; 3 to 1.
"""
STRANGE = ("", " ", "Unfold", "unfold ", "un", "unfoldrefold", "relay", "None", "0", "quoted", "\n", "lower\n", "\xe4")


def word(text):
    return tuple(int(number) for number in text.split())


def told(text):
    """A dict from names to rules, as the document tells them."""
    found = {}
    for entry in " ".join(text.split()).split("."):
        name, _, rules = entry.strip().partition(":")
        if name:
            found[name] = tuple(
                tuple(word(side) for side in rule.split("to")) for rule in rules.split(";") if rule.strip()
            )
    return found


class Ready(Case):
    def test_names(self):
        self.assertEqual(ask(relay_names), tuple(sorted(told(RELAYS))))
        self.assertEqual(len(relay_names()), 14)
        self.assertEqual(ask(seal_names), ("bodies", "heads", "plain"))

    def test_relays(self):
        for name, rules in told(RELAYS).items():
            relay = ask(ready_relay, name)
            self.assertTrue(only_plain(relay))
            self.assertEqual(relay, rules)
            self.assertIsNone(check_book(28, (relay,)))
            self.assertTrue(slow.is_book(28, (relay,)))

    def test_seals(self):
        for name, rules in told(SEALS).items():
            table = ask(ready_seal, name)
            self.assertTrue(only_plain(table))
            self.assertEqual(table, rules)
            self.assertIsNone(check_seal_table(28, table))

    def test_unknown_names(self):
        for name in STRANGE + seal_names():
            self.raises(UnknownName, ready_relay, name)
            self.raises(UnknownName, ready_book, (name,))
            self.raises(UnknownName, ready_book, ("lower", name, "trim"))
        for name in STRANGE + relay_names():
            self.raises(UnknownName, ready_seal, name)

    def test_books(self):
        self.assertEqual(ask(ready_book, ()), ())
        self.assertEqual(ask(ready_book, ("wrap", "lower", "wrap")), tuple(
            ready_relay(name) for name in ("wrap", "lower", "wrap")
        ))
        rng = random.Random(4301)
        for _ in range(200):
            names = tuple(rng.choice(relay_names()) for _ in range(rng.randint(0, 8)))
            book = ask(ready_book, names)
            self.assertTrue(only_plain(book))
            self.assertEqual(book, tuple(told(RELAYS)[name] for name in names))
            self.assertIsNone(check_book(28, book))

    def test_numbers_of_names(self):
        names = relay_names()
        self.assertEqual(len(ask(ready_book, names[:8])), 8)
        self.raises(InvalidBook, ready_book, names[:9])
        self.raises(InvalidBook, ready_book, names)
        self.raises(InvalidBook, ready_book, ("lower",) * 9)
        self.raises(InvalidBook, ready_book, ("lower",) * 1000)
        # A name that is not known comes first, wherever it stands.
        for many in (7, 8, 9, 13):
            for at in range(many + 1):
                self.raises(UnknownName, ready_book, names[:at] + ("plain",) + names[at:many])


class Letters(Case):
    def holds(self, letter):
        for name in relay_names():
            book = (ready_relay(name),)
            for step in steps_of(book, letter):
                self.assertTrue(slow_mail.is_letter(apply_step(book, letter, step)), (letter, name, step))

    def test_no_step_leads_to_a_word_that_is_no_letter(self):
        for size in range(4):
            for letter in product(range(14), repeat=size):
                if slow_mail.is_letter(letter):
                    self.holds(letter)
        for head in ((13,), (0, 13), (8, 13)):
            for body in product(range(14, 28), repeat=3):
                self.assertTrue(slow_mail.is_letter(head + body))
                self.holds(head + body)

    def test_many_letters(self):
        rng = random.Random(4302)
        letters = 0
        for _ in range(6000):
            head = tuple(rng.choice((0, 2, 5, 8, 8, 8, 9, 10, 11, 12)) for _ in range(rng.randint(0, 7)))
            body = (13,) + tuple(rng.choice((14, 20, 22, 23, 24, 25, 25, 26)) for _ in range(rng.randint(0, 4)))
            letter = head + body * rng.randint(0, 1)
            if slow_mail.is_letter(letter):
                letters += 1
                self.holds(letter)
        self.assertGreater(letters, 500)


if __name__ == "__main__":
    unittest.main()
