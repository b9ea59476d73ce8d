"""Points 25 and 26: books compared."""

import random
import unittest

from anychain.books import check_book
from anychain.comparing import first_lack, same_book, slim_book, spare_rules
from tests import making, slow
from tests.helpers import Case, ask, only_plain


def comes(book, first, last):
    return last in slow.outcomes(book, first)


def rules_of(book):
    return [(relay, rule) for relay, rules in enumerate(book) for rule in range(len(rules))]


def without(book, relay, rule):
    rules = [list(part) for part in book]
    del rules[relay][rule]
    return tuple(tuple(part) for part in rules)


class Lack(Case):
    def holds(self, first, second):
        told = ask(first_lack, first, second)
        self.assertTrue(only_plain(told))
        lacks = [(k, m) for k, m in rules_of(first) if not comes(second, *first[k][m])]
        self.assertEqual(told, lacks[0] if lacks else None)
        return told

    def test_ordinary_books(self):
        self.assertIsNone(self.holds((), ()))
        self.assertIsNone(self.holds(((), ()), ()))
        self.assertEqual(self.holds((((), ((((0,), ())), ((1,), ()))))[1:], ()), (0, 0))
        self.assertEqual(self.holds(((), (((0,), ()), ((1,), ()))), ((((0,), ()),),)), (1, 1))
        self.assertIsNone(self.holds(((((0, 0), ()),),), ((((0,), ()),),)))
        self.assertEqual(self.holds(((((0,), ()),),), ((((0, 0), ()),),)), (0, 0))

    def test_a_right_side_that_comes_by_way_of_empty_words(self):
        self.assertIsNone(self.holds(((((0, 1), (2,)),),), ((((0,), ()), ((1,), (2,))),)))
        self.assertIsNone(self.holds(((((0, 1, 0, 1), (2,)),),), ((((0,), ()), ((1, 1), (2,))),)))

    def test_rings(self):
        first = ((((0,), (1,)), ((1,), (0,))),)
        second = ((((0,), (2,)), ((2,), (1,)), ((1,), (0,))),)
        self.assertIsNone(self.holds(first, second))
        self.assertEqual(self.holds(second, first), (0, 0))

    def test_words_of_which_very_many_come(self):
        # Each sign may become each other one; so hundreds of thousands of words come of one of four signs.
        ring = [((sign,), ((sign + 1) if sign < 29 else 0,)) for sign in range(30)]
        book = tuple(tuple(ring[at:at + 8]) for at in range(0, 30, 8)) + ((((0, 1, 2, 3), ()),),)
        self.assertIsNone(ask(first_lack, ((((29, 7, 7, 7), ()), ((5,), (4,))),), book))
        self.assertEqual(ask(first_lack, ((((29, 7, 7, 7), ()), ((5, 5, 5), (4,))),), book), (0, 1))
        self.assertIs(ask(same_book, book, book), True)

    def test_same_book(self):
        one = ((((0, 0), (0,)), ((0,), ())),)
        other = ((), (((0,), ()),))
        self.assertIs(ask(same_book, one, other), True)
        self.assertIs(ask(same_book, one, ()), False)
        self.assertIs(ask(same_book, (), one), False)
        self.assertIs(ask(same_book, ((), ()), ()), True)

    def test_many_books(self):
        rng = random.Random(251)
        same = 0
        for _ in range(1500):
            signs = rng.randint(1, 3)
            first, second = making.book(rng, signs, 2, 2, 3), making.book(rng, signs, 3, 4, 2)
            there, back = self.holds(first, second), self.holds(second, first)
            self.assertIs(ask(same_book, first, second), there is None and back is None)
            same += there is None and back is None and any(first)
        self.assertGreater(same, 10)

    def test_what_it_says_of_all_words(self):
        rng = random.Random(252)
        for _ in range(150):
            first, second = making.book(rng, 2, 2, 2, 2), making.book(rng, 2, 3, 3, 2)
            if first_lack(first, second) is None:
                for word in slow.all_words(2, 5):
                    self.assertLessEqual(slow.outcomes(first, word), slow.outcomes(second, word))


class Spare(Case):
    def holds(self, book):
        told = ask(spare_rules, book)
        self.assertTrue(only_plain(told))
        expected = [(k, m) for k, m in rules_of(book) if comes(without(book, k, m), *book[k][m])]
        self.assertEqual(told, tuple(expected))
        slim = book
        for relay, rule in rules_of(book)[::-1]:
            if comes(without(slim, relay, rule), *slim[relay][rule]):
                slim = without(slim, relay, rule)
        self.assertEqual(ask(slim_book, book), slim)
        self.assertTrue(only_plain(slim))
        check_book(30, slim_book(book))
        return told, slim

    def test_ordinary_books(self):
        self.assertEqual(self.holds(()), ((), ()))
        self.assertEqual(self.holds(((), ())), ((), ((), ())))
        self.assertEqual(self.holds(((((0, 0), (0,)), ((0,), ())),)), (((0, 0),), ((((0,), ()),),)))

    def test_a_rule_that_stands_twice(self):
        rule = ((0,), ())
        self.assertEqual(self.holds(((rule,), (rule,))), (((0, 0), (1, 0)), ((rule,), ())))
        self.assertEqual(self.holds(((rule, rule),)), (((0, 0), (0, 1)), ((rule,),)))
        self.assertEqual(self.holds(((rule, rule, rule),))[1], ((rule,),))

    def test_rules_that_are_spare_only_together_with_another(self):
        # 0 becomes 2 by 1, and 1 becomes 2 by 0: each of two ways makes the other one spare.
        book = ((((0,), (1,)), ((1,), (0,)), ((0,), (2,)), ((1,), (2,))),)
        told, slim = self.holds(book)
        self.assertEqual(told, ((0, 2), (0, 3)))
        self.assertEqual(slim, (book[0][:3],))

    def test_relays_without_rules_stay(self):
        book = ((), (((0,), ()),), (((0, 0), ()),), ())
        self.assertEqual(self.holds(book)[1], ((), (((0,), ()),), (), ()))

    def test_many_books(self):
        rng = random.Random(261)
        slimmed = 0
        for _ in range(800):
            book = making.book(rng, rng.randint(1, 3), 3, 3, 2)
            told, slim = self.holds(book)
            self.assertIs(same_book(book, slim), True)
            slimmed += len(told) > len(rules_of(book)) - len(rules_of(slim))
        self.assertGreater(slimmed, 10)


if __name__ == "__main__":
    unittest.main()
