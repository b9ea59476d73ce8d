"""Point 10: least words, all short words, and how many there are."""

import random
import unittest

from anychain.errors import TooLong
from anychain.finding import common_word, count_words, is_finite, only_first, words_of
from anychain.machines import least_machine
from tests import making, slow
from tests.helpers import ask, only_plain

NOTHING = (2, (), ())
EMPTY_WORD = (2, (0,), ((-1, -1),))
ALL = (2, (0,), ((0, 0),))
ZEROS = (2, (1,), ((1, -1), (1, -1)))
FINITE = (2, (0, 2), ((1, 2), (2, -1), (-1, -1)))


def machines(seed, count, signs=2, states=5, moves=10):
    rng = random.Random(seed)
    return [least_machine(making.net(rng, signs, states, moves)) for _ in range(count)]


def one_sign(states, ends):
    """The machine over one sign that takes exactly the lengths in `ends`, all below `states`."""
    return (1, tuple(ends), tuple((k + 1,) for k in range(states - 1)) + ((-1,),))


class LeastWords(unittest.TestCase):
    def test_ordinary_pairs(self):
        self.assertEqual(ask(common_word, ALL, ZEROS), (0,))
        self.assertEqual(ask(common_word, ZEROS, FINITE), (0, 0))
        self.assertEqual(ask(common_word, ALL, ALL), ())
        self.assertEqual(ask(only_first, ALL, ZEROS), ())
        self.assertEqual(ask(only_first, ALL, EMPTY_WORD), (0,))
        self.assertEqual(ask(only_first, ZEROS, FINITE), (0,))
        self.assertEqual(ask(only_first, FINITE, ZEROS), ())
        self.assertIs(ask(only_first, ZEROS, ALL), None)
        self.assertIs(ask(common_word, ZEROS, EMPTY_WORD), None)

    def test_the_machine_that_takes_nothing(self):
        for machine in (NOTHING, EMPTY_WORD, ALL, ZEROS, FINITE):
            self.assertIs(ask(common_word, machine, NOTHING), None)
            self.assertIs(ask(common_word, NOTHING, machine), None)
            self.assertIs(ask(only_first, NOTHING, machine), None)
            self.assertIs(ask(only_first, machine, machine), None)
        self.assertEqual(ask(only_first, ZEROS, NOTHING), (0,))
        self.assertEqual(ask(only_first, ALL, NOTHING), ())

    def test_shorter_words_come_first(self):
        # The words are 0 0 0 and 1: the second one is less, since it is shorter.
        first = (2, (2,), ((1, 2), (3, -1), (-1, -1), (2, -1)))
        self.assertTrue(slow.is_machine(first))
        self.assertEqual(ask(common_word, first, ALL), (1,))
        self.assertEqual(ask(only_first, first, ZEROS), (1,))

    def test_many_pairs_in_both_orders(self):
        found = machines(101, 40)
        words = slow.all_words(2, 7)
        for first in found:
            for second in found:
                both = [word for word in words if slow.takes(first, word) and slow.takes(second, word)]
                one = [word for word in words if slow.takes(first, word) and not slow.takes(second, word)]
                for told, expected in ((common_word(first, second), both), (only_first(first, second), one)):
                    if expected:
                        self.assertEqual(told, expected[0])
                    else:
                        self.assertTrue(told is None or len(told) > 7)
                told = ask(common_word, first, second)
                self.assertTrue(told is None or (slow.takes(first, told) and slow.takes(second, told)))
                told = ask(only_first, first, second)
                self.assertTrue(told is None or (slow.takes(first, told) and not slow.takes(second, told)))
                self.assertTrue(only_plain(told))

    def test_long_least_words(self):
        def ring(size, end):
            return (1, (end,), tuple(((k + 1) % size,) for k in range(size)))

        self.assertEqual(ask(common_word, ring(101, 1), ring(103, 0)), (0,) * (51 * 103))
        self.assertIs(ask(common_word, ring(100, 1), ring(60, 0)), None)
        self.assertEqual(ask(only_first, (1, (0,), ((0,),)), one_sign(500, range(500))), (0,) * 500)
        self.assertIs(ask(only_first, one_sign(500, range(500)), (1, (0,), ((0,),))), None)

    def test_thirty_signs(self):
        rows = ((1,) * 29 + (-1,), (-1,) * 29 + (0,))
        self.assertEqual(ask(only_first, (30, (0,), rows), (30, (0,), ((-1,) * 30,))), (0, 29))
        self.assertEqual(ask(common_word, (30, (1,), ((-1,) * 29 + (1,), (-1,) * 30)), (30, (0,), ((0,) * 30,))), (29,))


class WordsOf(unittest.TestCase):
    def too_long(self, machine, length):
        with self.assertRaises(TooLong) as caught:
            ask(words_of, machine, length)
        self.assertIs(type(caught.exception), TooLong)

    def test_ordinary_machines(self):
        self.assertEqual(ask(words_of, ALL, 2), ((), (0,), (1,), (0, 0), (0, 1), (1, 0), (1, 1)))
        self.assertEqual(ask(words_of, ZEROS, 3), ((0,), (0, 0), (0, 0, 0)))
        self.assertEqual(ask(words_of, FINITE, 9), ((), (1,), (0, 0)))
        self.assertEqual(ask(words_of, EMPTY_WORD, 5), ((),))

    def test_length_0(self):
        self.assertEqual(ask(words_of, ALL, 0), ((),))
        self.assertEqual(ask(words_of, ZEROS, 0), ())

    def test_nothing(self):
        for length in (0, 1, 5, 10 ** 20):
            self.assertEqual(ask(words_of, NOTHING, length), ())

    def test_exactly_2000_and_2001(self):
        one = (1, (0,), ((0,),))
        self.assertEqual(ask(words_of, one, 1999), tuple((0,) * size for size in range(2000)))
        self.too_long(one, 2000)
        self.too_long(one, 10 ** 20)
        self.assertEqual(len(ask(words_of, one_sign(2000, range(2000)), 10 ** 20)), 2000)
        self.too_long(one_sign(2001, range(2001)), 2000)
        self.too_long(one_sign(2001, range(2001)), 10 ** 20)
        self.assertEqual(len(ask(words_of, one_sign(2001, range(2001)), 1999)), 2000)
        self.assertEqual(len(ask(words_of, ALL, 9)), 1023)
        self.too_long(ALL, 10)
        # Words of three signs over twelve and some more: 12 ** 3 = 1728, 272 and 273 of four signs.
        for more in (272, 273):
            moves = [(k, s, k + 1) for k in range(3) for s in range(12)]
            ways = [(0, 12, 4)] + [(4, s, 5) for s in range(17)] + [(5, s, 6) for s in range(16)] + [(6, 0, 3)]
            if more == 273:
                ways.append((0, 13, 3))
            machine = least_machine((17, 7, (3,), tuple(sorted(moves + ways))))
            if more == 272:
                self.assertEqual(len(ask(words_of, machine, 4)), 2000)
            else:
                self.too_long(machine, 4)
                self.assertEqual(len(ask(words_of, machine, 3)), 1729)

    def test_many_words_that_are_too_long_for_now(self):
        # All words are of 60 signs, so there are none of fewer, and far too many of 60.
        rows = tuple((k + 1, k + 1) for k in range(60)) + ((-1, -1),)
        machine = (2, (60,), rows)
        self.assertEqual(ask(words_of, machine, 59), ())
        self.too_long(machine, 60)
        # After 0 it takes long to come to an end; only the words of ones are short.
        rows = [(2, 1), (-1, 1)] + [(k + 1, k + 1) for k in range(2, 62)] + [(-1, -1)]
        machine = least_machine((2, 63, (1, 62), tuple(sorted(
            (state, sign, target) for state, row in enumerate(rows) for sign, target in enumerate(row) if target >= 0
        ))))
        self.assertEqual(ask(words_of, machine, 50), tuple((1,) * size for size in range(1, 51)))

    def test_many_machines(self):
        for machine in machines(102, 150):
            for length in (0, 1, 2, 5, 8):
                expected = [word for word in slow.all_words(2, length) if slow.takes(machine, word)]
                self.assertEqual(ask(words_of, machine, length), tuple(expected))


class CountWords(unittest.TestCase):
    def test_ordinary_machines(self):
        self.assertEqual([ask(count_words, ALL, k) for k in range(5)], [1, 2, 4, 8, 16])
        self.assertEqual([ask(count_words, ZEROS, k) for k in range(4)], [0, 1, 1, 1])
        self.assertEqual([ask(count_words, FINITE, k) for k in range(4)], [1, 1, 1, 0])
        self.assertEqual([ask(count_words, NOTHING, k) for k in (0, 1, 10 ** 20)], [0, 0, 0])
        self.assertEqual([ask(count_words, EMPTY_WORD, k) for k in (0, 1, 10 ** 20)], [1, 0, 0])

    def test_answers_are_integers(self):
        for machine in (ALL, ZEROS, FINITE, NOTHING, EMPTY_WORD):
            for length in (0, 1, 3, 1000):
                self.assertIs(type(ask(count_words, machine, length)), int)

    def test_great_lengths(self):
        self.assertEqual(ask(count_words, ALL, 5000), 2 ** 5000)
        self.assertEqual(ask(count_words, (30, (0,), ((0,) * 30,)), 300), 30 ** 300)
        self.assertEqual(ask(count_words, ZEROS, 10 ** 20), 1)
        self.assertEqual(ask(count_words, FINITE, 10 ** 20), 0)
        ring = (1, (3,), tuple(((k + 1) % 7,) for k in range(7)))
        for length in (10 ** 5, 10 ** 5 + 1, 10 ** 18 + 3, 7 * 10 ** 18 + 3):
            self.assertEqual(ask(count_words, ring, length), int(length % 7 == 3))

    def test_no_two_ones_side_by_side(self):
        machine = (2, (0, 1), ((0, 1), (0, -1)))
        before, now = 1, 2
        for length in range(1, 700):
            if length % 37 == 1 or length < 20:
                self.assertEqual(ask(count_words, machine, length), now)
            before, now = now, before + now
        # The same by two ways of reckoning, on both sides of where the program changes.
        for length in (500, 511, 512, 513, 514, 1000):
            before, now = 1, 2
            for _ in range(length - 1):
                before, now = now, before + now
            self.assertEqual(ask(count_words, machine, length), now)

    def test_many_machines(self):
        for machine in machines(103, 200):
            counts = [0] * 9
            for word in slow.all_words(2, 8):
                counts[len(word)] += slow.takes(machine, word)
            self.assertEqual([ask(count_words, machine, length) for length in range(9)], counts)

    def test_many_machines_far_on(self):
        for machine in machines(104, 40, states=3, moves=6):
            states = {0: 1} if machine[2] else {}
            for length in range(6000):
                if length in (100, 255, 511, 4097, 5999):
                    expected = sum(many for state, many in states.items() if state in machine[1])
                    self.assertEqual(count_words(machine, length), expected)
                after = {}
                for state, many in states.items():
                    for target in machine[2][state]:
                        if target >= 0:
                            after[target] = after.get(target, 0) + many
                states = after


class IsFinite(unittest.TestCase):
    def test_ordinary_machines(self):
        for machine, told in ((ALL, False), (ZEROS, False), (FINITE, True), (NOTHING, True), (EMPTY_WORD, True)):
            self.assertIs(ask(is_finite, machine), told)

    def test_long_machines(self):
        self.assertIs(ask(is_finite, one_sign(5000, (4999,))), True)
        self.assertIs(ask(is_finite, (1, (4999,), tuple(((k + 1) % 5000,) for k in range(5000)))), False)
        self.assertIs(ask(is_finite, (2, (60,), tuple((k + 1, k + 1) for k in range(60)) + ((-1, -1),))), True)

    def test_many_machines(self):
        for machine in machines(105, 300, moves=7):
            # A word of at least as many signs as states goes through a ring, and is
            # taken if there are infinitely many: so are words of less than twice as many.
            size = len(machine[2])
            endless = any(count_words(machine, length) for length in range(size, 2 * size + 1))
            self.assertIs(ask(is_finite, machine), not endless)


if __name__ == "__main__":
    unittest.main()
