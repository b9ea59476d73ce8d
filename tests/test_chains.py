"""Points 4, 5 and 6: steps, chains, outcomes and rings."""

import random
import unittest

from anychain.chains import (
    apply_step, longest_chain, outcomes, ring, run_chain, settled_outcomes, steps_of,
)
from anychain.errors import BadStep, TooLong
from tests import making, slow
from tests.helpers import ODD_VALUES, ask, only_plain

BOOK = ((((0, 0), (1,)), ((1,), (0,))),)
DELETING = ((((0,), ()), ((1,), ())), (((2,), ()),))


def many_cases(seed, cases, length):
    """Small books with a word."""
    rng = random.Random(seed)
    for _ in range(cases):
        signs = rng.randint(1, 3)
        yield making.book(rng, signs, 3, 3), making.word(rng, signs, 0, length)


class Raising(unittest.TestCase):
    def raises(self, error, function, *args):
        with self.assertRaises(error) as caught:
            ask(function, *args)
        self.assertIs(type(caught.exception), error)


class Steps(Raising):
    def test_steps_of(self):
        self.assertEqual(ask(steps_of, BOOK, (0, 0, 0, 1)), ((0, 0, 0), (0, 0, 1), (0, 1, 3)))
        self.assertEqual(ask(steps_of, BOOK, ()), ())
        self.assertEqual(ask(steps_of, (), (0, 1)), ())
        self.assertEqual(ask(steps_of, ((), ()), (0, 1)), ())
        self.assertEqual(ask(steps_of, ((), (((0, 1, 0, 1), ()),)), (0, 1, 0, 1, 0, 1)), ((1, 0, 0), (1, 0, 2)))

    def test_steps_are_ascending(self):
        book = ((), (((1,), ()), ((0,), ())), (((0, 1), (1,)),))
        self.assertEqual(
            ask(steps_of, book, (0, 1, 0, 1)),
            ((1, 0, 1), (1, 0, 3), (1, 1, 0), (1, 1, 2), (2, 0, 0), (2, 0, 2)),
        )

    def test_a_rule_that_stands_twice_gives_two_steps(self):
        self.assertEqual(ask(steps_of, ((((0,), ()), ((0,), ())),), (0,)), ((0, 0, 0), (0, 1, 0)))

    def test_many_steps(self):
        for book, word in many_cases(41, 400, 8):
            expected = slow.steps(book, word)
            self.assertEqual(ask(steps_of, book, word), tuple(expected))
            for step in expected:
                self.assertEqual(ask(apply_step, book, word, step), slow.behind(book, word, step))

    def test_apply_step(self):
        self.assertEqual(ask(apply_step, BOOK, (0, 0, 0, 1), (0, 0, 1)), (0, 1, 1))
        self.assertEqual(ask(apply_step, BOOK, (0, 0, 0, 1), (0, 1, 3)), (0, 0, 0, 0))
        self.assertEqual(ask(apply_step, DELETING, (2,), (1, 0, 0)), ())

    def test_apply_step_raises_for_steps_that_do_not_fit(self):
        for relay in range(-3, 4):
            for rule in range(-3, 4):
                for place in range(-6, 7):
                    step = (relay, rule, place)
                    if step not in slow.steps(BOOK, (0, 0, 0, 1)):
                        self.raises(BadStep, apply_step, BOOK, (0, 0, 0, 1), step)

    def test_a_step_is_any_tuple(self):
        word = (0, 0, 1)
        wrong = [(), (0,), (0, 0), (0, 0, 0, 0), ((0, 0, 0),), (0, 0, 10 ** 30), (10 ** 30, 0, 0), (0, -(10 ** 30), 0)]
        for at in range(3):
            for odd in ODD_VALUES:
                if type(odd) is not int:
                    wrong.append((0, 0, 0)[:at] + (odd,) + (0, 0, 0)[at + 1:])
        wrong.extend([(False, 0, 0), (0, True, 2), (0, 1.0, 2), (0, 1, "2"), (0, 1, None), (0, 1, [2]), (0, 0, 0.0)])
        for step in wrong:
            self.raises(BadStep, apply_step, BOOK, word, step)
            self.raises(BadStep, run_chain, BOOK, word, (step,))
            self.raises(BadStep, run_chain, BOOK, word, ((0, 1, 2), step))

    def test_no_step_fits_an_empty_book(self):
        for book in ((), ((),), ((), ())):
            for step in ((0, 0, 0), (-1, 0, 0), (0, -1, 0), (0, 0, -1)):
                self.raises(BadStep, apply_step, book, (0,), step)
        self.raises(BadStep, apply_step, BOOK, (), (0, 0, 0))
        self.raises(BadStep, apply_step, BOOK, (), (0, 1, 0))

    def test_run_chain(self):
        chain = ((0, 0, 1), (0, 1, 1), (0, 0, 0))
        self.assertEqual(ask(run_chain, BOOK, (0, 0, 0), chain), ((0, 0, 0), (0, 1), (0, 0), (1,)))
        self.assertEqual(ask(run_chain, BOOK, (0, 0, 0), ()), ((0, 0, 0),))
        self.assertEqual(ask(run_chain, (), (), ()), ((),))

    def test_run_chain_raises_when_the_turn_comes(self):
        self.raises(BadStep, run_chain, BOOK, (0, 0, 0), ((0, 0, 1), (0, 0, 1)))
        # The step fits the first word, but not the word that it comes to.
        self.raises(BadStep, run_chain, BOOK, (0, 0, 0), ((0, 0, 0), (0, 0, 0)))
        self.assertEqual(ask(run_chain, BOOK, (0, 0), ((0, 0, 0), (0, 1, 0))), ((0, 0), (1,), (0,)))

    def test_many_chains(self):
        rng = random.Random(42)
        for book, word in many_cases(43, 200, 8):
            words, chain = [word], []
            while slow.steps(book, words[-1]) and len(chain) < 12:
                chain.append(rng.choice(slow.steps(book, words[-1])))
                words.append(slow.behind(book, words[-1], chain[-1]))
            self.assertEqual(ask(run_chain, book, word, tuple(chain)), tuple(words))


class Outcomes(Raising):
    def test_the_example(self):
        self.assertEqual(ask(outcomes, BOOK, (0, 0, 0)), ((0,), (1,), (0, 0), (0, 1), (1, 0), (0, 0, 0)))

    def test_settled(self):
        self.assertEqual(ask(settled_outcomes, BOOK, (0, 0, 0)), ((0,),))
        self.assertEqual(ask(settled_outcomes, ((((0, 0), (1,)),),), (0, 0, 0)), ((0, 1), (1, 0)))
        self.assertEqual(ask(settled_outcomes, ((((0,), (1,)), ((1,), (0,))),), (0,)), ())

    def test_empty_words_and_books(self):
        for book in ((), ((),), BOOK, DELETING):
            self.assertEqual(ask(outcomes, book, ()), ((),))
            self.assertEqual(ask(settled_outcomes, book, ()), ((),))
            self.assertEqual(ask(longest_chain, book, ()), 0)
        self.assertEqual(ask(outcomes, ((), ()), (1, 0)), ((1, 0),))
        self.assertEqual(ask(settled_outcomes, (), (1, 0)), ((1, 0),))

    def test_many_words(self):
        for book, word in many_cases(51, 600, 7):
            expected = sorted(slow.outcomes(book, word), key=slow.order)
            self.assertLessEqual(len(expected), 2000)
            self.assertEqual(ask(outcomes, book, word), tuple(expected))
            settled = tuple(other for other in expected if not slow.steps(book, other))
            self.assertEqual(ask(settled_outcomes, book, word), settled)
            self.assertTrue(only_plain(outcomes(book, word)))

    def test_repeated_patterns(self):
        words = ((0, 1) * 4, (0, 1, 1) * 3, (0, 0, 1) * 3, (1,) * 8, (0,) * 5 + (1,) * 4)
        sides = [left for left in slow.all_words(2, 4) if left]
        for left in sides:
            for right in ((), (0,), (1,)):
                if left != right:
                    for word in words:
                        book = (((left, right),),)
                        expected = sorted(slow.outcomes(book, word), key=slow.order)
                        self.assertEqual(ask(outcomes, book, word), tuple(expected))

    def test_exactly_2000_and_2001(self):
        # Each sign may be taken away: 40 times 50, and 3 times 23 times 29.
        two_thousand = (0,) * 39 + (1,) * 49
        found = ask(outcomes, DELETING, two_thousand)
        self.assertEqual(len(found), 2000)
        self.assertEqual(found[0], ())
        self.assertEqual(found[-1], two_thousand)
        self.assertEqual(found, tuple(sorted(found, key=slow.order)))
        self.assertEqual(ask(settled_outcomes, DELETING, two_thousand), ((),))
        self.assertEqual(ask(longest_chain, DELETING, two_thousand), 88)
        one_more = (0,) * 2 + (1,) * 22 + (2,) * 28
        for function in (outcomes, settled_outcomes, longest_chain):
            self.raises(TooLong, function, DELETING, one_more)

    def test_exactly_2000_and_2001_of_one_sign(self):
        book = ((((0,), ()),),)
        self.assertEqual(outcomes(book, (0,) * 1999), tuple((0,) * size for size in range(2000)))
        for function in (outcomes, settled_outcomes, longest_chain):
            with self.assertRaises(TooLong):
                function(book, (0,) * 2000)

    def test_exactly_2000_with_rings(self):
        # A ring of 20 signs and one of 10: 20 * 10 * 10 words of the same length.
        rules = [((k,), ((k + 1) % 20,)) for k in range(20)] + [((20 + k,), (20 + (k + 1) % 10,)) for k in range(10)]
        book = tuple(tuple(rules[k:k + 8]) for k in range(0, 30, 8))
        self.assertEqual(len(ask(outcomes, book, (0, 20, 20))), 2000)
        self.assertEqual(ask(settled_outcomes, book, (0, 20, 20)), ())
        self.assertIs(ask(longest_chain, book, (0, 20, 20)), None)
        # TooLong is raised although there is a ring, so that no greatest number is there.
        self.raises(TooLong, longest_chain, book, (0, 20, 20, 20))

    def test_far_too_many(self):
        book = ((((0,), (1,)), ((0, 0), (2,)), ((1, 2), ())),)
        for function in (outcomes, settled_outcomes, longest_chain):
            self.raises(TooLong, function, book, (0,) * 40)
        self.raises(TooLong, outcomes, ((((0,), (1,)),),), (0,) * 5000)


class Rings(Raising):
    def holds(self, book, answer):
        """Tell that an answer of ring is right for a book."""
        if not slow.has_ring(book):
            self.assertIs(answer, None)
            return
        sign, chain = answer
        self.assertTrue(only_plain(answer))
        self.assertGreaterEqual(len(chain), 1)
        word = (sign,)
        for step in chain:
            self.assertIn(step, slow.steps(book, word))
            word = slow.behind(book, word, step)
        self.assertEqual(word, (sign,))

    def test_no_ring(self):
        for book in ((), ((),), ((((0, 0), (0,)), ((0,), ())),), ((((0,), (1,)), ((1,), (2,)), ((0,), (2,))),)):
            self.assertIs(ask(ring, book), None)

    def test_rings(self):
        self.assertEqual(ask(ring, ((((0,), (1,)), ((1,), (0,))),)), (0, ((0, 0, 0), (0, 1, 0))))
        book = ((((0,), (1,)),), (), (((2,), (3,)), ((1, 1), (0,)), ((1,), (2,))), (((3,), (1,)),))
        self.holds(book, ask(ring, book))
        # A ring through all the 30 signs.
        rules = [((k,), ((k + 7) % 30,)) for k in range(30)]
        book = tuple(tuple(rules[k:k + 8]) for k in range(0, 30, 8))
        self.holds(book, ask(ring, book))
        self.assertEqual(len(ring(book)[1]), 30)

    def test_many_rings(self):
        rng = random.Random(61)
        for _ in range(500):
            book = making.book(rng, rng.randint(1, 5), 4, 4, 2)
            self.holds(book, ask(ring, book))

    def test_longest_chain(self):
        self.assertEqual(ask(longest_chain, BOOK, (0, 0, 0)), 4)
        self.assertEqual(ask(longest_chain, ((((0, 0), (0,)),),), (0,) * 6), 5)
        self.assertIs(type(ask(longest_chain, BOOK, (0, 0, 0))), int)

    def test_longest_chain_is_not_the_shortest(self):
        book = ((((0, 0, 0, 0), ()), ((0,), (1,)), ((1, 1), (0,))),)
        self.assertEqual(ask(longest_chain, book, (0, 0, 0, 0)), slow.longest(book, (0, 0, 0, 0)))

    def test_rings_that_the_word_does_or_does_not_come_to(self):
        book = ((((0,), (1,)), ((1,), (0,)), ((2, 2), (2,)), ((3, 3), (0,))),)
        self.assertEqual(ask(longest_chain, book, (2, 2, 2)), 2)
        self.assertIs(ask(longest_chain, book, (2, 2, 0)), None)
        self.assertEqual(ask(longest_chain, book, (3, 2, 3)), 0)
        self.assertIs(ask(longest_chain, book, (3, 3)), None)
        self.assertIs(ask(longest_chain, book, (2, 3, 3)), None)

    def test_rings_through_the_word_itself(self):
        for first in ((), (2,)):
            for rules in ((((0,), first), ((0,), (1,)), ((1,), (0,))), (((0,), (1,)), ((1,), (0,)), ((0,), first))):
                self.assertIs(ask(longest_chain, (rules,), (0,)), None)
                self.assertIs(ask(longest_chain, (rules,), (2, 0)), None)

    def test_many_longest_chains(self):
        for book, word in many_cases(62, 500, 5):
            self.assertEqual(ask(longest_chain, book, word), slow.longest(book, word))


if __name__ == "__main__":
    unittest.main()
