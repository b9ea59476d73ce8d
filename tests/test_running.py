"""Point 34: relays that run."""

import random
import unittest
from itertools import product

from anychain.chains import run_chain
from anychain.errors import Endless
from anychain.running import once, sweep, while_any
from tests import making, slow
from tests.helpers import Case, ask, only_plain

SHORTER = (((0, 0), (0,)),)
TURNING = (((0,), (1,)), ((1,), (0,)))
SEVERAL = (((0, 1), (2,)), ((0,), (1,)), ((0, 1), ()), ((2, 2), ()))


def slow_once(rules, word):
    """A list of one pair (rule, place), or of none; each place is tried, and each rule there."""
    for place in range(len(word) + 1):
        for rule, (left, _) in enumerate(rules):
            if list(word[place:place + len(left)]) == list(left):
                return [(rule, place)]
    return []


def made(rules, word, rule, place):
    left, right = rules[rule]
    assert word[place:place + len(left)] == left
    return word[:place] + right + word[place + len(left):]


def slow_sweep(rules, word):
    steps = []
    place = 0
    while place < len(word):
        fitting = [at for at, (left, _) in enumerate(rules) if word[place:place + len(left)] == left]
        if not fitting:
            place += 1
        else:
            steps.append((fitting[0], place))
            word = made(rules, word, fitting[0], place)
            if rules[fitting[0]][1] != ():
                place += 1
    return steps


def slow_while(rules, word):
    steps = []
    while slow_once(rules, word):
        steps += slow_once(rules, word)
        word = made(rules, word, *steps[-1])
    return steps


class Running(Case):
    def holds(self, book, relay, word):
        """Ask all three runs of a relay, place by place; they are chains of steps of this relay."""
        rules = book[relay]
        told = []
        for function, expected in ((once, slow_once), (sweep, slow_sweep), (while_any, slow_while)):
            if function is while_any and slow.has_ring((rules,)):
                self.raises(Endless, while_any, book, relay, word)
                continue
            chain = ask(function, book, relay, word)
            self.assertTrue(only_plain(chain))
            self.assertEqual(chain, tuple((relay, rule, place) for rule, place in expected(rules, word)))
            last = run_chain(book, word, chain)[-1]
            if function is while_any:
                self.assertEqual(slow.steps((rules,), last), [])
            told.append(chain)
        return told

    def test_ordinary_runs(self):
        book = ((), SHORTER)
        self.assertEqual(self.holds(book, 1, (1, 0, 0, 0, 0)), [
            ((1, 0, 1),), ((1, 0, 1), (1, 0, 2)), ((1, 0, 1), (1, 0, 1), (1, 0, 1)),
        ])
        self.assertEqual(self.holds(book, 1, (0, 1, 0)), [(), (), ()])

    def test_relays_without_rules(self):
        for book in (((),), ((), ()), (TURNING, ())):
            for word in ((), (0,), (0, 1, 0)):
                self.assertEqual(self.holds(book, len(book) - 1, word), [(), (), ()])

    def test_the_empty_word(self):
        for rules in ((), SHORTER, SEVERAL, (((0,), ()),)):
            self.assertEqual(self.holds((rules,), 0, ()), [(), (), ()])

    def test_rules_that_write_nothing(self):
        book = ((((0, 1), ()), ((1,), (0,))),)
        self.assertEqual(self.holds(book, 0, (0, 0, 1, 1)), [
            ((0, 0, 1),), ((0, 0, 1), (0, 1, 1)), ((0, 0, 1), (0, 0, 0)),
        ])
        # The sweep goes on at the same place, not further left.
        self.assertEqual(self.holds(((((0, 1), ()),),), 0, (0, 0, 1, 1, 0, 1))[1], ((0, 0, 1), (0, 0, 2)))
        self.assertEqual(self.holds(((((0,), ()),),), 0, (0, 0, 0))[1], ((0, 0, 0),) * 3)

    def test_the_sweep_goes_on_behind_what_it_wrote(self):
        book = ((((0, 0), (0,)), ((0, 1), (0,))),)
        self.assertEqual(self.holds(book, 0, (0, 0, 0, 1, 1))[1], ((0, 0, 0), (0, 1, 1)))
        self.assertEqual(self.holds(((((0,), (1,)), ((1,), (2,))),), 0, (0, 1, 0))[1], (
            (0, 0, 0), (0, 1, 1), (0, 0, 2),
        ))

    def test_several_rules_that_fit_at_one_place(self):
        for order in ((0, 1, 2, 3), (1, 0, 2, 3), (2, 1, 0, 3), (3, 2, 1, 0)):
            relay = tuple(SEVERAL[at] for at in order)
            for word in slow.all_words(3, 5):
                self.holds((relay,), 0, word)

    def test_the_leftmost_place_comes_before_the_first_rule(self):
        book = ((((1,), ()), ((0,), ())),)
        self.assertEqual(self.holds(book, 0, (0, 1)), [((0, 1, 0),), ((0, 1, 0), (0, 0, 0)), ((0, 1, 0), (0, 0, 0))])

    def test_left_sides_that_arise_further_left(self):
        book = ((((0, 1, 1, 2), ()), ((3,), (2,)), ((4, 4), (1,))),)
        self.assertEqual(self.holds(book, 0, (0, 1, 0, 1, 1, 2, 4, 4, 3))[2], (
            (0, 0, 2), (0, 2, 2), (0, 1, 3), (0, 0, 0),
        ))

    def test_rings(self):
        self.holds((TURNING,), 0, ())
        self.raises(Endless, while_any, (TURNING,), 0, ())
        self.raises(Endless, while_any, (TURNING,), 0, (2, 2))
        self.raises(Endless, while_any, ((), SHORTER + (((2,), (3,)), ((3,), (4,)), ((4,), (2,)))), 1, (0, 0))
        # The whole book has a ring, but neither relay alone has one.
        book = (TURNING[:1], TURNING[1:])
        self.assertEqual(self.holds(book, 0, (0, 1, 0))[2], ((0, 0, 0), (0, 0, 2)))
        self.assertEqual(self.holds(book, 1, (0, 1, 0))[2], ((1, 0, 1),))
        # Another relay has a ring.
        self.assertEqual(self.holds((TURNING, SHORTER), 1, (0, 0))[2], ((1, 0, 0),))
        # Two signs for one sign never make a ring.
        self.holds(((((0, 0), (0,)), ((0,), (1,)), ((1, 1), (0,))),), 0, (0,) * 9)

    def test_a_first_rule_that_hides_others(self):
        # The second rule never runs, but a ring is asked of the rules alone.
        self.raises(Endless, while_any, ((((0,), ()), ((0,), (1,)), ((1,), (0,))),), 0, (0,))

    def test_all_small_relays(self):
        rules = [
            (left, right) for left in slow.all_words(2, 2) for right in slow.all_words(2, 1) if left and left != right
        ]
        words = slow.all_words(2, 4)
        for relay in [(rule,) for rule in rules] + list(product(rules, repeat=2)):
            for word in words:
                self.holds((relay,), 0, word)

    def test_many_relays(self):
        rng = random.Random(3401)
        for _ in range(1500):
            signs = rng.randint(1, 4)
            book = making.book(rng, signs, 3, 5) + (((),) if rng.random() < 0.5 else ((((0,), ()),),))
            for relay in range(len(book)):
                self.holds(book, relay, making.word(rng, signs, 0, 12))

    def test_long_words(self):
        word = (0, 1) * 10000
        self.assertEqual(len(sweep(((((0, 1), (0,)),),), 0, word)), 10000)
        self.assertEqual(len(while_any(((((0, 1), ()), ((0, 0), (0,))),), 0, word)), 10000)
        book = (tuple(((sign,), (sign + 1,)) for sign in range(7)) + (((7, 7), (0,)),),)
        self.assertEqual(len(while_any(book, 0, (0,) * 300)), 7 * 300 + 8 * 299)
        self.assertEqual(once(((((2,), ()),),), 0, word + (2,)), ((0, 0, 20000),))


if __name__ == "__main__":
    unittest.main()
