"""Point 27: which relays spoil what is read back."""

import random
import unittest
from itertools import combinations

from anychain.arrivals import cost
from anychain.back import reads_back
from anychain.confusing import confusion
from anychain.errors import Mismatch, TooLong
from anychain.relaysets import cut_sets, greatest_harmless, least_harmful
from tests import making
from tests.helpers import Case, ask, only_plain
from tests.test_arrivals import NOTHING, ZEROS, powers, zeros

CODER = (1, 2, (), ((((0, 0, 1), 0),),), ((),))
READER = (2, 1, (), ((((), 0), ((0,), 0)),), ((),))
SHORTER = (((0, 0), (0,)),)
DOUBLED = (((0, 1), (1,)), ((0,), ()))
LOST = (((1,), ()),)
WRONG = (((0,), (1,)),)


def sets_of(many):
    return [chosen for size in range(many + 1) for chosen in combinations(range(many), size)]


def with_relays(book, chosen):
    return tuple(rules if relay in chosen else () for relay, rules in enumerate(book))


class RelaySets(Case):
    def holds(self, coder, book, reader):
        """Every set of relays is asked one by one."""
        least, greatest = ask(least_harmful, coder, book, reader), ask(greatest_harmless, coder, book, reader)
        self.assertTrue(only_plain((least, greatest)))
        harmless = {}
        for chosen in sets_of(len(book)):
            part = with_relays(book, chosen)
            harmless[chosen] = reads_back(coder, part, reader) if reader else confusion(coder, part) is None
        self.assertEqual(least, tuple(
            one for one in harmless
            if not harmless[one] and all(harmless[part] for part in harmless if set(part) < set(one))
        ))
        self.assertEqual(greatest, tuple(
            one for one in harmless
            if harmless[one] and not any(harmless[whole] for whole in harmless if set(one) < set(whole))
        ))
        others = [tuple(set(range(len(book))) - set(cut)) for cut in ask(cut_sets, least)]
        self.assertEqual(set(greatest), {tuple(sorted(other)) for other in others})
        self.assertEqual(len(greatest), len(others))
        return least, greatest

    def test_no_relays(self):
        self.assertEqual(self.holds(CODER, (), READER), ((), ((),)))
        self.assertEqual(self.holds(CODER, (), None), ((), ((),)))
        self.assertEqual(self.holds(CODER, (), (2, 1, (0,)) + READER[3:]), (((),), ()))

    def test_every_set_is_harmless(self):
        self.assertEqual(self.holds(CODER, (SHORTER, (), DOUBLED), READER), ((), ((0, 1, 2),)))
        self.assertEqual(self.holds(CODER, (SHORTER,) * 8, READER), ((), (tuple(range(8)),)))
        self.assertEqual(self.holds(NOTHING, (LOST, WRONG), READER), ((), ((0, 1),)))

    def test_no_set_is_harmless(self):
        wrong = (2, 1, (), ((((), 0), ((), 0)),), ((),))
        self.assertEqual(self.holds(CODER, (SHORTER, LOST), wrong), (((),), ()))
        clash = (2, 1, (), ((((0,), 0), ((0,), 0)),), ((),))
        self.assertEqual(self.holds(clash, ((), ()), None), (((),), ()))

    def test_only_the_empty_set_is_harmless(self):
        self.assertEqual(self.holds(CODER, (LOST,) * 8, READER), (tuple((k,) for k in range(8)), ((),)))

    def test_some_sets_are_harmless(self):
        self.assertEqual(self.holds(CODER, (SHORTER, LOST, DOUBLED, WRONG), READER), (((1,), (3,)), ((0, 2),)))

    def test_relays_that_spoil_only_together(self):
        # 0 becomes 2 by the first, and 2 becomes 1 by the second; the third and the fourth do the same by 3.
        coder = (1, 4, (), ((((0, 1), 0),),), ((),))
        reader = (4, 1, (), ((((), 0), ((0,), 0), ((), 0), ((), 0)),), ((),))
        book = ((((0,), (2,)),), (((2,), (1,)),), (((0,), (3,)),), (((3,), (1,)),), ())
        least, greatest = self.holds(coder, book, reader)
        self.assertEqual(least, ((0, 1), (2, 3)))
        self.assertEqual(greatest, ((0, 2, 4), (0, 3, 4), (1, 2, 4), (1, 3, 4)))

    def test_without_a_reader(self):
        coder = (2, 3, (), ((((0, 2), 0), ((1, 2), 0)),), ((),))
        book = ((((0,), ()),), (((1,), ()),), (((0,), (1,)),), (((2,), ()),))
        least, greatest = self.holds(coder, book, None)
        self.assertEqual(least, ((2,), (0, 1), (0, 3), (1, 3)))
        self.assertEqual(greatest, ((0,), (1,), (3,)))

    def test_eight_relays(self):
        coder = (1, 9, (), ((((0, 8), 0),),), ((),))
        reader = (9, 1, (), ((((), 0),) * 7 + (((0,), 0),) * 2,), ((),))
        ring = [((sign,), ((sign + 1) if sign < 7 else 0,)) for sign in range(8)]
        least, greatest = self.holds(coder, tuple((rule,) for rule in ring), reader)
        self.assertEqual(least, (tuple(range(7)),))
        self.assertEqual(len(greatest), 7)

    def test_mismatch(self):
        for function in (least_harmful, greatest_harmless):
            for reader in (READER, None, CODER):
                self.raises(Mismatch, function, CODER, ((((2,), ()),),), reader)
                self.raises(Mismatch, function, CODER, ((),) * 9, reader)
            self.raises(Mismatch, function, CODER, (), CODER)
            self.raises(Mismatch, function, CODER, (LOST,), (3, 1, (), ((None,) * 3,), (None,)))

    def test_too_long(self):
        shrink = ((((0, 0), (0,)),),)
        for function in (least_harmful, greatest_harmless):
            ask(function, zeros(60), shrink, None)
            self.raises(TooLong, function, zeros(61), shrink, None)
            self.raises(TooLong, function, ZEROS, powers(29), None)
            # With all relays each move costs little, but without the last one it costs much.
            book = (powers(7)[0],) + ((((0,), (7,)), ((0,), (6,))),)
            self.assertLessEqual(cost(ZEROS, book), 60)
            self.assertGreater(cost(ZEROS, book[:1]), 60)
            self.raises(TooLong, function, ZEROS, book, None)
            # With a reader the cost does not matter.
            reader = (2, 1, (0,) * 6, ((((0,) * 4, 1), None), (((), 1), None)), (None, ()))
            self.assertEqual(len(zeros(61)[3]) - 1, 10)
            ask(function, zeros(61), shrink, reader)
        self.assertEqual(least_harmful(zeros(61), shrink, reader), ())

    def test_too_long_comes_before_a_clash(self):
        clash = (2, 30, (), ((((0,), 0), ((0,), 0)),), ((),))
        self.raises(TooLong, least_harmful, clash, powers(29), None)
        self.assertEqual(least_harmful(clash, (), None), ((),))

    def test_many_with_a_reader(self):
        rng = random.Random(271)
        kinds = set()
        for _ in range(150):
            coder, book, reader = making.codec(rng, 0.6)
            book += making.noisy_book(rng, 0.5)
            least, _ = self.holds(coder, book, reader)
            kinds.add(tuple(len(one) for one in least))
        self.assertGreater(len(kinds), 3)

    def test_many_without_a_reader(self):
        rng = random.Random(272)
        kinds = set()
        for _ in range(300):
            outs = rng.randint(2, 4)
            coder = making.translator(rng, rng.randint(1, 2), outs, rng.randint(1, 2), 3, 0.3)
            book = making.book(rng, outs, 4, 2, 3)
            try:
                least, _ = self.holds(coder, book, None)
            except TooLong:
                self.assertTrue(any(
                    cost(coder, with_relays(book, chosen)) > 60 for chosen in sets_of(len(book))
                ))
            else:
                self.assertTrue(all(
                    cost(coder, with_relays(book, chosen)) <= 60 for chosen in sets_of(len(book))
                ))
                kinds.add(tuple(len(one) for one in least))
        self.assertGreater(len(kinds), 4)


class CutSets(Case):
    def holds(self, sets):
        told = ask(cut_sets, sets)
        self.assertTrue(only_plain(told))
        indexes = sorted({index for one in sets for index in one})
        cutting = [
            cut for size in range(len(indexes) + 1) for cut in combinations(indexes, size)
            if all(set(cut) & set(one) for one in sets)
        ]
        self.assertEqual(told, tuple(
            cut for cut in cutting if not any(set(part) < set(cut) for part in cutting)
        ))
        return told

    def test_examples(self):
        self.assertEqual(self.holds(((0, 1), (1, 2))), ((1,), (0, 2)))
        self.assertEqual(self.holds(()), ((),))
        self.assertEqual(self.holds(((),)), ())
        self.assertEqual(self.holds(((0, 1), ())), ())
        self.assertEqual(self.holds(((), (0, 1))), ())

    def test_sets_that_contain_one_another(self):
        self.assertEqual(self.holds(((0, 1, 2), (1,), (0, 1))), ((1,),))
        self.assertEqual(self.holds(((3,), (0, 1, 2, 3), (5, 7))), ((3, 5), (3, 7)))
        self.assertEqual(self.holds(((0, 1), (0, 1))), ((0,), (1,)))

    def test_sets_apart(self):
        self.assertEqual(len(self.holds(((0, 1), (2, 3), (4, 5), (6, 7)))), 16)

    def test_all_pairs(self):
        self.assertEqual(self.holds(tuple(combinations(range(8), 2))), tuple(combinations(range(8), 7)))
        self.assertEqual(len(self.holds(tuple(combinations(range(8), 4)))), 56)

    def test_many_sets(self):
        rng = random.Random(273)
        for _ in range(1500):
            sets = tuple(
                tuple(sorted(rng.sample(range(7), rng.choice((0, 1, 2, 2, 3, 3, 4, 5)) if rng.random() < 0.9 else 1)))
                for _ in range(rng.randint(0, 5))
            )
            self.holds(sets)


if __name__ == "__main__":
    unittest.main()
