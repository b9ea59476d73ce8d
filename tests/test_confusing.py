"""Points 22, 23 and 24: whether any reader at all could read everything back."""

import random
import unittest

from anychain.arrivals import cost, origin
from anychain.confusing import best_reading, confusion
from anychain.errors import Confused, Mismatch, TooLong
from tests import making, slow, slow_papers
from tests.helpers import Case, ask, only_plain
from tests.test_arrivals import NOTHING, ZEROS, powers, zeros

# Contents 0 and 1 are sent as 0 and 1, each with a 2 behind it.
TWO = (2, 3, (), ((((0, 2), 0), ((1, 2), 0)),), ((),))
IDENTITY = (30, 30, (), (tuple(((sign,), 0) for sign in range(30)),), ((),))


class Confusing(Case):
    def holds(self, coder, book, length=4, long=7):
        """Ask for a confusion, run both chains, and compare with all contents up to a length."""
        told = ask(confusion, coder, book)
        self.assertTrue(only_plain(told))
        origins = self.origins(coder, book, length, long)
        if told is None:
            for letter, contents in origins.items():
                self.assertEqual(len(contents), 1)
                self.assertEqual(ask(best_reading, coder, book, letter), min(contents))
            for letter in slow.all_words(coder[1], 2):
                if letter not in origins:
                    reading = ask(best_reading, coder, book, letter)
                    self.assertIs(reading is None, origin(coder, book, letter) is None)
        else:
            first, first_chain, second, second_chain = told
            self.assertNotEqual(first, second)
            last = slow_papers.run(book, slow.translate(coder, first), first_chain)
            self.assertEqual(slow_papers.run(book, slow.translate(coder, second), second_chain), last)
            for letter in ((), last, (0,)):
                self.raises(Confused, best_reading, coder, book, letter)
        return told

    def origins(self, coder, book, length, long):
        found = {}
        for content in slow.all_words(coder[0], length):
            sent = slow.translate(coder, content)
            if sent is not None and len(sent) <= long:
                for letter in slow.outcomes(book, sent):
                    found.setdefault(letter, set()).add(content)
        return found

    def test_without_rules(self):
        for coder in (TWO, NOTHING, (1, 1, (), ((None,),), ((),))):
            for book in ((), ((), ())):
                self.assertIsNone(self.holds(coder, book))

    def test_ordinary_books(self):
        self.assertIsNone(self.holds(TWO, ((((0, 2), (0,)),),)))
        self.assertIsNone(self.holds(TWO, ((((2, 0), (0,)), ((2, 1), (1,))),)))
        self.assertIsNotNone(self.holds(TWO, ((((0, 2), (2,)), ((1, 2), (2,))),)))
        self.assertIsNotNone(self.holds(TWO, ((((0,), (1,)),),)))

    def test_a_clash(self):
        told = self.holds((2, 1, (), ((((0,), 0), ((0, 0), 0)),), ((),)), ())
        self.assertEqual((told[1], told[3]), ((), ()))
        # The letters are told apart by no reader even where a rule could be used.
        self.assertIsNotNone(self.holds((1, 1, (0,), ((((), 0),),), ((),)), ((((0,), ()),),)))

    def test_one_move_of_two_words(self):
        # 1 comes of 0 0 and of 2: one letter, two contents.
        coder = (2, 4, (3,), ((((0, 0), 0), ((2,), 0)),), ((3,),))
        self.assertIsNone(self.holds(coder, ((((0, 0), (1,)),),)))
        self.assertIsNone(self.holds(coder, ((((2,), (1,)),),)))
        self.assertIsNotNone(self.holds(coder, ((((2,), (1,)),), (((0, 0), (1,)),))))
        # A sign that is sent is made once more of another one.
        self.assertIsNotNone(self.holds(coder, ((((0, 0), (2,)),),)))

    def test_a_sign_that_comes_back_to_itself_confuses_nothing(self):
        coder = (1, 3, (), ((((0,), 0),),), ((),))
        self.assertIsNone(self.holds(coder, ((((0,), (1,)), ((1,), (2,)), ((2,), (0,))),)))

    def test_signs_that_vanish(self):
        coder = (1, 2, (), ((((0, 1), 0),),), ((),))
        self.assertIsNotNone(self.holds(coder, ((((0, 1), ()),),)))
        self.assertIsNone(self.holds(coder, ((((1,), ()),),)))
        self.assertIsNotNone(self.holds(coder, ((((1,), ()),), (((0,), ()),))))
        self.assertIsNone(self.holds((1, 2, (0, 1), ((None,),), ((),)), ((((0, 1), ()),),)))

    def test_a_beginning_of_a_left_side_confuses_nothing(self):
        # 1 1 and 2 are made alike from the same state to the same state, but no rule goes on from there.
        coder = (2, 5, (), ((((0, 0, 3), 1), ((1, 3), 1)), (None, None)), (None, (4,)))
        self.assertIsNone(self.holds(coder, ((((0, 0), (2,)), ((1, 2, 0, 0), ())),)))
        self.assertIsNotNone(self.holds(coder, ((((0, 0), (2,)), ((1,), (2,))),)))

    def test_two_paths_to_one_letter(self):
        # The letters differ to the end, so that no two states of theirs are the same.
        coder = (2, 4, (), ((((0, 2), 1), ((1, 2, 2), 2)), (None, None), (None, None)), (None, (0,), (1,)))
        self.assertIsNone(self.holds(coder, ((((2, 2), (2,)),),)))
        self.assertIsNotNone(self.holds(coder, ((((2, 2), (2,)), ((0,), (3,)), ((1,), (3,))),)))
        self.assertIsNone(self.holds(coder, ((((2, 2), (2,)), ((0,), (3,))),)))

    def test_a_dear_move_between_states_and_a_cheap_one_in_the_end(self):
        # Sign k comes of two signs k - 1, and is sent itself as well.
        self.assertEqual(cost(IDENTITY, powers(29)), 1)
        told = ask(confusion, IDENTITY, powers(29))
        self.assertNotEqual(told[0], told[2])
        last = slow_papers.run(powers(29), told[0], told[1])
        self.assertEqual(slow_papers.run(powers(29), told[2], told[3]), last)

    def test_mismatch(self):
        for book in (((((3,), ()),),), ((),) * 9, None):
            self.raises(Mismatch, confusion, TWO, book)
            self.raises(Mismatch, best_reading, TWO, book, ())

    def test_too_long(self):
        shrink = ((((0, 0), (0,)),),)
        self.assertIsNone(ask(confusion, zeros(60), shrink))
        content = (0,) * (len(zeros(60)[3]) - 1)
        for many in (1, 30, 60):
            self.assertEqual(ask(best_reading, zeros(60), shrink, (0,) * many), content)
        self.assertIsNone(ask(best_reading, zeros(60), shrink, (0,) * 61))
        self.assertIsNone(ask(best_reading, zeros(60), shrink, ()))
        for many in (61, 77):
            self.raises(TooLong, confusion, zeros(many), shrink)
            self.raises(TooLong, best_reading, zeros(many), shrink, (0,))
            self.raises(TooLong, best_reading, zeros(many), shrink, (1,))

    def test_too_long_comes_before_confused(self):
        # All letters of zeros may become shorter, so the letters are confused and the cost is great.
        self.raises(TooLong, confusion, ZEROS, powers(29) + ((((1,), (0,)),),))
        self.raises(TooLong, best_reading, ZEROS, powers(29) + ((((1,), (0,)),),), (0,))
        book = powers(5) + ((((1,), (0,)),),)
        self.assertEqual(cost(ZEROS, book), 32)
        self.raises(Confused, best_reading, ZEROS, book, (0,))
        clash = (2, 30, (), ((((0,), 0), ((0,), 0)),), ((),))
        self.raises(TooLong, confusion, clash, powers(29))
        self.raises(TooLong, best_reading, clash, powers(29), (0,))

    def test_many_coders(self):
        rng = random.Random(221)
        clear = confused = 0
        for _ in range(900):
            ins, outs = rng.randint(1, 2), rng.randint(2, 4)
            coder = making.translator(rng, ins, outs, rng.randint(1, 3), 3, 0.35)
            book = making.book(rng, outs, 2, 2, 3)
            try:
                told = self.holds(coder, book, 4, 6)
            except TooLong:
                self.assertGreater(cost(coder, book), 60)
            else:
                clear += told is None and any(book)
                confused += told is not None and told[1] + told[3] != ()
        self.assertGreater(clear, 40)
        self.assertGreater(confused, 40)

    def test_many_readers(self):
        rng = random.Random(222)
        for _ in range(200):
            coder, book, _ = making.codec(rng, 0.2)
            self.holds(coder, book, 3, 8)


if __name__ == "__main__":
    unittest.main()
