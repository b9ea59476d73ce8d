"""Point 33: readers that read everything back for every coder."""

import random
import unittest

from anychain.errors import Mismatch
from anychain.forany import changed_letter, unfirm_rules
from tests import making, slow, slow_papers
from tests.helpers import Case, ask, only_plain

READER = (2, 1, (), ((((), 0), ((0,), 0)),), ((),))
NOTHING = (2, 1, (0,), ((((), 0), ((0,), 0)),), (None,))
LATE = making.late_reader(((0,), (1,)))


class Firm(Case):
    def holds(self, reader, book, length):
        """Compare with all letters up to a length that the reader does not refuse."""
        told = ask(unfirm_rules, reader, book)
        changed = ask(changed_letter, reader, book)
        self.assertTrue(only_plain((told, changed)))
        self.assertEqual(told, tuple(sorted(set(told))))
        self.assertIs(changed is None, told == ())
        unfirm = set()
        for letter in slow.all_words(reader[0], length):
            made = slow.translate(reader, letter)
            if made is not None:
                for step in slow.steps(book, letter):
                    if slow.translate(reader, slow.behind(book, letter, step)) != made:
                        unfirm.add(step[:2])
        self.assertLessEqual(unfirm, set(told))
        for relay, rule in set(told) - unfirm:
            # Only a longer letter shows it.
            letter, _ = changed_letter(reader, ((book[relay][rule],),))
            self.assertGreater(len(letter), length)
        if changed is not None:
            letter, step = changed
            made = slow.translate(reader, letter)
            self.assertIsNotNone(made)
            self.assertNotEqual(slow.translate(reader, slow_papers.run(book, letter, (step,))), made)
            self.assertIn(step[:2], told)
        return told

    def test_ordinary_readers(self):
        self.assertEqual(self.holds(READER, ((((0, 0), (0,)), ((0,), ())),), 6), ())
        self.assertEqual(self.holds(READER, ((((0, 1), ()), ((0, 1), (1,))), (), (((1, 1), (1,)),)), 6), ((0, 0), (2, 0)))
        self.assertEqual(self.holds(READER, (), 3), ())
        self.assertEqual(self.holds(READER, ((), ()), 3), ())

    def test_letters_that_no_coder_sends_count_too(self):
        self.assertEqual(self.holds(READER, ((((1,), (0,)),),), 3), ((0, 0),))

    def test_readers_that_refuse_everything(self):
        for reader in (NOTHING, (2, 1, (), ((None, None),), (None,))):
            self.assertEqual(self.holds(reader, ((((0,), ()), ((1,), (0,))),), 4), ())

    def test_a_left_side_in_no_letter_that_is_taken(self):
        reader = (2, 1, (), ((((), 1), None), (None, ((0,), 0))), ((), ()))
        self.assertEqual(self.holds(reader, ((((0, 0), (0,)), ((1, 1), ())),), 6), ())
        self.assertEqual(self.holds(reader, ((((0, 1), ()), ((1, 0), ())),), 6), ((0, 0), (0, 1)))

    def test_states_that_are_not_reached_and_states_without_an_ending(self):
        # In state 1 a 1 would change all, but nothing leads there; behind state 2 no letter ends.
        reader = (2, 1, (), ((((), 0), ((), 2)), (((0,), 1), ((), 1)), (((0,), 2), None)), ((), (), None))
        self.assertEqual(self.holds(reader, ((((0,), ()), ((1, 0), ())),), 5), ())
        self.assertEqual(self.holds(reader, ((((0,), (1,)),),), 5), ((0, 0),))

    def test_the_word_behind_the_step_is_refused(self):
        reader = (2, 1, (), ((((), 1), None), (((), 1), ((), 1))), (None, ()))
        self.assertEqual(self.holds(reader, ((((0, 1), (1,)), ((1,), ()), ((0, 0), (0,)), ((0,), ())),), 5),
                         ((0, 0), (0, 3)))

    def test_what_is_written_later(self):
        book = ((((0, 2), (0,)), ((2,), ())), (((0, 0), (0,)), ((2, 0), (0,))))
        self.assertEqual(self.holds(LATE, book, 5), ((1, 0),))

    def test_the_same_signs_in_another_order(self):
        reader = (3, 2, (), ((((0,), 0), ((1,), 0), ((0, 1), 0)),), ((),))
        self.assertEqual(self.holds(reader, ((((0, 1), (2,)), ((1, 0), (2,))),), 4), ((0, 1),))

    def test_a_rule_that_stands_twice(self):
        self.assertEqual(self.holds(READER, ((((1,), ()), ((1,), ())),), 3), ((0, 0), (0, 1)))

    def test_mismatch(self):
        for function in (unfirm_rules, changed_letter):
            for book in (((((2,), ()),),), ((((1,), (2,)),),), ((),) * 9):
                self.raises(Mismatch, function, READER, book)
            # The signs of the book are those of the letters, not of the contents.
            ask(function, READER, ((((1,), ()),),))
            self.raises(Mismatch, function, (1, 2) + ((), ((((0,), 0),),), ((),)), ((((1,), ()),),))

    def test_many_readers(self):
        rng = random.Random(331)
        firm = unfirm = 0
        for _ in range(900):
            ins = rng.randint(1, 3)
            reader = making.translator(rng, ins, rng.randint(1, 2), rng.randint(1, 3), 2, 0.25)
            book = making.book(rng, ins, 2, 2, 3)
            told = self.holds(reader, book, 6 - ins)
            firm += told == () and any(book)
            unfirm += told != ()
        self.assertGreater(firm, 100)
        self.assertGreater(unfirm, 100)

    def test_many_readers_that_pass_over_signs(self):
        rng = random.Random(332)
        firm = 0
        for _ in range(200):
            _, book, reader = making.codec(rng, 0.3)
            firm += self.holds(reader, book, 5) == () and any(book)
        self.assertGreater(firm, 30)


if __name__ == "__main__":
    unittest.main()
