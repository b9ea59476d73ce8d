"""Points 19, 20 and 21: what is read back, and papers that show it."""

import random
import unittest

from anychain.arrivals import cost
from anychain.back import back_paper, judge_back, reads_back, spoiled
from anychain.errors import Mismatch, TooLong
from tests import making, slow, slow_papers
from tests.helpers import ODD_VALUES, Case, ask, only_plain, spoilt
from tests.test_arrivals import zeros

CODER = (1, 2, (), ((((0, 0, 1), 0),),), ((),))
READER = (2, 1, (), ((((), 0), ((0,), 0)),), ((),))
NOTHING = (1, 2, (), ((((0,), 0),),), (None,))
# Codes of one sign each; it writes a content sign one sign later.
TWO = (2, 3, (2,), ((((0,), 0), ((1, 2), 0)),), ((),))
LATE = making.late_reader(((0,), (1,)))
NOISE = ((((2,), ()), ((2, 2), (2,))), (((0, 2), (0,)),))


class Back(Case):
    def holds(self, coder, book, reader, length=4):
        """Ask all four functions, and compare them with each other and with a slow reckoning."""
        told = ask(reads_back, coder, book, reader)
        self.assertIs(type(told), bool)
        paper = ask(back_paper, coder, book, reader)
        self.assertIs(paper is not None, told)
        try:
            bad = ask(spoiled, coder, book, reader)
            self.assertIs(bad is None, told)
        except TooLong:
            self.assertFalse(told)
            self.assertGreater(cost(coder, book), 60)
            bad = None
        self.assertTrue(only_plain((paper, bad)))
        if told:
            self.assertTrue(slow_papers.is_back_paper(coder, book, reader, paper))
            self.assertIs(ask(judge_back, coder, book, reader, paper), True)
        if bad is not None:
            content, chain = bad
            sent = slow.translate(coder, content)
            self.assertNotEqual(slow.translate(reader, slow_papers.run(book, sent, chain)), content)
        if self.spoiled_content(coder, book, reader, length) is not None:
            self.assertFalse(told)
        return told

    def spoiled_content(self, coder, book, reader, length):
        """All contents up to a length and all words that can come of their letters are looked at."""
        for content in slow.all_words(coder[0], length):
            sent = slow.translate(coder, content)
            if sent is not None and len(sent) < 8:
                for letter in slow.outcomes(book, sent):
                    if slow.translate(reader, letter) != content:
                        return content
        return None


class ReadsBack(Back):
    def test_examples(self):
        self.assertTrue(self.holds(CODER, ((((0, 0), (0,)),),), READER))
        self.assertFalse(self.holds(CODER, ((((0, 1), ()),),), READER))

    def test_without_relays(self):
        for book in ((), ((),), ((),) * 8):
            self.assertTrue(self.holds(CODER, book, READER))
            self.assertFalse(self.holds(CODER, book, (2, 1, (), ((((), 0), ((0,), 0)),), (None,))))
        self.assertEqual(spoiled(CODER, (), (2, 1, (), ((((), 0), ((0, 0), 0)),), ((),)))[1], ())

    def test_contents(self):
        self.assertTrue(self.holds(NOTHING, ((((0,), (1,)),),), READER))
        self.assertTrue(self.holds(NOTHING, (), (2, 1, (), ((None, None),), (None,))))
        one = (1, 2, (0, 1), ((None,),), ((1,),))
        self.assertTrue(self.holds(one, ((((0,), ()),),), (2, 1, (), ((((), 0), ((), 0)),), ((),))))
        self.assertFalse(self.holds(one, ((((0,), ()),),), READER))
        self.assertFalse(self.holds(one, ((((0,), ()),),), (2, 1, (0,), ((((), 0), ((), 0)),), ((),))))

    def test_a_coder_with_states_that_reach_no_ending(self):
        coder = (2, 2, (), ((((0, 0, 1), 0), ((1, 1, 1), 1)), (((0,), 1), ((1,), 1))), ((), None))
        self.assertTrue(self.holds(coder, ((((0, 0), (0,)),),), (2, 2) + READER[2:]))

    def test_letters_that_are_longer_or_shorter(self):
        self.assertTrue(self.holds(TWO, NOISE, LATE))
        self.assertFalse(self.holds(TWO, NOISE + ((((0, 0), (0,)),),), LATE))
        # A second 0 is read otherwise only behind a 1, so the word must be long.
        self.assertFalse(self.holds(TWO, ((((1, 2, 0, 0), (0,)),),), LATE))

    def test_refused_letters(self):
        refusing = (2, 1, (), ((((), 1), None), (((), 1), ((0,), 0))), ((), None))
        self.assertTrue(self.holds(CODER, ((((0, 0), (0,)),),), refusing))
        self.assertFalse(self.holds(CODER, ((((0,), ()),),), refusing))
        self.assertFalse(self.holds(CODER, ((((1,), ()),),), refusing))

    def test_a_reader_that_is_right_in_the_end_only(self):
        # It writes all at the end of a letter: one content sign for one 1, and two for two.
        reader = (2, 1, (), (
            (((), 0), ((), 1)), (((), 1), ((), 2)), (((), 2), None),
        ), ((), (0,), (0, 0)))
        coder = (1, 2, (), ((((0, 1), 1),), (((1, 0), 2),), (None,)), ((), (), ()))
        self.assertTrue(self.holds(coder, ((((0,), ()),),), reader))
        self.assertFalse(self.holds(coder, ((((1, 1), (1,)),),), reader))

    def test_a_fault_that_only_the_order_of_what_is_written_shows(self):
        # Both sides write the same signs, but in another order.
        reader = (3, 2, (), ((((0,), 0), ((1,), 0), ((0, 1), 0)),), ((),))
        coder = (2, 3, (), ((((0,), 0), ((1,), 0)),), ((),))
        self.assertTrue(self.holds(coder, ((((0, 1), (2,)),),), reader))
        self.assertFalse(self.holds(coder, ((((1, 0), (2,)),),), reader))

    def test_a_clash_is_never_read_back(self):
        coder = (2, 1, (), ((((0,), 0), ((0,), 0)),), ((),))
        for reader in ((1, 2, (), ((((0,), 0),),), ((),)), (1, 2, (), ((((1,), 0),),), ((),))):
            self.assertFalse(self.holds(coder, (), reader))

    def test_two_ways_of_which_the_first_one_is_misread(self):
        coder = (2, 2, (), ((((0,), 1), ((1,), 1)), (None, None)), (None, ()))
        for first, second in (((), (1,)), ((0,), ()), ((0,), (1,))):
            reader = (2, 2, (), (((first, 1), (second, 1)), (None, None)), (None, ()))
            self.assertIs(self.holds(coder, (), reader), (first, second) == ((0,), (1,)))

    def test_a_letter_that_is_misread_and_read_rightly_behind_a_step(self):
        coder = (1, 2, (0, 0), ((None,),), ((),))
        reader = (2, 1, (), ((((), 1), None), (((), 0), None)), ((), None))
        rules = (((0, 0), (1,)), ((1,), ()))
        for one, other in (rules, rules[::-1]):
            self.assertFalse(self.holds(coder, ((one,), (other,)), reader))
        self.assertTrue(self.holds(coder, ((((0, 0), ()),),), reader))

    def test_many_that_mostly_fit(self):
        rng = random.Random(201)
        right = 0
        for _ in range(500):
            right += self.holds(*making.codec(rng, 0.3), 3)
        self.assertGreater(right, 100)
        self.assertLess(right, 450)

    def test_many_that_mostly_do_not(self):
        rng = random.Random(202)
        for _ in range(600):
            outs = rng.randint(1, 3)
            coder = making.translator(rng, rng.randint(1, 2), outs, rng.randint(1, 3), 2, 0.2)
            reader = making.translator(rng, outs, coder[0], rng.randint(1, 3), 2, 0.1)
            self.holds(coder, making.book(rng, outs, 2, 2, 3), reader)


class Errors(Case):
    FUNCTIONS = ((reads_back, ()), (spoiled, ()), (back_paper, ()), (judge_back, (None,)))

    def test_mismatch(self):
        for function, rest in self.FUNCTIONS:
            self.raises(Mismatch, function, CODER, ((((2,), ()),),), READER, *rest)
            self.raises(Mismatch, function, CODER, ((),) * 9, READER, *rest)
            self.raises(Mismatch, function, CODER, (), (3, 1, (), ((((), 0),) * 3,), ((),)), *rest)
            self.raises(Mismatch, function, CODER, (), (2, 2, (), ((((), 0),) * 2,), ((),)), *rest)
            self.raises(Mismatch, function, CODER, (), CODER, *rest)
            self.raises(Mismatch, function, CODER, ((((2,), ()),),), CODER, *rest)

    def test_too_long_only_for_a_result(self):
        shrink = ((((0, 0), (0,)),),)
        for many in (60, 61, 77):
            coder = zeros(many)
            length = len(coder[3]) - 1
            # It writes the whole content behind the first signs, or none of it.
            right = (2, 1, (0,) * 6, ((((0,) * (length - 6), 1), None), (((), 1), None)), (None, ()))
            wrong = (2, 1, (0,) * 6, ((((0,) * (length - 6), 1), None), (((), 0), None)), (None, ()))
            # It takes the sent letter, but no letter that is shorter by one sign.
            choosy = (2, 1, (0,) * 6, (
                (((0,) * (length - 6), 1), None), (((), 2), None), (((), 1), None)
            ), (None, None, ()) if many == 60 else (None, (), None))
            self.assertIsNone(ask(spoiled, coder, shrink, right))
            self.assertIsNone(ask(spoiled, coder, (), choosy))
            for reader in (wrong, choosy, (2, 1, (), ((((), 0), None),), ((),))):
                self.assertFalse(reads_back(coder, shrink, reader))
                if many == 60:
                    content, chain = ask(spoiled, coder, shrink, reader)
                    letter = slow_papers.run(shrink, slow.translate(coder, content), chain)
                    self.assertNotEqual(slow.translate(reader, letter), content)
                else:
                    self.raises(TooLong, spoiled, coder, shrink, reader)


class Judge(Case):
    def holds(self, coder, book, reader, paper):
        told = judge_back(coder, book, reader, paper)
        self.assertIs(told, slow_papers.is_back_paper(coder, book, reader, paper), paper)
        return told

    def test_any_value(self):
        for paper in ODD_VALUES:
            self.assertIs(ask(judge_back, CODER, (), READER, paper), False)
        for coder, reader in ((CODER, READER), (NOTHING, READER)):
            for one in ODD_VALUES[::3]:
                for other in ODD_VALUES[::3]:
                    self.assertIs(judge_back(coder, (), reader, (one, other, one)), False)

    def test_coders_without_contents(self):
        book = ((((0,), (1,)),),)
        for net in ((2, 1, (), ()), (2, 1, (0,), ()), (2, 2, (1,), ((0, 0, 1), (0, 1, 1))), (1, 1, (), ())):
            for rows in ((), ((1, 0, 0, ((), ())),), ((1, 0, 0, ((), (0,))),)):
                self.holds(NOTHING, book, READER, ((), net, rows))
        self.assertTrue(self.holds(NOTHING, book, READER, ((), (2, 1, (), ()), ())))
        self.assertTrue(self.holds(NOTHING, book, READER, (((0, 0, ((), ())),), (2, 1, (), ()), ())))

    def spoilt_papers(self, coder, book, reader, values):
        """Judge papers that are changed at one place, in every place."""
        paper = back_paper(coder, book, reader)
        return sum(self.holds(coder, book, reader, other) for other in spoilt(paper, values))

    def test_spoilt_papers(self):
        values = (None, True, 0, 1, -1, (), (0,), [], "", ((), ()), ((0,), ()), (0, 0, ((), ())), 10 ** 30)
        rng = random.Random(213)
        papers = 0
        self.spoilt_papers(CODER, ((((0, 0), (0,)),),), READER, ODD_VALUES)
        while papers < 4:
            coder, book, reader = making.codec(rng, 0)
            paper = back_paper(coder, book, reader)
            if paper[2] and len(repr(paper)) < 1200:
                self.spoilt_papers(coder, book, reader, values)
                papers += 1

    def test_more_than_is_needed(self):
        book = ((((0, 0), (0,)),),)
        pairs, net, rows = back_paper(CODER, book, READER)
        wide = (2, net[1] + 1, net[2], net[3])
        last = (net[1], 0, 0)
        self.assertTrue(self.holds(CODER, book, READER, (pairs, wide, rows)))
        self.assertTrue(self.holds(CODER, book, READER, (pairs, wide, rows + (last + (((), (0,)),),))))
        self.assertFalse(self.holds(CODER, book, READER, (pairs, net, rows + (last + (((), (0,)),),))))
        # With an end there, this row is wrong; and so is the net without its other ends.
        for ends in (net[2] + (net[1],), (net[1],)):
            wide = (2, net[1] + 1, ends, net[3])
            self.assertFalse(self.holds(CODER, book, READER, (pairs, wide, rows + (last + (((), (0,)),),))))
        self.assertTrue(self.holds(CODER, book, READER, (
            pairs, (2, net[1] + 1, net[2] + (net[1],), net[3]), rows + (last + (((), ()),),)
        )))

    def test_a_net_that_reads_more(self):
        # All words over 0 and 1 are read; whether that is a paper depends on the book and the reader.
        for book in (((((0, 0), (0,)),),), ((((0,), ()),),), ((((1, 1), (1,)),),)):
            self.holds(CODER, book, READER, (
                ((0, 0, ((), ())),), (2, 1, (0,), ((0, 0, 0), (0, 1, 0))), ((0, 0, 0, ((), ())),)
            ))
        self.assertTrue(self.holds(CODER, ((((0,), ()),),), READER, (
            ((0, 0, ((), ())),), (2, 1, (0,), ((0, 0, 0), (0, 1, 0))), ((0, 0, 0, ((), ())),)
        )))

    def test_pairs_with_a_dead_reader_are_not_reached(self):
        # The reader takes zeros alone; behind a 1 the net goes on, but no row is needed there.
        coder = (1, 2, (0,), ((None,),), ((),))
        reader = (2, 1, (), ((((), 0), None),), ((),))
        moves = ((0, -1, 1), (0, 0, 1), (0, 1, 2), (2, -1, 3), (2, 0, 3))
        pairs, rows = ((0, 0, ((), ())),), ((1, 0, 0, ((), ())),)
        for states, ends in ((4, (1,)), (4, (1, 3)), (5, (1,))):
            net = (2, states, ends, moves)
            self.assertTrue(self.holds(coder, ((((0,), ()),),), reader, (pairs, net, rows)))
        # A left side on which it dies is another matter.
        for left in ((1,), (1, 0), (0, 0)):
            self.holds(coder, (((left, ()),),), reader, (pairs, (2, 4, (1,), moves), rows))
            self.holds(coder, (((left, ()),),), reader, (pairs, (2, 4, (1,), ((0, -1, 2), (0, -1, 3)) + moves[:3]), rows))

    def test_leads_of_two_words_and_signs_that_are_none_of_a_content(self):
        book = ((((0, 0), (0,)),),)
        coder = CODER[:3] + (CODER[3] + ((None,),), ((), None))
        pairs, net, rows = back_paper(coder, book, READER)
        wide = (2, net[1] + 1, net[2], net[3])
        for lead in (
            ((0,), ()), ((), (0, 0)), ((0,), (0,)), ((1,), ()), ((), (0, 1)), ((-1,), ()), ((), (True,)), ((0,),),
            ([0], ()), ((), "0"), ((0,), (), ()), None,
        ):
            right = lead in (((0,), ()), ((), (0, 0)))
            for paper in ((pairs + ((1, 0, lead),), net, rows), (pairs, wide, rows + ((net[1], 0, 0, lead),))):
                self.assertIs(self.holds(coder, book, READER, paper), right)

    def test_pairs_that_are_put_in(self):
        rng = random.Random(215)
        right = wrong = 0
        for _ in range(300):
            coder, book, reader = making.codec(rng, 0)
            # A state of the coder that nothing reaches, and one of the reader.
            coder = coder[:3] + (coder[3] + coder[3][:1], coder[4] + (rng.choice(((), None, (2,))),))
            pairs, net, rows = back_paper(coder, book, reader)
            pair = (rng.randrange(len(coder[3])), rng.randrange(len(reader[3])))
            table = {entry[:2]: entry[2] for entry in pairs}
            table[pair] = rng.choice((((), ()), ((), ()), ((0,), ())))
            told = self.holds(coder, book, reader, (tuple(sorted(key + (table[key],) for key in table)), net, rows))
            right += told and pair not in [entry[:2] for entry in pairs]
            wrong += not told
        self.assertGreater(right, 5)
        self.assertGreater(wrong, 50)

    def test_many_nets_and_tables(self):
        rng = random.Random(214)
        right = 0
        for _ in range(300):
            coder, book, reader = making.codec(rng, 0)
            pairs, net, rows = back_paper(coder, book, reader)
            states = (net[1], len(reader[3]), len(reader[3]))
            for _ in range(3):
                row = tuple(rng.randrange(many) for many in states)
                lead = rng.choice((((), ()), ((0,), ()), ((), (0,))))
                table = {entry[:3]: entry[3] for entry in rows}
                table[row] = lead
                other = tuple(sorted(key + (table[key],) for key in table))
                right += self.holds(coder, book, reader, (pairs, net, other))
        self.assertGreater(right, 20)
        self.assertLess(right, 880)


if __name__ == "__main__":
    unittest.main()
