"""Points 7, 13, 15 to 18 and 24: what can arrive, where it comes from, and what it costs."""

import random
import unittest

from anychain.arrivals import arriving, bad_arrival, chain_between, clash, cost, judge_never, never_paper, origin
from anychain.errors import Mismatch, TooLong
from anychain.finding import common_word
from anychain.machines import check_machine, least_machine, takes
from anychain.nets import check_net
from anychain.translators import written_words
from tests import making, slow, slow_papers
from tests.helpers import ODD_VALUES, Case, ask, only_plain, spoilt

CODER = (1, 2, (), ((((0, 0, 1), 0),),), ((),))
NOTHING = (1, 2, (), ((((0,), 0),),), (None,))
ONE = (1, 2, (0, 1), ((None,),), ((1,),))


def zeros(many):
    """A coder with one content alone, of which the sent letter has so many zeros (from 12 to 77)."""
    sizes = [6] * ((many - 6) // 6) + [(many - 6) % 6]
    moves = tuple((((0,) * size, at + 1),) for at, size in enumerate(sizes))
    return (1, 2, (0,) * 6, moves + ((None,),), (None,) * len(sizes) + ((),))


def word_machine(signs, word):
    return least_machine((signs, len(word) + 1, (len(word),), tuple((k, s, k + 1) for k, s in enumerate(word))))


def powers(rules):
    """A book whose sign k is made of two signs k - 1."""
    flat = [((sign, sign), (sign + 1,)) for sign in range(rules)]
    return tuple(tuple(flat[at:at + 8]) for at in range(0, rules, 8))


ZEROS = (1, 30, (), ((((0,), 0),),), ((),))


class Clash(Case):
    def holds(self, translator, length=6):
        told = ask(clash, translator)
        self.assertTrue(only_plain(told))
        seen = {}
        for word in slow.all_words(translator[0], length):
            letter = slow.translate(translator, word)
            if letter is not None and letter in seen:
                self.assertIsNotNone(told)
            seen[letter] = word
        if told is not None:
            first, second = told
            self.assertNotEqual(first, second)
            self.assertIsNotNone(slow.translate(translator, first))
            self.assertEqual(slow.translate(translator, first), slow.translate(translator, second))
        return told

    def test_one_to_one(self):
        for translator in (CODER, NOTHING, ONE, zeros(60)):
            self.assertIsNone(self.holds(translator))
        # Words over 0 and 1 that no beginning tells apart: 0, 01 and 11 still have one meaning each.
        self.assertIsNone(self.holds((3, 2, (), ((((0,), 0), ((0, 1), 0), ((1, 1), 0)),), ((),))))
        self.assertIsNone(self.holds((1, 1, (), ((((0,), 1),), (None,)), ((), ()))))

    def test_clashes(self):
        # 0 0 and then an ending of 0, or 0 0 0 with none.
        self.assertIsNotNone(self.holds((1, 1, (), ((((0,), 1),), (((0,), 0),)), ((0,), ()))))
        self.holds((1, 1, (), ((((), 0),),), ((),)))
        self.holds((2, 1, (), ((((0,), 0), ((0, 0), 0)),), ((),)))
        self.holds((1, 1, (), ((((0,), 1),), (None,)), ((0,), ())))

    def test_a_clash_of_lengths_alone(self):
        # The second state writes nothing any more, but goes on.
        told = self.holds((1, 1, (0,), ((((0,), 1),), (((), 1),)), (None, ())))
        self.assertIsNotNone(told)

    def test_a_clash_that_is_found_late(self):
        # 0 writes 0 and 1 writes 00; only words of 0 alone or of 1 alone are taken, and not the empty one.
        translator = (2, 1, (), (
            (((0,) * 5, 1), ((0,) * 6, 2)), (((0,) * 5, 1), None), (None, ((0,) * 6, 2)),
        ), (None, (), ()))
        first, second = self.holds(translator, 2)
        self.assertEqual({len(first), len(second)}, {5, 6})

    def test_only_with_another_ending(self):
        pair = self.holds((2, 2, (), ((((0,), 1), ((0,), 2)), (None, None), (None, None)), (None, (1, 0), (1, 0))))
        self.assertEqual(set(pair), {(0,), (1,)})
        self.assertIsNone(self.holds((2, 2, (), ((((0,), 1), ((0,), 2)), (None, None), (None, None)),
                                      (None, (1, 0), (1, 1)))))

    def test_many_translators(self):
        rng = random.Random(131)
        found = 0
        for _ in range(600):
            ins = rng.randint(1, 3)
            translator = making.translator(rng, ins, rng.randint(1, 3), rng.randint(1, 4), 3, 0.4)
            found += self.holds(translator, 5 if ins < 3 else 4) is None
        self.assertGreater(found, 50)


class Agree(Case):
    def test_mismatch(self):
        book = ((((2,), ()),),)
        machine = word_machine(3, (0,))
        for function, rest in (
            (arriving, ()), (origin, ((0,),)), (bad_arrival, (word_machine(2, (0,)),)), (cost, ()),
            (never_paper, (word_machine(2, (0,)),)), (judge_never, (word_machine(2, (0,)), None)),
        ):
            self.raises(Mismatch, function, CODER, book, *rest)
            self.raises(Mismatch, function, CODER, ((),) * 9, *rest)
        for function, rest in ((bad_arrival, ()), (never_paper, ()), (judge_never, (None,))):
            for signs in (1, 3):
                self.raises(Mismatch, function, CODER, (), word_machine(signs, (0,)), *rest)
            self.raises(Mismatch, function, CODER, (), (1, (), ()), *rest)
            self.raises(Mismatch, function, CODER, book, machine, *rest)
            ask(function, CODER, (), (2, (), ()), *rest)

    def test_mismatch_comes_before_too_long(self):
        self.raises(Mismatch, bad_arrival, ZEROS, powers(20), word_machine(2, (0,)))
        self.raises(TooLong, bad_arrival, ZEROS, powers(20), word_machine(30, (0,)))


class Arriving(Case):
    def test_examples(self):
        self.assertEqual(ask(arriving, CODER, ()), written_words(CODER))
        told = ask(arriving, CODER, ((((0, 0), (0,)),),))
        self.assertEqual(told, least_machine((2, 3, (0,), ((0, 0, 1), (0, 0, 2), (1, 0, 2), (2, 1, 0)))))

    def test_coders_without_contents(self):
        self.assertEqual(ask(arriving, NOTHING, ((((0,), (1,)),),)), (2, (), ()))
        self.assertIsNone(ask(origin, NOTHING, ((((0,), (1,)),),), (1,)))
        self.assertIsNone(ask(origin, NOTHING, ((((0,), ()),),), ()))
        self.assertEqual(ask(cost, NOTHING, ((((0,), (1,)),),)), 0)

    def test_one_content(self):
        book = ((((1,), (0,)),), (((0, 0), ()),))
        told = arriving(ONE, book)
        self.assertEqual({word for word in slow.all_words(2, 4) if takes(told, word)}, slow.outcomes(book, (0, 1, 1)))

    def test_many_coders(self):
        rng = random.Random(151)
        reached = 0
        for _ in range(250):
            ins, outs = rng.randint(1, 2), rng.randint(1, 3)
            coder = making.translator(rng, ins, outs, rng.randint(1, 3), 2, 0.3)
            book = making.book(rng, outs, 2, 3, 3)
            machine = ask(arriving, coder, book)
            check_machine(machine)
            self.assertTrue(only_plain(machine))
            net = slow_papers.closed(self.sent_net(coder), book)
            self.assertTrue(slow.same_words(machine, net))
            for content in slow.all_words(ins, 3):
                sent = slow.translate(coder, content)
                if sent is not None and len(sent) < 7:
                    for letter in slow.outcomes(book, sent):
                        self.assertTrue(slow.takes(machine, letter))
                        reached += 1
        self.assertGreater(reached, 1000)

    def sent_net(self, coder):
        machine = written_words(coder)
        moves = tuple((p, s, q) for p, row in enumerate(machine[2]) for s, q in enumerate(row) if q != -1)
        return (machine[0], max(1, len(machine[2])), machine[1], moves)


class Origin(Case):
    def holds(self, coder, book, letter):
        """Ask for the origin, and run its chain."""
        told = ask(origin, coder, book, letter)
        self.assertTrue(only_plain(told))
        if told is not None:
            content, chain = told
            self.assertEqual(slow_papers.run(book, slow.translate(coder, content), chain), letter)
        return told

    def test_ordinary_letters(self):
        book = ((((0, 0), (0,)),), (((0, 1), ()),))
        self.assertEqual(self.holds(CODER, book, (0, 0, 1)), ((0,), ()))
        self.assertIsNotNone(self.holds(CODER, book, (0, 1, 0)))
        self.assertIsNotNone(self.holds(CODER, book, ()))
        self.assertIsNone(self.holds(CODER, book, (1,)))
        self.assertIsNone(self.holds(CODER, (), (0, 1)))

    def test_a_rule_that_stands_twice(self):
        book = ((), (((0, 0), (0,)), ((0, 0), (0,))))
        self.assertIsNotNone(self.holds(CODER, book, (0, 1)))

    def test_rings(self):
        book = ((((0,), (1,)), ((1,), (0,))),)
        for letter in slow.all_words(2, 6):
            self.assertIs(self.holds(CODER, book, letter) is None, len(letter) in (1, 2, 4, 5))

    def test_a_sign_for_a_whole_ring(self):
        # 1 becomes 2, 2 becomes 3, .. and 29 becomes 0 at last.
        flat = [((sign,), (sign + 1 if sign < 29 else 0,)) for sign in range(30)]
        book = tuple(tuple(flat[at:at + 8]) for at in range(0, 30, 8))
        coder = (1, 30, (1, 2), ((None,),), ((3,),))
        self.holds(coder, book, (0, 1, 2))
        self.assertEqual(ask(cost, coder, book), 1)

    def test_long_letters(self):
        book = ((((0, 0), (0,)), ((0, 1), (1,)), ((1, 1), (1,))),)
        letter = (0, 1, 1) * 150 + (0, 0, 1) * 150
        self.assertIsNotNone(self.holds(CODER, book, letter))

    def test_many_coders(self):
        rng = random.Random(171)
        found = 0
        for _ in range(250):
            ins, outs = rng.randint(1, 2), rng.randint(1, 3)
            coder = making.translator(rng, ins, outs, rng.randint(1, 3), 3, 0.3)
            book = making.book(rng, outs, 2, 3)
            machine = arriving(coder, book)
            for letter in slow.all_words(outs, 3):
                try:
                    told = self.holds(coder, book, letter)
                except TooLong:
                    self.assertGreater(cost(coder, book), 60)
                    told = ()
                self.assertIs(told is not None, slow.takes(machine, letter))
                found += told is not None
        self.assertGreater(found, 500)


class BadArrival(Case):
    def holds(self, coder, book, machine):
        told = ask(bad_arrival, coder, book, machine)
        paper = ask(never_paper, coder, book, machine)
        self.assertTrue(only_plain((told, paper)))
        self.assertIs(told is None, common_word(arriving(coder, book), machine) is None)
        self.assertIs(told is None, paper is not None)
        if told is None:
            check_net(paper)
            self.assertTrue(slow_papers.is_never_paper(coder, book, machine, paper))
            self.assertIs(ask(judge_never, coder, book, machine, paper), True)
        else:
            content, chain = told
            self.assertTrue(slow.takes(machine, slow_papers.run(book, slow.translate(coder, content), chain)))
        return told

    def test_ordinary_machines(self):
        book = ((((0, 0), (0,)),),)
        self.assertIsNone(self.holds(CODER, book, word_machine(2, (1,))))
        self.assertEqual(self.holds(CODER, book, word_machine(2, (0, 1))), ((0,), ((0, 0, 0),)))
        self.assertIsNotNone(self.holds(CODER, book, (2, (0,), ((0, 0),))))
        self.assertIsNone(self.holds(CODER, book, (2, (), ())))
        self.assertIsNone(self.holds(NOTHING, book, (2, (0,), ((0, 0),))))

    def test_many_machines(self):
        rng = random.Random(181)
        papers = 0
        for _ in range(400):
            outs = rng.randint(1, 3)
            coder = making.translator(rng, rng.randint(1, 2), outs, rng.randint(1, 3), 2, 0.3)
            book = making.book(rng, outs, 2, 2)
            if cost(coder, book) <= 60:
                machine = least_machine(making.net(rng, outs, 3, 4))
                papers += self.holds(coder, book, machine) is None
        self.assertGreater(papers, 50)


class JudgeNever(Case):
    def holds(self, coder, book, machine, paper):
        told = judge_never(coder, book, machine, paper)
        self.assertIs(told, slow_papers.is_never_paper(coder, book, machine, paper), paper)
        return told

    def test_any_value(self):
        for paper in ODD_VALUES:
            self.assertIs(ask(judge_never, CODER, (), word_machine(2, (1,)), paper), False)

    def test_spoilt_papers(self):
        book = ((((0, 0), (0,)), ((1,), ())),)
        for machine in (word_machine(2, (1,)), (2, (), ()), word_machine(2, (1, 1))):
            paper = never_paper(CODER, book, machine)
            if paper is not None:
                right = sum(self.holds(CODER, book, machine, other) for other in spoilt(paper, ODD_VALUES))
                self.assertGreater(right, 0)

    def test_other_nets_are_right_too(self):
        book = ((((0, 0), (0,)),),)
        machine = word_machine(2, (1,))
        # It reads far more than what can arrive, with states that nothing needs.
        wide = (2, 3, (0, 2), ((0, 0, 0), (0, 0, 1), (1, 0, 0), (1, 0, 1), (1, 1, 0)))
        self.assertTrue(self.holds(CODER, book, machine, wide))
        self.assertFalse(self.holds(CODER, book, machine, (2, 1, (0,), ((0, 0, 0), (0, 1, 0)))))
        self.assertFalse(self.holds(CODER, book, machine, (3, 2, (0,), ((0, 0, 0), (0, 0, 1), (1, 1, 0)))))
        # Reads all sent letters only with other paths for some of them.
        self.assertTrue(self.holds(ONE, (), word_machine(2, ()), (2, 5, (4,), (
            (0, -1, 1), (0, 0, 1), (0, 0, 2), (1, 0, 3), (2, 1, 3), (3, 1, 4),
        ))))
        self.assertFalse(self.holds(ONE, (), word_machine(2, (0, 0, 1)), (2, 5, (4,), (
            (0, -1, 1), (0, 0, 1), (0, 0, 2), (1, 0, 3), (2, 1, 3), (3, 1, 4),
        ))))

    def test_coders_without_contents(self):
        for paper in ((2, 1, (), ()), (2, 1, (0,), ()), (2, 1, (0,), ((0, 0, 0),)), (2, 0, (), ()), (3, 1, (), ())):
            self.holds(NOTHING, ((((0,), ()),),), word_machine(2, (0,)), paper)

    def test_many_nets(self):
        rng = random.Random(182)
        right = 0
        for _ in range(600):
            coder = rng.choice((CODER, ONE, NOTHING))
            book = making.book(rng, 2, 2, 1, 2)
            machine = rng.choice((word_machine(2, (1,)), (2, (), ()), word_machine(2, (1, 1, 1))))
            right += self.holds(coder, book, machine, making.net(rng, 2, 2, rng.randint(2, 8)))
        self.assertGreater(right, 20)

    def test_the_class_of_the_answer(self):
        self.assertIs(judge_never(CODER, (), word_machine(2, (1,)), None), False)


class Cost(Case):
    def test_no_moves(self):
        self.assertEqual(ask(cost, NOTHING, ()), 0)
        self.assertEqual(ask(cost, (1, 1, (), ((None,),), ((),)), ((((0,), ()),),)), 0)

    def test_without_rules(self):
        self.assertEqual(ask(cost, CODER, ()), 1)
        self.assertEqual(ask(cost, CODER, ((), ())), 1)

    def test_exact_costs(self):
        shrink = ((((0, 0), (0,)),),)
        for many in (12, 59, 60, 61, 62, 77):
            self.assertEqual(ask(cost, zeros(many), shrink), many)
        self.assertEqual(ask(cost, ZEROS, powers(29)), 2 ** 29)

    def test_a_cheap_move_saves_a_dear_one(self):
        # 2 is made of three 1, and 1 of two 0; or 2 of one 0.
        coder = (1, 3, (), ((((0,), 0),),), ((),))
        dear = ((((0, 0), (1,)), ((1, 1, 1), (2,))),)
        self.assertEqual(ask(cost, coder, dear), 6)
        self.assertEqual(ask(cost, coder, dear + ((((0,), (2,)),),)), 2)

    def test_too_long_only_for_more_than_sixty(self):
        shrink = ((((0, 0), (0,)),),)
        zero, all_words = word_machine(2, (0,)), (2, (0,), ((0, 0),))
        for many in (60, 61):
            coder = zeros(many)
            for function, wanted, missing in (
                (origin, (0,), (1,)), (origin, (0,) * many, (0,) * (many + 1)),
                (bad_arrival, zero, word_machine(2, (1,))), (bad_arrival, all_words, (2, (), ())),
            ):
                self.assertIsNone(ask(function, coder, shrink, missing))
                if many == 60:
                    content, chain = ask(function, coder, shrink, wanted)
                    slow_papers.run(shrink, slow.translate(coder, content), chain)
                else:
                    self.raises(TooLong, function, coder, shrink, wanted)
            self.assertIsNone(never_paper(coder, shrink, zero))
            self.assertIsNotNone(never_paper(coder, shrink, word_machine(2, (1,))))
        self.assertEqual(len(origin(zeros(60), shrink, (0,))[1]), 59)
        self.raises(TooLong, origin, ZEROS, powers(29), ())
        self.assertIsNone(ask(origin, zeros(77), shrink, (1,)))

    def test_many_coders(self):
        rng = random.Random(241)
        seen = set()
        for _ in range(300):
            outs = rng.randint(1, 3)
            coder = making.translator(rng, rng.randint(1, 2), outs, rng.randint(1, 3), 3, 0.3)
            book = making.book(rng, outs, 2, 3)
            costs = slow_papers.costs(written_words(coder), book)
            self.assertEqual(ask(cost, coder, book), max(costs.values(), default=0))
            seen.add(max(costs.values(), default=0))
        self.assertGreater(len(seen), 8)


class ChainBetween(Case):
    def holds(self, book, first, last):
        chain = ask(chain_between, book, first, last)
        if chain is not None:
            self.assertTrue(only_plain(chain))
            self.assertEqual(slow_papers.run(book, first, chain), last)
        return chain

    def test_ordinary_words(self):
        book = ((((0, 0), (1,)), ((1,), (0,))),)
        self.assertEqual(self.holds(book, (0, 1), (0, 1)), ())
        self.assertIsNotNone(self.holds(book, (0, 0, 0), (0,)))
        self.assertIsNone(self.holds(book, (0, 0, 0), ()))
        self.assertIsNone(self.holds(book, (0,), (0, 0)))
        self.assertIsNone(self.holds((), (0,), (1,)))
        self.assertEqual(self.holds((), (), ()), ())
        self.assertIsNone(self.holds(book, (), (0,)))

    def test_sixty_signs(self):
        book = ((((0, 0), (0,)), ((0,), ())), (((29,), (0,)),))
        for many in (59, 60):
            self.assertIsNotNone(self.holds(book, (0,) * many, (0,)))
            self.assertIsNotNone(self.holds(book, (0,) * many, ()))
            self.assertIsNotNone(self.holds(book, (29, 0) * (many // 2), (0,) * 30))
            self.assertIsNone(self.holds(book, (0,) * many, (0,) * (many + 1)))
        for last in ((0,), (0,) * 61, (0,) * 62, (1,)):
            self.raises(TooLong, chain_between, book, (0,) * 61, last)
        self.raises(TooLong, chain_between, (), (0,) * 61, (0,) * 61)

    def test_a_last_word_of_more_than_sixty_signs(self):
        self.assertIsNone(self.holds(((((0, 0), (0,)),),), (0,) * 60, (0,) * 400))

    def test_rings(self):
        book = ((((0,), (1,)), ((1,), (2,)), ((2,), (0,))), (((0, 1, 2), ()),))
        self.assertIsNotNone(self.holds(book, (0,) * 30, (2,) * 30))
        self.assertIsNotNone(self.holds(book, (0,) * 30, ()))
        self.assertIsNone(self.holds(book, (0,) * 31, ()))

    def test_many_words(self):
        rng = random.Random(71)
        for _ in range(200):
            signs = rng.randint(1, 3)
            book, first = making.book(rng, signs, 3, 3), making.word(rng, signs, 0, 6)
            coming = slow.outcomes(book, first)
            for last in slow.all_words(signs, 3) + sorted(coming):
                self.assertIs(self.holds(book, first, last) is not None, last in coming)


if __name__ == "__main__":
    unittest.main()
