"""Point 35: parts of words, and words that are a part of no letter."""

import random
import unittest
from itertools import combinations

from anychain.arrivals import arriving
from anychain.bounds import least_missing, part_machine, safe_bound
from anychain.coders import coder_names, ready_coder
from anychain.errors import Mismatch
from anychain.machines import check_machine, least_machine, takes
from anychain.ready import ready_book
from tests import making, slow
from tests.helpers import Case, ask, only_plain

CODER = (1, 2, (), ((((0, 0, 1), 0),),), ((),))
SHORTER = ((((0, 0), (0,)),),)
SILENT = (1, 2, (), ((((0,), 0),),), (None,))


def nothing(signs):
    return (signs, (), ())


def only_the_empty_word(signs):
    return (signs, (0,), ((-1,) * signs,))


def everything(signs):
    return (signs, (0,), ((0,) * signs,))


def sets_of_signs(signs):
    return [chosen for many in range(signs + 1) for chosen in combinations(range(signs), many)]


def is_part(machine, word):
    """Tell whether a word is a part of one that a machine takes; its states all have a way to an end."""
    return any(slow.state_behind(machine, state, word) != -1 for state in range(len(machine[2])))


def parts_net(machine):
    """A net that may begin at each state and end at each one."""
    signs, _, rows = machine
    states = range(1, len(rows) + 1)
    moves = [(0, -1, state) for state in states]
    moves += [(at + 1, sign, row[sign] + 1) for at, row in enumerate(rows) for sign in range(signs) if row[sign] >= 0]
    return (signs, len(rows) + 1, tuple(states), tuple(sorted(moves)))


def words_over(chosen, length):
    words = slow.all_words(len(chosen), length)
    return [tuple(chosen[at] for at in word) for word in words]


def first_missing(chosen, length, has):
    """The least nonempty word over chosen signs, up to a length, for which `has` is not true."""
    for word in words_over(chosen, length):
        if word and not has(word):
            return word
    return None


def machines(seed, cases, states):
    rng = random.Random(seed)
    for _ in range(cases):
        signs = rng.randint(1, 3)
        yield least_machine(making.net(rng, signs, rng.randint(1, states), rng.randint(0, 9)))


class Parts(Case):
    def holds(self, machine):
        parts = ask(part_machine, machine)
        self.assertTrue(only_plain(parts))
        self.assertIsNone(check_machine(parts))
        self.assertTrue(slow.same_words(parts, parts_net(machine)))
        return parts

    def test_machines_that_take_nothing_or_everything(self):
        for signs in (1, 2, 30):
            self.assertEqual(self.holds(nothing(signs)), nothing(signs))
            self.assertEqual(self.holds(only_the_empty_word(signs)), only_the_empty_word(signs))
            self.assertEqual(self.holds(everything(signs)), everything(signs))

    def test_ordinary_machines(self):
        # The word 011 alone.
        word = (2, (3,), ((1, -1), (-1, 2), (-1, 3), (-1, -1)))
        parts = self.holds(word)
        self.assertEqual(
            [part for part in slow.all_words(2, 4) if takes(parts, part)],
            [(), (0,), (1,), (0, 1), (1, 1), (0, 1, 1)],
        )
        # Words of an even length have all parts.
        self.assertEqual(self.holds((2, (0,), ((1, 1), (0, 0)))), everything(2))
        # From one state everything goes on, but not from the first one.
        self.assertEqual(self.holds((2, (1,), ((1, -1), (1, 1)))), everything(2))

    def test_all_parts_of_all_words(self):
        for machine in machines(3501, 150, 3):
            if len(machine[2]) > 3:
                continue
            parts = self.holds(machine)
            # A part of 3 signs stands in a word that has at most 2 signs before it and 2 behind it.
            length = 7 if machine[0] < 3 else 6
            words = [word for word in slow.all_words(machine[0], length) if slow.takes(machine, word)]
            found = {word[i:j] for word in words for i in range(len(word) + 1) for j in range(i, len(word) + 1)}
            for part in found:
                self.assertTrue(takes(parts, part))
            for part in slow.all_words(machine[0], 3 if machine[0] < 3 else 2):
                self.assertIs(takes(parts, part), part in found, (machine, part))

    def test_many_machines(self):
        for machine in machines(3502, 600, 7):
            parts = self.holds(machine)
            self.assertEqual(part_machine(parts), parts)

    def test_large_machines(self):
        # All words of at most 300 signs over 30 signs.
        rows = tuple((state + 1,) * 30 for state in range(300)) + ((-1,) * 30,)
        machine = (30, tuple(range(301)), rows)
        self.assertEqual(part_machine(machine), machine)
        rng = random.Random(3503)
        rows = [[rng.randrange(400) for _ in range(3)] for _ in range(400)]
        moves = sorted((state, sign, row[sign]) for state, row in enumerate(rows) for sign in range(3))
        self.assertEqual(part_machine(least_machine((3, 400, (5, 70), tuple(moves)))), everything(3))
        # From one state everything goes on, and from 200 others it does not.
        rows = [[rng.randrange(200) if rng.random() < 0.97 else -1 for _ in range(3)] for _ in range(200)]
        rows[7][0] = 200
        moves = [(state, sign, row[sign]) for state, row in enumerate(rows) for sign in range(3) if row[sign] >= 0]
        moves += [(200, sign, 200) for sign in range(3)]
        machine = least_machine((3, 201, (200,), tuple(sorted(moves))))
        self.assertGreater(len(machine[2]), 150)
        self.assertEqual(part_machine(machine), everything(3))


class LeastMissing(Case):
    def holds(self, machine, chosen):
        told = ask(least_missing, machine, chosen)
        self.assertTrue(only_plain(told))
        # Each state that comes after some signs comes after at most so many as there are states.
        length = len(machine[2]) + 1
        self.assertEqual(told, first_missing(chosen, length, lambda word: slow.takes(machine, word)), (machine, chosen))
        return told

    def test_chosen_signs(self):
        for signs in (1, 2, 3):
            for chosen in sets_of_signs(signs):
                first = chosen[:1] or None
                self.assertEqual(self.holds(nothing(signs), chosen), first)
                self.assertEqual(self.holds(only_the_empty_word(signs), chosen), first)
                self.assertIsNone(self.holds(everything(signs), chosen))
        self.assertEqual(self.holds(only_the_empty_word(30), (29,)), (29,))

    def test_the_empty_word_does_not_count(self):
        # All words but the empty one, and all words of which the length is odd.
        self.assertIsNone(self.holds((1, (1,), ((1,), (1,))), (0,)))
        self.assertEqual(self.holds((2, (1,), ((1, 1), (0, 0))), (0, 1)), (0, 0))
        self.assertEqual(self.holds((2, (0,), ((1, 1), (0, 0))), (0, 1)), (0,))

    def test_only_chosen_signs_count(self):
        # Words over 0 and 2 that do not have 2 2, and no 1 at all.
        machine = (3, (0, 1), ((0, -1, 1), (0, -1, -1)))
        self.assertEqual(self.holds(machine, (0, 1, 2)), (1,))
        self.assertEqual(self.holds(machine, (0, 2)), (2, 2))
        self.assertEqual(self.holds(machine, (2,)), (2, 2))
        self.assertIsNone(self.holds(machine, (0,)))
        self.assertIsNone(self.holds(machine, ()))

    def test_many_machines(self):
        for machine in machines(3504, 400, 4):
            for chosen in sets_of_signs(machine[0]):
                for asked in (machine, part_machine(machine)):
                    if len(asked[2]) <= 5:
                        self.holds(asked, chosen)


class SafeBound(Case):
    def holds(self, coder, book, chosen):
        told = ask(safe_bound, coder, book, chosen)
        self.assertTrue(only_plain(told))
        machine = arriving(coder, book)
        self.assertEqual(told, least_missing(part_machine(machine), chosen), (coder, book, chosen))
        if told is not None:
            self.assertTrue(set(told) <= set(chosen))
            self.assertFalse(is_part(machine, told))
            for word in words_over(chosen, min(len(told), 4)):
                if word and slow.order(word) < slow.order(told):
                    self.assertTrue(is_part(machine, word))
        return told

    def test_ordinary_bounds(self):
        self.assertEqual(self.holds(CODER, (), (0, 1)), (1, 1))
        self.assertEqual(self.holds(CODER, (), (0,)), (0, 0, 0))
        self.assertEqual(self.holds(CODER, (), (1,)), (1, 1))
        self.assertIsNone(self.holds(CODER, (), ()))
        # Each 0 may be lost: 1 1 arises, and so does each word of ones.
        lost = ((((0,), ()),),)
        self.assertIsNone(self.holds(CODER, lost, (1,)))
        self.assertEqual(self.holds(CODER, lost, (0, 1)), (0, 0, 0))
        self.assertEqual(self.holds(CODER, ((((1,), (0,)),),), (0,)), None)

    def test_coders_that_send_little(self):
        for chosen in sets_of_signs(2):
            self.assertEqual(self.holds(SILENT, SHORTER, chosen), chosen[:1] or None)
        # The empty letter alone.
        empty = (1, 2, (), ((None,),), ((),))
        self.assertEqual(self.holds(empty, SHORTER, (0, 1)), (0,))
        self.assertEqual(self.holds((1, 2, (0,), ((None,),), ((),)), SHORTER, (0, 1)), (1,))

    def test_mismatch(self):
        for book in (((((2,), ()),),), ((),) * 9, (((((0,), (0,))),),), None):
            for chosen in ((), (0,), (0, 1)):
                self.raises(Mismatch, safe_bound, CODER, book, chosen)

    def test_letters_that_arrive_by_steps(self):
        """Words that can come of short letters, all of them, have no safe bound as a part."""
        rng = random.Random(3505)
        for _ in range(150):
            signs = rng.randint(2, 3)
            coder = making.translator(rng, rng.randint(1, 2), signs, rng.randint(1, 3), 2, 0.2)
            book = making.book(rng, signs, 2, 2, 2)
            letters = set()
            for content in slow.all_words(coder[0], 3):
                sent = slow.translate(coder, content)
                if sent is not None and len(sent) <= 6:
                    letters |= slow.outcomes(book, sent)
            parts = {word[i:j] for word in letters for i in range(len(word) + 1) for j in range(i, len(word) + 1)}
            for chosen in sets_of_signs(signs):
                self.assertNotIn(self.holds(coder, book, chosen), parts)

    def test_signs_of_mail(self):
        body = tuple(range(14, 28))
        for name in coder_names():
            coder = ready_coder(name)
            for names in ((), ("wrap", "close"), ("unfold", "lower", "trim", "undot", "strip")):
                self.holds(coder, ready_book(names), (14, 15))
                self.holds(coder, ready_book(names), (14, 18, 25))
        self.assertIsNone(self.holds(ready_coder("plain"), (), body))
        self.assertEqual(self.holds(ready_coder("headed"), (), body), (14,))
        # A line has 6 content signs, of which the first may end with two digits; these are never both 14.
        self.assertEqual(self.holds(ready_coder("lined"), (), (14,)), (14,) * 7)
        self.assertEqual(self.holds(ready_coder("lined"), (), (15,)), (15,) * 8)
        self.assertEqual(self.holds(ready_coder("dotted"), (), (20, 25)), (25, 20, 25))
        self.assertEqual(self.holds(ready_coder("quoted"), (), (19,)), (19, 19))


if __name__ == "__main__":
    unittest.main()
