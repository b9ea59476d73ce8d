"""Point 32: zigzags, links and the finest seal."""

import random
import unittest

from anychain.errors import NotSettling
from anychain.finest import is_finest, is_zigzag, zigzag
from anychain.seals import broken_seal, final_form, split
from tests import making, slow
from tests.helpers import Case, ask, only_plain

# 0 and 1 become each other in a ring, two zeros become one, and 2 vanishes.
BOOK = ((((0,), (1,)), ((1,), (0,))), (((0, 0), (1,)), ((2,), ())))
TABLE = (((1,), (0,)), ((0, 0), (0,)), ((2,), ()))
LINKS = (((1,), (0,)), ((0, 0), (1,), (0,)), ((2,), ()))
UNSETTLED = (((0, 1), (2,)), ((1, 0), (0,)))


def one_step(book, first, second):
    return any(slow.behind(book, first, step) == second for step in slow.steps(book, first))


def zigzags(book, words):
    """The test's own answer."""
    return len(words) > 0 and all(
        one_step(book, one, other) or one_step(book, other, one) for one, other in zip(words, words[1:])
    )


def neighbours(book, word, signs, length):
    """All words of at most a length that are one step away."""
    found = {slow.behind(book, word, step) for step in slow.steps(book, word)}
    for relay in book:
        for left, right in relay:
            for place in range(len(word) - len(right) + 1):
                if word[place:place + len(right)] == right:
                    found.add(word[:place] + left + word[place + len(right):])
    return {other for other in found if len(other) <= length}


def link(book, first, last, signs, length):
    """A shortest zigzag over words of at most a length, or None."""
    came = {first: None}
    queue = [first]
    for word in queue:
        for other in sorted(neighbours(book, word, signs, length)):
            if other not in came:
                came[other] = word
                queue.append(other)
    if last not in came:
        return None
    words = [last]
    while came[words[-1]] is not None:
        words.append(came[words[-1]])
    return tuple(words[::-1])


class IsZigzag(Case):
    def holds(self, book, words):
        told = ask(is_zigzag, book, words)
        self.assertIs(told, zigzags(book, words))
        return told

    def test_ordinary_words(self):
        for words in (((0, 0),), ((),), ((0, 0), (1,), (0,)), ((0,), (1,), (0, 0)), ((2, 0), (0,), (2, 0), (2, 1))):
            self.assertTrue(self.holds(BOOK, words))
        for words in ((), ((0,), (0,)), ((0, 0), (0,)), ((0,), (2,)), ((0,), (2, 2, 0)), ((0,), (1,), (1,))):
            self.assertFalse(self.holds(BOOK, words))
        self.assertTrue(self.holds((), ((0, 1),)))
        self.assertFalse(self.holds((), ((0, 1), (0,))))

    def test_a_step_within_a_word(self):
        self.assertTrue(self.holds(BOOK, ((1, 0, 0, 1), (1, 1, 1), (1, 1, 2, 1))))
        self.assertFalse(self.holds(BOOK, ((1, 0, 0, 1), (0, 1, 1))))

    def test_a_rule_that_leaves_a_word_as_it_is_in_two_ways(self):
        self.assertTrue(self.holds(((((0, 0), (0,)),),), ((0, 0, 0), (0, 0))))
        self.assertFalse(self.holds(((((0, 0), (0,)),),), ((0, 0, 0), (0, 0, 0))))

    def test_many_words(self):
        rng = random.Random(321)
        right = 0
        for _ in range(1500):
            signs = rng.randint(1, 2)
            book = making.book(rng, signs, 2, 2, 3)
            words = [making.word(rng, signs, 0, 4)]
            for _ in range(rng.randint(0, 3)):
                near = sorted(neighbours(book, words[-1], signs, 6))
                words.append(rng.choice(near) if near and rng.random() < 0.85 else making.word(rng, signs, 0, 4))
            right += self.holds(book, tuple(words)) and len(words) > 1
        self.assertGreater(right, 200)


class IsFinest(Case):
    def holds(self, table, book, links):
        told = ask(is_finest, table, book, links)
        right = split(table) is None and broken_seal(table, book) is None and len(links) == len(table) and all(
            zigzags(book, words) and words[0] == left and words[-1] == right
            for (left, right), words in zip(table, links)
        )
        self.assertIs(told, right)
        return told

    def test_ordinary_tables(self):
        self.assertTrue(self.holds(TABLE, BOOK, LINKS))
        self.assertTrue(self.holds((), (), ()))
        self.assertTrue(self.holds((), ((),), ()))
        self.assertFalse(self.holds((), BOOK, ()))

    def test_wrong_links(self):
        for links in (
            (), LINKS[:2], LINKS + (((2,), ()),), LINKS[::-1], (LINKS[0], LINKS[1], ()),
            (LINKS[0], ((0, 0), (0,)), LINKS[2]), (LINKS[0], LINKS[1][:2], LINKS[2]),
            (LINKS[0], LINKS[1][1:], LINKS[2]), (LINKS[0][::-1], LINKS[1], LINKS[2]),
            (((1,), (0,), (0,)), LINKS[1], LINKS[2]), (((1,),), LINKS[1], LINKS[2]),
        ):
            self.assertFalse(self.holds(TABLE, BOOK, links))
        self.assertTrue(self.holds(TABLE, BOOK, (((1,), (0, 0), (1,), (0,)),) + LINKS[1:]))

    def test_a_seal_that_does_not_survive(self):
        self.assertFalse(self.holds(TABLE, BOOK + ((((0,), ()),),), LINKS))
        self.assertFalse(self.holds(TABLE[:2], BOOK, LINKS[:2]))

    def test_a_table_that_is_not_settling(self):
        book = (UNSETTLED,)
        self.assertFalse(self.holds(UNSETTLED, book, UNSETTLED))

    def test_zigzags_of_another_book(self):
        self.assertFalse(self.holds(TABLE, BOOK[:1], LINKS))


class Zigzag(Case):
    def holds(self, table, book, links, first, second):
        told = ask(zigzag, table, links, first, second)
        self.assertTrue(only_plain(told))
        self.assertIs(told is None, final_form(table, first) != final_form(table, second))
        if told is not None:
            self.assertTrue(zigzags(book, told))
            self.assertEqual((told[0], told[-1]), (first, second))
        return told

    def test_ordinary_letters(self):
        for first in slow.all_words(3, 3):
            for second in slow.all_words(3, 2):
                self.holds(TABLE, BOOK, LINKS, first, second)
        self.assertIsNone(self.holds(TABLE, BOOK, LINKS, (2, 2), (0,)))
        self.assertIsNotNone(self.holds(TABLE, BOOK, LINKS, (2, 1, 2, 0, 0), (1, 1, 2)))

    def test_the_same_letter(self):
        for letter in ((), (0,), (1, 2, 1, 0, 0)):
            self.assertEqual(self.holds(TABLE, BOOK, LINKS, letter, letter), (letter,))

    def test_without_rules(self):
        self.assertEqual(self.holds((), (), (), (0, 1), (0, 1)), ((0, 1),))
        self.assertIsNone(self.holds((), (), (), (0, 1), (1, 0)))

    def test_not_settling(self):
        for first, second in (((0,), (0,)), ((0, 1), (2,)), ((0,), (2,))):
            self.raises(NotSettling, zigzag, UNSETTLED, UNSETTLED, first, second)

    def test_long_letters(self):
        self.holds(TABLE, BOOK, LINKS, (0, 1, 2) * 60, (2, 1, 0, 0) * 40)

    def test_many_tables(self):
        rng = random.Random(322)
        asked = 0
        while asked < 60:
            signs = rng.randint(1, 3)
            table = making.seal_table(rng, signs, 3, 3)
            if not table or split(table) is not None:
                continue
            # A book that does what the table does, in part by way of other words.
            book = (tuple(table),) + making.book(rng, signs, 2, 2, 3)
            links = tuple(link(book, left, right, signs, 4) for left, right in table)
            self.assertIs(ask(is_finest, table, book, links), broken_seal(table, book) is None)
            for _ in range(30):
                first, second = making.word(rng, signs, 0, 7), making.word(rng, signs, 0, 7)
                self.holds(table, book, links, first, second)
            asked += 1

    def test_what_a_finest_seal_says(self):
        # Two words have the same seal exactly if they are in one group of words joined by steps.
        book = ((((0,), (1,)), ((0, 0), (0,))), (((2,), ()),))
        links = (((1,), (0,)), ((0, 0), (0,)), ((2,), ()))
        self.assertTrue(ask(is_finest, TABLE, book, links))
        for first in slow.all_words(3, 3):
            for second in ((), (0,), (1, 1)):
                joined = link(book, first, second, 3, 4) is not None
                self.assertIs(joined, final_form(TABLE, first) == final_form(TABLE, second))


if __name__ == "__main__":
    unittest.main()
