"""Points 28 to 31: seal tables, final forms, splits, overlaps and broken seals."""

import random
import unittest

from anychain.errors import InvalidSeal, NotSettling
from anychain.seals import broken_seal, check_seal_table, final_form, overlaps, reduction, split
from tests import making, slow, slow_papers
from tests.helpers import ODD_VALUES, Case, ask, error_of, only_plain, spoilt

TABLE = (((0, 1), (2,)), ((1, 0), (0,)))
HEADS = (
    ((10,), (8,)), ((11,), (8,)), ((9,), (8,)), ((8, 8), (8,)), ((8, 12), (12,)), ((8, 13), (13,)), ((5, 8), (5,)),
    ((2,), (0,)), ((3,), (1,)),
)


def is_seal_table(signs, table):
    """Point 28, asked place by place."""
    if type(table) is not tuple or len(table) > 12:
        return False
    for rule in table:
        if type(rule) is not tuple or len(rule) != 2 or not all(slow_papers.is_word(side, signs) for side in rule):
            return False
        left, right = rule
        shorter = 1 <= len(left) <= 6 and len(right) < len(left)
        smaller = len(left) == len(right) == 1 and right[0] < left[0]
        if not shorter and not smaller:
            return False
    return True


def reduced(table, word):
    """The word reduced once, or None if it is final."""
    for place in range(len(word)):
        for left, right in table:
            if word[place:place + len(left)] == left:
                return word[:place] + right + word[place + len(left):]
    return None


def behind(table, word):
    """All words that one rule makes of a word, at any place."""
    return {
        word[:place] + right + word[place + len(left):]
        for left, right in table for place in range(len(word)) if word[place:place + len(left)] == left
    }


def finals(table, word, known):
    """All final words to which a word can be led."""
    if word not in known:
        after = behind(table, word)
        known[word] = frozenset().union(*(finals(table, other, known) for other in after)) if after else {word}
    return known[word]


class Check(Case):
    def agrees(self, signs, table):
        right = is_seal_table(signs, table)
        self.assertIs(error_of(check_seal_table, signs, table), None if right else InvalidSeal, (signs, table))
        return right

    def test_ordinary_tables(self):
        for signs, table in ((3, TABLE), (28, HEADS), (1, ()), (30, ()), (30, (((29,), (28,)), ((0,) * 6, (29,) * 5)))):
            self.assertTrue(self.agrees(signs, table))

    def test_numbers_of_rules(self):
        for rules in (0, 1, 11, 12, 13, 14):
            self.assertIs(self.agrees(2, (((0, 1), ()),) * rules), rules <= 12)

    def test_lengths(self):
        for left in range(9):
            for right in range(9):
                self.assertIs(self.agrees(2, (((1,) * left, (0,) * right),)), 1 <= left <= 6 and right < left or
                              left == right == 1)
                self.assertIs(self.agrees(2, (((0,) * left, (1,) * right),)), 1 <= left <= 6 and right < left)

    def test_one_sign_for_another(self):
        for left in range(-1, 4):
            for right in range(-1, 4):
                self.assertIs(self.agrees(3, (((left,), (right,)),)), 0 <= right < left < 3)

    def test_numbers_of_signs(self):
        for signs in (1, 2, 29, 30):
            self.assertTrue(self.agrees(signs, (((signs - 1, 0), ()),)))
            self.assertFalse(self.agrees(signs, (((signs, 0), ()),)))
            self.assertFalse(self.agrees(signs, (((0, 0), (signs,)),)))
            self.assertFalse(self.agrees(signs, (((0, 0), (-1,)),)))

    def test_any_value(self):
        for value in ODD_VALUES:
            self.agrees(2, value)
        for table in (TABLE, (((0, 1, 1), (1, 0)), ((1,), (0,)), ((1, 1, 1, 1, 1, 1), ()))):
            wrong = 0
            for value in spoilt(table):
                wrong += not self.agrees(3, value)
            self.assertGreater(wrong, 100)


class Reduction(Case):
    def holds(self, table, word):
        told = ask(reduction, table, word)
        self.assertTrue(only_plain(told))
        self.assertEqual(told[0], word)
        for one, other in zip(told, told[1:]):
            self.assertEqual(reduced(table, one), other)
        self.assertIsNone(reduced(table, told[-1]))
        self.assertEqual(ask(final_form, table, word), told[-1])
        return told

    def test_ordinary_words(self):
        self.assertEqual(self.holds(TABLE, (0, 1, 0)), ((0, 1, 0), (2, 0)))
        self.assertEqual(self.holds(TABLE, (1, 0, 1, 0)), ((1, 0, 1, 0), (0, 1, 0), (2, 0)))
        self.assertEqual(self.holds(HEADS, (5, 9, 10, 11, 12, 2)), (
            (5, 9, 10, 11, 12, 2), (5, 8, 10, 11, 12, 2), (5, 10, 11, 12, 2), (5, 8, 11, 12, 2), (5, 11, 12, 2),
            (5, 8, 12, 2), (5, 12, 2), (5, 12, 0),
        ))

    def test_final_words(self):
        for word in ((), (2,), (2, 2, 0, 0), (1, 1, 1)):
            self.assertEqual(self.holds(TABLE, word), (word,))
        self.assertEqual(self.holds((), (0, 1, 2)), ((0, 1, 2),))

    def test_the_leftmost_place_and_then_the_first_rule(self):
        self.assertEqual(self.holds((((1, 1), ()), ((0, 1, 1), (0,)), ((0,), ())), (0, 1, 1)), ((0, 1, 1), (0,), ()))
        self.assertEqual(self.holds((((0,), ()), ((0, 1), (1,))), (0, 1)), ((0, 1), (1,)))
        self.assertEqual(self.holds((((0, 0, 0), (1,)), ((0, 0), (2,))), (0, 0, 0)), ((0, 0, 0), (1,)))
        self.assertEqual(self.holds((((0, 0), (2,)), ((0, 0, 0), (1,))), (0, 0, 0)), ((0, 0, 0), (2, 0)))

    def test_a_left_side_that_arises_far_to_the_left(self):
        table = (((0, 0, 0, 0, 0, 1), (2,)), ((3, 3), (1,)), ((4,), ()))
        self.assertEqual(self.holds(table, (0, 0, 0, 0, 0, 3, 4, 3))[-1], (2,))
        self.assertEqual(self.holds((((0, 0, 0, 1, 1, 1), ()),), (0,) * 9 + (1,) * 9)[-1], ())
        self.assertEqual(self.holds((((0, 0, 0, 1, 1, 1), ()),), (0,) * 12 + (1,) * 9)[-1], (0, 0, 0))

    def test_many_words(self):
        rng = random.Random(281)
        for _ in range(400):
            signs = rng.randint(1, 4)
            table = making.seal_table(rng, signs, 12, 6)
            for _ in range(4):
                self.holds(table, making.word(rng, signs, 0, 14))

    def test_long_words(self):
        word = (29, 28, 27) * 10000
        table = (((29,), (1,)), ((28,), (1,)), ((27,), (0,)), ((1, 1), (1,)), ((1, 0), (0,)), ((0, 0), (0,)))
        self.assertEqual(final_form(table, word), (0,))
        self.assertEqual(len(reduction((((0, 0), (0,)),), (0,) * 1500)), 1500)


class Overlaps(Case):
    def slowly(self, table):
        """Both rules are laid over each other in every way that the words allow."""
        found = set()
        for left, right in table:
            for other_left, other_right in table:
                for shift in range(len(left)):
                    size = max(len(left), shift + len(other_left))
                    word = left + other_left[len(left) - shift:]
                    if len(word) != size or word[shift:shift + len(other_left)] != other_left:
                        continue
                    one = right + word[len(left):]
                    other = word[:shift] + other_right + word[shift + len(other_left):]
                    if one != other:
                        found.add((word,) + tuple(sorted((one, other), key=slow.order)))
        return tuple(sorted(found, key=lambda triple: [slow.order(word) for word in triple]))

    def holds(self, table):
        told = ask(overlaps, table)
        self.assertTrue(only_plain(told))
        self.assertEqual(told, self.slowly(table))
        return told

    def test_examples(self):
        self.assertEqual(self.holds(TABLE), (((0, 1, 0), (0, 0), (2, 0)), ((1, 0, 1), (0, 1), (1, 2))))
        self.assertEqual(self.holds(()), ())

    def test_a_rule_and_itself(self):
        self.assertEqual(self.holds((((0, 0), (1,)),)), (((0, 0, 0), (0, 1), (1, 0)),))
        self.assertEqual(self.holds((((0, 0), (0,)),)), ())
        self.assertEqual(self.holds((((0, 1, 0), (1,)),)), (((0, 1, 0, 1, 0), (0, 1, 1), (1, 1, 0)),))

    def test_a_left_side_within_another(self):
        table = (((0, 1, 0, 1), (2,)), ((1, 0), ()))
        self.assertIn(((0, 1, 0, 1), (2,), (0, 1)), self.holds(table))
        self.assertIn(((0, 0, 0), (1, 0), (2, 2)), self.holds((((0, 0, 0), (2, 2)), ((0,), ()), ((0, 0), (1,)))))

    def test_two_rules_with_the_same_left_side(self):
        self.assertEqual(self.holds((((3,), (1,)), ((3,), (2,)))), (((3,), (1,), (2,)),))
        self.assertEqual(self.holds((((3,), (1,)), ((3,), (1,)))), ())

    def test_shorter_words_come_first(self):
        told = self.holds((((0, 0), (1,)), ((1,), ()), ((1, 1, 1), (0,))))
        self.assertEqual(list(told), sorted(told, key=lambda triple: [slow.order(word) for word in triple]))

    def test_many_tables(self):
        rng = random.Random(301)
        for _ in range(600):
            signs = rng.randint(1, 3)
            self.holds(making.seal_table(rng, signs, 12, rng.randint(2, 6)))


class Split(Case):
    def holds(self, signs, table, length):
        told = ask(split, table)
        self.assertTrue(only_plain(told))
        known = {}
        least = [word for word in slow.all_words(signs, length) if len(finals(table, word, known)) > 1][:1]
        if told is not None:
            word, first, second = told
            self.assertNotEqual(first, second)
            self.assertLessEqual({first, second}, finals(table, word, {}))
            self.assertTrue(least or len(word) > length)
        self.assertEqual([told[0]] if told is not None and len(told[0]) <= length else [], least)
        return told

    def test_ordinary_tables(self):
        self.assertEqual(self.holds(3, TABLE, 5)[0], (0, 1, 0))
        self.assertIsNone(self.holds(1, (), 4))
        self.assertIsNone(self.holds(2, (((0, 0), (0,)), ((1,), (0,))), 6))
        self.assertIsNone(ask(split, HEADS))
        self.assertIsNotNone(ask(split, HEADS[:-1] + (((3,), (2,)), ((3,), (1,)))))

    def test_a_word_whose_final_forms_are_found_by_several_rules(self):
        # 0 1 leads to 5 at once, or to 2, 3 and 4.
        table = (((0, 1), (5,)), ((1,), ()), ((0,), ()))
        self.assertEqual(self.holds(6, table, 3)[0], (0, 1))
        table = (((4, 4), (3,)), ((3,), (2,)), ((2,), (1,)), ((1,), (0,)), ((4,), (3,)))
        told = self.holds(5, table, 3)
        self.assertEqual((told[0], set(told[1:])), ((4, 4), {(0,), (0, 0)}))

    def test_the_least_of_several_words(self):
        table = (((1, 1), (0,)), ((0, 1, 0), (1,)), ((0, 0, 0), ()))
        self.assertEqual(len(self.holds(2, table, 7)[0]), 3)

    def test_many_tables(self):
        rng = random.Random(291)
        settling = 0
        for _ in range(500):
            signs = rng.randint(1, 3)
            table = making.seal_table(rng, signs, 5, 3)
            settling += self.holds(signs, table, 8 - signs) is None and len(table) > 1
        self.assertGreater(settling, 50)
        self.assertLess(settling, 400)

    def test_linked_words_have_one_final_form(self):
        rng = random.Random(292)
        asked = 0
        while asked < 40:
            table = making.seal_table(rng, 2, 4, 3)
            if split(table) is None:
                # Rules are applied both ways, but only over words of at most six signs.
                group = {word: word for word in slow.all_words(2, 6)}
                for word in group:
                    for other in behind(table, word):
                        old, new = group[word], group[other]
                        group = {key: new if value == old else value for key, value in group.items()}
                for word in group:
                    self.assertEqual(final_form(table, word), final_form(table, group[word]))
                asked += 1


class BrokenSeal(Case):
    def holds(self, table, book, signs, length):
        told = ask(broken_seal, table, book)
        self.assertTrue(only_plain(told))
        lengths = [
            len(word) for word in slow.all_words(signs, length) for step in slow.steps(book, word)
            if final_form(table, slow.behind(book, word, step)) != final_form(table, word)
        ]
        if told is None:
            self.assertEqual(lengths, [])
        else:
            letter, step = told
            self.assertEqual(len(letter), min(lengths))
            self.assertNotEqual(final_form(table, slow_papers.run(book, letter, (step,))), final_form(table, letter))
        return told

    def test_ordinary_books(self):
        table = (((0, 0), (0,)), ((1,), (0,)))
        self.assertIsNone(self.holds(table, (), 2, 3))
        self.assertIsNone(self.holds(table, ((((0, 1), (0,)), ((1, 1, 1, 1), (1,))), (((0,), (1,)),)), 2, 5))
        self.assertEqual(self.holds(table, ((), (((0, 1), (0,)), ((0,), ()))), 2, 3), ((0,), (1, 1, 0)))
        self.assertEqual(self.holds((), ((((0, 1), (0,)),),), 2, 3), ((0, 1), (0, 0, 0)))

    def test_the_shortest_letter(self):
        book = ((((0, 0, 0), ()), ((0, 0), ())), (((1,), (0,)), ((0, 1), ())))
        self.assertEqual(self.holds((), book, 2, 4), ((1,), (1, 0, 0)))

    def test_not_settling(self):
        for book in ((), ((((0,), ()),),)):
            self.raises(NotSettling, broken_seal, TABLE, book)
        self.assertIsNone(ask(broken_seal, HEADS, (((((8, 8), (8,))), ((9,), (8,))),)))

    def test_many_tables(self):
        rng = random.Random(311)
        whole = broken = 0
        for _ in range(800):
            signs = rng.randint(1, 3)
            table, book = making.seal_table(rng, signs, 4, 3), making.book(rng, signs, 2, 2)
            if split(table) is not None:
                self.raises(NotSettling, broken_seal, table, book)
            else:
                told = self.holds(table, book, signs, 4)
                whole += told is None and any(book)
                broken += told is not None
        self.assertGreater(whole, 20)
        self.assertGreater(broken, 100)


if __name__ == "__main__":
    unittest.main()
