"""Point 3: rules, relays and books."""

import random
import unittest

from anychain.books import check_book
from anychain.errors import InvalidBook
from tests import making, slow
from tests.helpers import ODD_VALUES, error_of, spoilt

BOOK = ((((0, 0), (1,)), ((1,), (0,))), (), (((2, 0, 1, 2), ()),))


class CheckBook(unittest.TestCase):
    def agrees(self, signs, book):
        expected = None if slow.is_book(signs, book) else InvalidBook
        self.assertIs(error_of(check_book, signs, book), expected, (signs, book))

    def valid(self, signs, book):
        self.assertIs(error_of(check_book, signs, book), None)

    def invalid(self, signs, book):
        self.assertIs(error_of(check_book, signs, book), InvalidBook)

    def test_ordinary_books(self):
        self.valid(3, BOOK)
        self.valid(30, BOOK)
        self.invalid(2, BOOK)
        self.valid(2, ((((0, 0), (1,)), ((1,), (0,))),))

    def test_empty_books_and_relays(self):
        self.valid(1, ())
        self.valid(1, ((),))
        self.valid(30, ((),) * 8)
        self.invalid(1, ((),) * 9)

    def test_number_of_relays_and_rules(self):
        relay = (((0,), ()),)
        self.valid(1, (relay,) * 8)
        self.invalid(1, (relay,) * 9)
        self.valid(1, (relay * 8,))
        self.invalid(1, (relay * 9,))
        self.valid(1, (relay * 8,) * 8)

    def test_number_of_signs(self):
        for signs in range(-2, 33):
            for book in ((), ((),), ((((0,), ()),),)):
                (self.valid if 1 <= signs <= 30 else self.invalid)(signs, book)
        self.valid(30, ((((29,), (28,)),),))
        self.invalid(29, ((((29,), (28,)),),))
        self.invalid(29, ((((28,), (29,)),),))
        self.invalid(30, ((((30,), ()),),))

    def test_lengths_of_the_sides(self):
        for length in range(7):
            left = (0,) * length
            (self.valid if 1 <= length <= 4 else self.invalid)(2, (((left, (1,)),),))
            (self.valid if 1 <= length <= 4 else self.invalid)(2, (((left, ()),),))
        for length in range(4):
            right = (1,) * length
            (self.valid if length <= 1 else self.invalid)(2, ((((0, 0, 0), right),),))

    def test_equal_sides(self):
        self.invalid(2, ((((0,), (0,)),),))
        self.invalid(2, ((((0, 1), ()), ((1,), (1,))),))
        self.invalid(2, ((((), ()),),))
        self.valid(2, ((((0,), (1,)),),))

    def test_true_is_no_integer(self):
        self.invalid(True, ())
        self.invalid(2, ((((True,), (0,)),),))
        self.invalid(2, ((((0,), (True,)),),))
        self.invalid(2, ((((1, False), ()),),))

    def test_any_value_as_signs_and_as_book(self):
        for odd in ODD_VALUES:
            self.agrees(odd, ())
            self.agrees(odd, BOOK)
            for signs in (1, 2, 30):
                self.agrees(signs, odd)
                self.agrees(signs, (odd,))
                self.agrees(signs, ((odd,),))
            for other in ODD_VALUES:
                self.agrees(odd, other)
                self.agrees(2, (((odd, other),),))

    def test_any_value_in_any_place(self):
        for book in (BOOK, ((((0, 1), (1,)),),), ((), ((), ((1,), ()))), ((((1,), (0,)),),)):
            for value in spoilt(book):
                self.agrees(3, value)

    def test_many_small_books(self):
        rng = random.Random(31)
        for _ in range(500):
            signs = rng.randint(1, 30)
            book = making.book(rng, signs, 9, 9, 5)
            self.agrees(signs, book)
            self.agrees(signs - 1, book)


if __name__ == "__main__":
    unittest.main()
