"""Point 47: the road."""

import random
import unittest

from anychain.arrivals import arriving, cost, origin
from anychain.back import reads_back, spoiled
from anychain.books import check_book
from anychain.coders import coder_names, ready_coder, ready_reader
from anychain.errors import AnychainError, InvalidBook, Mismatch, NoHistory, TooLong
from anychain.finding import words_of
from anychain.ready import ready_relay, relay_names
from anychain.relaysets import least_harmful
from anychain.road import Road
from tests import making, slow
from tests.helpers import ODD_VALUES, Case, ask, error_of, only_plain, spoilt
from tests.test_arrivals import ZEROS, powers, zeros

CODER = (1, 2, (), ((((0, 0, 1), 0),),), ((),))
READER = (2, 1, (), ((((), 0), ((0,), 0)),), ((),))
SHORTER = (((0, 0), (0,)),)
LOST = (((0, 1), ()),)
NOTHING = (1, 2, (), ((((0,), 0),),), (None,))


def road_of(coder, reader, book):
    road = Road(coder, reader)
    for relay in book:
        assert road.add_relay(relay) is None
    return road


class Roads(Case):
    def is_chain(self, book, letters):
        """Each word comes of the one before by one step of the book."""
        self.assertIs(type(letters), tuple)
        for one, other in zip(letters, letters[1:]):
            self.assertIn(other, [slow.behind(book, one, step) for step in slow.steps(book, one)])

    def holds(self, road, coder, reader, book):
        """All answers are those of the functions for this coder, reader and book."""
        self.assertEqual(ask(road.book), book)
        self.assertTrue(only_plain(road.book()))
        self.assertEqual(ask(road.blame), least_harmful(coder, book, reader))
        self.assertEqual(road.blame() == (), reads_back(coder, book, reader))
        told = ask(road.verdict)
        self.assertTrue(only_plain(told))
        self.assertEqual(told is None, spoiled(coder, book, reader) is None)
        if told is not None:
            content, letters, reading = told
            self.is_chain(book, letters)
            self.assertEqual(letters[0], slow.translate(coder, content))
            self.assertIsNotNone(letters[0])
            self.assertEqual(reading, slow.translate(reader, letters[-1]))
            self.assertNotEqual(reading, content)
        self.assertEqual(road.book(), book)
        return told

    def traces(self, road, coder, book, letter):
        told = ask(road.trace, letter)
        self.assertTrue(only_plain(told))
        self.assertEqual(told is None, origin(coder, book, letter) is None)
        if told is not None:
            content, letters = told
            self.is_chain(book, letters)
            self.assertEqual(letters[0], slow.translate(coder, content))
            self.assertIsNotNone(letters[0])
            self.assertEqual(letters[-1], letter)
        return told


class Changes(Roads):
    def test_a_new_road(self):
        road = Road(CODER, READER)
        self.assertIsNone(self.holds(road, CODER, READER, ()))
        self.raises(NoHistory, road.undo)
        self.assertEqual(road.book(), ())

    def test_mismatch(self):
        for coder, reader in (
            (CODER, CODER), (READER, READER), (CODER, (3, 1, (), ((None,) * 3,), (None,))),
            (CODER, (2, 2, (), ((None,) * 2,), (None,))), (CODER, (1, 2, (), ((None,),), (None,))),
        ):
            self.raises(Mismatch, Road, coder, reader)

    def test_adding_and_dropping(self):
        road = Road(CODER, READER)
        self.assertIsNone(road.add_relay(SHORTER))
        self.holds(road, CODER, READER, (SHORTER,))
        self.assertIsNone(road.add_relay(()))
        self.assertIsNone(road.add_relay(LOST))
        self.holds(road, CODER, READER, (SHORTER, (), LOST))
        self.assertEqual(road.blame(), ((2,),))
        self.assertIsNone(road.drop_relay(1))
        self.holds(road, CODER, READER, (SHORTER, LOST))
        self.assertIsNone(road.drop_relay(1))
        self.holds(road, CODER, READER, (SHORTER,))
        self.assertIsNone(road.drop_relay(0))
        self.holds(road, CODER, READER, ())

    def test_undo(self):
        road = road_of(CODER, READER, (SHORTER, LOST))
        road.drop_relay(0)
        for book in ((SHORTER, LOST), (SHORTER,), ()):
            self.assertIsNone(road.undo())
            self.assertEqual(road.book(), book)
        self.raises(NoHistory, road.undo)
        # What is taken back is no change that could be taken back.
        road.add_relay(SHORTER)
        road.add_relay(LOST)
        road.undo()
        road.add_relay(())
        road.undo()
        self.assertEqual(road.book(), (SHORTER,))
        road.undo()
        self.assertEqual(road.book(), ())
        self.raises(NoHistory, road.undo)

    def test_eight_relays_and_a_ninth(self):
        road = road_of(CODER, READER, (SHORTER,) * 8)
        for relay in (SHORTER, (), None):
            self.raises(InvalidBook, road.add_relay, relay)
            self.assertEqual(road.book(), (SHORTER,) * 8)
        road.drop_relay(7)
        road.add_relay(())
        self.assertEqual(road.book(), (SHORTER,) * 7 + ((),))
        for _ in range(10):
            road.undo()
        self.assertEqual(road.book(), ())
        self.raises(NoHistory, road.undo)

    def test_indexes(self):
        for many in range(9):
            road = road_of(CODER, READER, (SHORTER,) * many)
            for index in (-1, -2, -8, -many - 1, many, many + 1, 8, 10 ** 30, -10 ** 30):
                if not 0 <= index < many:
                    self.raises(Mismatch, road.drop_relay, index)
                    self.assertEqual(road.book(), (SHORTER,) * many)
        road = road_of(CODER, READER, ((), SHORTER, LOST))
        for index, book in ((0, (SHORTER, LOST)), (1, ((), LOST)), (2, ((), SHORTER))):
            road.drop_relay(index)
            self.assertEqual(road.book(), book)
            road.undo()

    def test_any_value_as_a_relay(self):
        road = road_of(CODER, READER, (SHORTER,))
        right = (((0, 1, 1, 0), (1,)), ((1,), ()))
        wrong = 0
        for value in tuple(ODD_VALUES) + tuple(spoilt(right)) + (right, [right], [((0,), ())], (((0,), ()),) * 9):
            if slow.is_book(2, (value,)):
                self.assertIsNone(road.add_relay(value))
                self.assertEqual(road.book(), (SHORTER, value))
                road.undo()
            else:
                wrong += 1
                self.raises(InvalidBook, road.add_relay, value)
            self.assertEqual(road.book(), (SHORTER,))
        self.assertGreater(wrong, 100)
        road.undo()
        self.raises(NoHistory, road.undo)

    def test_relays_are_over_the_signs_of_the_letters(self):
        road = Road((1, 3, (), ((((2,), 0),),), ((),)), (3, 1, (), ((((0,), 0),) * 3,), ((),)))
        road.add_relay((((2,), (0,)),))
        self.raises(InvalidBook, road.add_relay, (((3,), (0,)),))
        self.raises(InvalidBook, Road(CODER, READER).add_relay, (((2,), (0,)),))

    def test_roads_do_not_share_anything(self):
        one, other = Road(CODER, READER), Road(CODER, READER)
        one.add_relay(SHORTER)
        self.assertEqual(other.book(), ())
        self.raises(NoHistory, other.undo)
        other.add_relay(LOST)
        one.undo()
        self.assertEqual((one.book(), other.book()), ((), (LOST,)))

    def test_rows_of_changes(self):
        rng = random.Random(4701)
        values = (SHORTER, LOST, (), None, (((2,), ()),), (((1,), (0,)),), [((0,), ())], True, (((0,), (0,)),))
        for _ in range(150):
            road = Road(CODER, READER)
            books = [()]
            for _ in range(rng.randint(1, 25)):
                chance = rng.random()
                if chance < 0.5:
                    relay = rng.choice(values)
                    if slow.is_book(2, books[-1] + (relay,)):
                        road.add_relay(relay)
                        books.append(books[-1] + (relay,))
                    else:
                        self.raises(InvalidBook, road.add_relay, relay)
                elif chance < 0.8:
                    index = rng.randint(-2, 4)
                    if 0 <= index < len(books[-1]):
                        road.drop_relay(index)
                        books.append(books[-1][:index] + books[-1][index + 1:])
                    else:
                        self.raises(Mismatch, road.drop_relay, index)
                elif len(books) > 1:
                    road.undo()
                    books.pop()
                else:
                    self.raises(NoHistory, road.undo)
                self.assertEqual(road.book(), books[-1])
            while len(books) > 1:
                if rng.random() < 0.3:
                    self.holds(road, CODER, READER, books[-1])
                books.pop()
                road.undo()
                self.assertEqual(road.book(), books[-1])
            self.raises(NoHistory, road.undo)


class Answers(Roads):
    def test_ordinary_roads(self):
        road = road_of(CODER, READER, (SHORTER,))
        self.assertIsNone(self.holds(road, CODER, READER, (SHORTER,)))
        self.assertEqual(self.traces(road, CODER, (SHORTER,), (0, 1)), ((0,), ((0, 0, 1), (0, 1))))
        self.assertEqual(self.traces(road, CODER, (SHORTER,), ()), ((), ((),)))
        self.assertIsNone(self.traces(road, CODER, (SHORTER,), (1,)))
        road = road_of(CODER, READER, (LOST,))
        content, letters, reading = self.holds(road, CODER, READER, (LOST,))
        self.assertNotEqual(len(content), reading and len(reading))
        self.assertEqual(self.traces(road, CODER, (LOST,), (0,)), ((0,), ((0, 0, 1), (0,))))

    def test_a_reader_that_refuses(self):
        reader = (2, 1, (), ((((), 0), ((0,), 1)), (None, None)), ((), ()))
        content, letters, reading = self.holds(road_of(CODER, reader, ()), CODER, reader, ())
        self.assertIsNone(reading)
        self.assertEqual(len(letters), 1)

    def test_coders_that_send_nothing(self):
        reader = (2, 1, (), ((None, None),), (None,))
        road = road_of(NOTHING, reader, (SHORTER, LOST))
        self.assertIsNone(self.holds(road, NOTHING, reader, (SHORTER, LOST)))
        self.assertIsNone(self.traces(road, NOTHING, (SHORTER, LOST), (0,)))

    def test_blame(self):
        # 0 becomes 2 by the first relay, and 2 becomes 1 by the second.
        coder = (1, 3, (), ((((0, 1), 0),),), ((),))
        reader = (3, 1, (), ((((), 0), ((0,), 0), ((), 0)),), ((),))
        book = ((((0,), (2,)),), (((2,), (1,)),))
        road = road_of(coder, reader, book)
        self.holds(road, coder, reader, book)
        self.assertEqual(road.blame(), ((0, 1),))
        wrong = (3, 1, (), ((((), 0), ((), 0), ((), 0)),), ((),))
        self.assertEqual(road_of(coder, wrong, book).blame(), ((),))

    def test_too_long(self):
        reader = (2, 1, (), ((None, None),), (None,))
        for many, error in ((60, None), (61, TooLong), (70, TooLong)):
            coder = zeros(many)
            road = road_of(coder, reader, (SHORTER,))
            if error is None:
                self.assertLessEqual(cost(coder, (SHORTER,)), 60)
                self.holds(road, coder, reader, (SHORTER,))
                self.traces(road, coder, (SHORTER,), (0,) * 5)
            else:
                self.raises(TooLong, road.verdict)
                self.raises(TooLong, road.trace, (0,) * 5)
            self.assertEqual(road.blame(), ((),))
            # None is due here, whatever the cost is.
            self.assertIsNone(self.traces(road, coder, (SHORTER,), (1,)))
        reads_all = (30, 1, (), ((((0,), 0),) * 30,), ((),))
        road = Road(ZEROS, reads_all)
        for relay in powers(29):
            road.add_relay(relay)
        self.raises(TooLong, road.verdict)
        self.raises(TooLong, road.trace, (29,))
        self.assertEqual(road.book(), powers(29))
        quiet = (30, 1, (), ((None,) * 30,), (None,))
        silent = (1, 30, (), ((((0,), 0),),), (None,))
        self.assertIsNone(road_of(silent, quiet, powers(29)).verdict())

    def test_ready_roads(self):
        rng = random.Random(4702)
        for name in coder_names():
            coder, reader = ready_coder(name), ready_reader(name)
            for _ in range(6):
                book = tuple(ready_relay(rng.choice(relay_names())) for _ in range(rng.randint(0, 8)))
                road = road_of(coder, reader, book)
                self.holds(road, coder, reader, book)
                content = tuple(rng.randrange(14) for _ in range(4))
                letter = slow.translate(coder, content)
                for _ in range(6):
                    self.assertIsNotNone(self.traces(road, coder, book, letter))
                    steps = slow.steps(book, letter)
                    letter = slow.behind(book, letter, rng.choice(steps)) if steps else letter
                self.assertIsNone(self.traces(road, coder, book, letter[1:]))

    def test_many_roads(self):
        rng = random.Random(4703)
        spoilt_roads = 0
        for _ in range(250):
            coder, book, reader = making.codec(rng, 0.4)
            road = road_of(coder, reader, book)
            spoilt_roads += self.holds(road, coder, reader, book) is not None
            try:
                letters = words_of(arriving(coder, book), 4)
            except TooLong:
                continue
            for letter in rng.sample(letters, min(len(letters), 4)) + [making.word(rng, 3, 0, 4)]:
                self.assertEqual(self.traces(road, coder, book, letter) is not None, letter in letters)
        self.assertGreater(spoilt_roads, 40)

    def test_random_roads(self):
        rng = random.Random(4704)
        for _ in range(250):
            signs = rng.randint(1, 3)
            ins = rng.randint(1, 2)
            coder = making.translator(rng, ins, signs, rng.randint(1, 3), 2, 0.2)
            reader = making.translator(rng, signs, ins, rng.randint(1, 3), 2, 0.2)
            book = making.book(rng, signs, 2, 2, 3)
            road = road_of(coder, reader, book)
            self.holds(road, coder, reader, book)
            self.traces(road, coder, book, making.word(rng, signs, 0, 5))


class Errors(Case):
    def test_checks_raise_only_their_errors(self):
        road = Road(CODER, READER)
        for value in ODD_VALUES:
            self.assertIn(error_of(road.add_relay, value), (None, InvalidBook))
            for relay in road.book():
                self.assertIsNone(check_book(2, (relay,)))
        with self.assertRaises(AnychainError):
            while True:
                road.undo()


if __name__ == "__main__":
    unittest.main()
