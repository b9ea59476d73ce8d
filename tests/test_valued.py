"""Point 14: nets that write, and whether their words have one value."""

import random
import unittest

from anychain.errors import InvalidNet
from anychain.valued import check_writing_net, two_values, value_of
from tests import making, slow
from tests.helpers import ODD_VALUES, ask, error_of, only_plain, spoilt

NET = (2, 3, ((0, ()), (2, (5, 5))), ((0, 0, (7,), 0), (0, 1, (), 1), (1, -1, (8, 9), 2)))


def decoder(codes):
    """A net that reads code words one after the other and writes their numbers."""
    moves, states = [], 1
    for number, code in enumerate(codes):
        here = 0
        for sign in code[:-1]:
            moves.append((here, sign, (), states))
            here, states = states, states + 1
        moves.append((here, code[-1], (number,), 0))
    return (2, states, ((0, ()),), tuple(sorted(moves)))


def decodes_uniquely(codes):
    """Sardinas and Patterson's reckoning with dangling ends."""
    def dangling(first, second):
        return {b[len(a):] for a in first for b in second if b[:len(a)] == a}

    codes = set(codes)
    ends = {end for end in dangling(codes, codes) if end}
    seen = set()
    while ends - seen:
        seen |= ends
        ends = dangling(codes, ends) | dangling(ends, codes)
    return () not in seen | ends


class CheckWritingNet(unittest.TestCase):
    def agrees(self, net):
        expected = None if slow.is_writing_net(net) else InvalidNet
        self.assertIs(error_of(check_writing_net, net), expected, net)

    def valid(self, net):
        self.assertIs(error_of(check_writing_net, net), None)

    def invalid(self, net):
        self.assertIs(error_of(check_writing_net, net), InvalidNet)

    def test_ordinary_nets(self):
        self.valid(NET)
        self.valid((1, 1, (), ()))
        self.valid((1, 1, ((0, ()), (0, (0,)), (0, (10 ** 30,))), ((0, -1, (), 0), (0, -1, (1,), 0))))

    def test_a_net_is_no_writing_net(self):
        self.invalid((2, 3, (2,), ()))
        self.invalid((2, 3, (), ((0, 0, 0),)))

    def test_numbers(self):
        for signs in range(-2, 33):
            (self.valid if 1 <= signs <= 30 else self.invalid)((signs, 1, ((0, ()),), ()))
        for states, right in ((0, False), (1, True), (100000, True), (100001, False), (-1, False)):
            (self.valid if right else self.invalid)((1, states, (), ()))
        self.valid((30, 100000, ((99999, ()),), ((99999, 29, (), 99999),)))
        self.invalid((30, 100000, ((100000, ()),), ()))
        self.invalid((30, 3, (), ((0, 30, (), 0),)))
        self.invalid((30, 3, (), ((0, -2, (), 0),)))
        self.invalid((30, 3, (), ((3, 0, (), 0),)))
        self.invalid((30, 3, (), ((0, 0, (), 3),)))
        self.invalid((30, 3, ((-1, ()),), ()))

    def test_written_words(self):
        for sign, right in ((0, True), (31, True), (10 ** 30, True), (-1, False), (True, False), (None, False)):
            (self.valid if right else self.invalid)((1, 1, ((0, (3, sign)),), ()))
            (self.valid if right else self.invalid)((1, 1, (), ((0, 0, (3, sign), 0),)))
        self.valid((1, 1, ((0, (1,) * 1000),), ((0, 0, (1,) * 1000, 0),)))
        self.invalid((1, 1, ((0, [1]),), ()))
        self.invalid((1, 1, ((0, None),), ()))
        self.invalid((1, 1, (), ((0, 0, "1", 0),)))

    def test_written_words_are_compared_as_python_does(self):
        # Not by length first: 1 1 is less than 2, and 0 0 is less than 1.
        self.valid((1, 1, ((0, (1, 1)), (0, (2,))), ()))
        self.invalid((1, 1, ((0, (2,)), (0, (1, 1))), ()))
        self.valid((1, 2, (), ((0, 0, (0, 0), 1), (0, 0, (1,), 0))))
        self.invalid((1, 2, (), ((0, 0, (1,), 0), (0, 0, (0, 0), 1))))

    def test_order(self):
        self.invalid((1, 2, ((1, ()), (0, ())), ()))
        self.invalid((1, 2, ((1, ()), (1, ())), ()))
        self.valid((1, 2, (), ((0, -1, (), 0), (0, 0, (), 0), (0, 0, (), 1))))
        self.invalid((1, 2, (), ((0, 0, (), 1), (0, 0, (), 0))))
        self.invalid((1, 2, (), ((0, 0, (), 1), (0, 0, (), 1))))
        self.invalid((1, 2, (), ((0, 0, (), 1), (0, -1, (), 1))))

    def test_true_is_no_integer(self):
        self.invalid((True, 2, (), ()))
        self.invalid((1, True, (), ()))
        self.invalid((1, 2, ((True, ()),), ()))
        self.invalid((2, 2, (), ((True, 1, (), 1),)))
        self.invalid((2, 2, (), ((1, True, (), 1),)))
        self.invalid((2, 2, (), ((1, 1, (), True),)))

    def test_any_value_in_any_place(self):
        for odd in ODD_VALUES:
            self.agrees((odd,) * 4)
            for other in ODD_VALUES:
                self.agrees((2, 3, odd, other))
                self.agrees((2, 3, (odd, other), ()))
                self.agrees((2, 3, (), (odd, other)))
                self.agrees((2, 3, ((odd, other),), ()))
        for net in (NET, (2, 2, ((0, ()), (0, (1,))), ((0, 1, (0,), 1), (0, 1, (1,), 0)))):
            for value in spoilt(net):
                self.agrees(value)

    def test_many_nets(self):
        rng = random.Random(141)
        for _ in range(300):
            self.valid(making.writing_net(rng, 2, 3, 4, 7, 3))


class ValueOf(unittest.TestCase):
    def test_ordinary_words(self):
        self.assertEqual(ask(value_of, NET, ()), ())
        self.assertEqual(ask(value_of, NET, (0, 0)), (7, 7))
        self.assertEqual(ask(value_of, NET, (0, 1)), (7, 8, 9, 5, 5))
        self.assertIs(ask(value_of, NET, (1, 0)), None)
        self.assertIs(ask(value_of, (2, 1, (), ((0, 0, (), 0),)), (0,)), None)

    def test_the_empty_word(self):
        self.assertEqual(ask(value_of, (1, 1, ((0, (4,)),), ()), ()), (4,))
        self.assertEqual(ask(value_of, (1, 3, ((2, (4,)),), ((0, -1, (1,), 1), (1, -1, (2,), 2))), ()), (1, 2, 4))
        self.assertIs(ask(value_of, (1, 2, ((1, ()),), ((0, 0, (1,), 1),)), ()), None)

    def test_one_of_several_values(self):
        net = (1, 1, ((0, ()), (0, (2,))), ((0, 0, (0,), 0), (0, 0, (1,), 0)))
        told = ask(value_of, net, (0, 0))
        self.assertTrue(slow.has_value(net, (0, 0), told))

    def test_rings_of_empty_moves(self):
        net = (1, 2, ((1, ()),), ((0, -1, (3,), 0), (0, 0, (), 1), (1, -1, (), 0), (1, -1, (4,), 1)))
        for word in ((0,), (0, 0), (0, 0, 0)):
            self.assertTrue(slow.has_value(net, word, ask(value_of, net, word)))
        self.assertIs(ask(value_of, net, ()), None)

    def test_many_words(self):
        rng = random.Random(142)
        for _ in range(250):
            net = making.writing_net(rng, 2, 2, rng.randint(1, 4), rng.randint(0, 7), 2)
            plain = (2, net[1], tuple(sorted({state for state, _ in net[2]})),
                     tuple(sorted({(state, sign, target) for state, sign, _, target in net[3]})))
            for word in slow.all_words(2, 4):
                told = ask(value_of, net, word)
                self.assertIs(told is not None, slow.reads(plain, word))
                if told is not None:
                    self.assertTrue(only_plain(told))
                    self.assertTrue(slow.has_value(net, word, told))

    def test_a_great_net(self):
        many = 100000
        net = (1, many, ((many - 1, (9,)),), tuple((k, 0, (k,), k + 1) for k in range(many - 1)))
        self.assertEqual(value_of(net, (0,) * (many - 1)), tuple(range(many - 1)) + (9,))
        self.assertIs(value_of(net, (0,) * (many - 2)), None)


class TwoValues(unittest.TestCase):
    def single(self, net):
        self.assertIs(error_of(check_writing_net, net), None)
        self.assertIs(ask(two_values, net), None)

    def several(self, net):
        self.assertIs(error_of(check_writing_net, net), None)
        told = ask(two_values, net)
        self.assertTrue(self.shows(net, told), told)
        return told

    def shows(self, net, told):
        """Tell whether an answer shows two different values of a word."""
        word, first, second = told
        if not only_plain(told) or first == second:
            return False
        return slow.has_value(net, word, first) and slow.has_value(net, word, second)

    def test_ordinary_nets(self):
        self.single(NET)
        self.single((1, 1, (), ()))
        self.single((1, 1, ((0, (1,)),), ((0, 0, (0,), 0),)))
        self.several((1, 1, ((0, ()),), ((0, 0, (0,), 0), (0, 0, (1,), 0))))

    def test_two_ends_of_one_state(self):
        self.assertEqual(sorted(self.several((1, 1, ((0, ()), (0, (1,))), ()))[1:]), [(), (1,)])
        self.several((1, 2, ((1, (1, 1)), (1, (1, 2)), (1, (2,))), ((0, 0, (), 1),)))
        self.single((1, 2, ((0, ()), (1, (1,))), ((0, 0, (), 1),)))

    def test_values_that_differ_early_or_late_or_in_length(self):
        def two_ways(first, second, last=()):
            moves = [(0, 0, first[0], 1), (1, 0, first[1], 1), (0, 0, second[0], 2), (2, 0, second[1], 2)]
            return (1, 3, ((1, last), (2, ())), tuple(sorted(set(moves))))

        self.several(two_ways(((1,), (1,)), ((2,), (1,))))
        self.several(two_ways(((1,), (1,)), ((1,), (2,))))
        self.several(two_ways(((1,), (1,)), ((1,), (1, 1))))
        self.several(two_ways(((1,), (1,)), ((1,), (1,)), (1,)))
        self.several(two_ways(((1,), (1,)), ((1,), ())))
        self.single(two_ways(((1,), (1,)), ((1,), (1,))))
        self.single(two_ways(((), (1,)), ((1,), (1,)), (1,)))
        self.single(two_ways(((1,), (2, 1)), ((1, 2), (1, 2)), (2,)))
        self.several(two_ways(((1,), (2, 1)), ((1, 2), (1, 2)), (1,)))

    def test_different_paths_with_one_value(self):
        moves = ((0, 0, (), 2), (0, 0, (1, 2), 1), (1, 1, (3,), 3), (2, 1, (1, 2, 3), 3), (3, 0, (4,), 0))
        self.single((2, 4, ((0, ()), (3, ())), moves))
        self.single((2, 4, ((0, ()), (1, ()), (2, (1, 2)), (3, ())), moves))
        self.several((2, 4, ((0, ()), (1, ()), (2, (2, 1)), (3, ())), moves))

    def test_empty_moves_that_write(self):
        self.single((1, 3, ((2, ()),), ((0, -1, (1,), 1), (0, 0, (1, 1), 2), (1, 0, (1,), 2))))
        self.several((1, 3, ((2, ()),), ((0, -1, (1,), 1), (0, 0, (1, 1), 2), (1, 0, (2,), 2))))
        self.several((1, 2, ((0, ()), (1, ())), ((0, -1, (1,), 1),)))
        self.single((1, 2, ((0, (1,)), (1, ())), ((0, -1, (1,), 1),)))

    def test_rings_of_empty_moves(self):
        self.single((1, 2, ((1, ()),), ((0, -1, (), 1), (1, -1, (), 0), (1, 0, (2,), 1))))
        self.several((1, 2, ((1, ()),), ((0, -1, (), 1), (1, -1, (3,), 0), (1, 0, (2,), 1))))
        self.several((1, 2, ((1, ()),), ((0, 0, (), 1), (1, -1, (3,), 1))))
        # The ring cannot be come to, or nothing comes behind it.
        self.single((1, 3, ((1, ()),), ((0, 0, (), 1), (2, -1, (3,), 2), (2, 0, (), 1))))
        self.single((1, 3, ((1, ()),), ((0, 0, (), 1), (1, 0, (), 2), (2, -1, (3,), 2))))

    def test_states_without_a_way_to_an_end(self):
        self.single((1, 3, ((1, ()),), ((0, 0, (5,), 1), (0, 0, (6,), 2), (2, 0, (7,), 2))))
        self.single((2, 4, ((3, ()),), ((0, 0, (5,), 1), (0, 0, (6,), 2), (1, 0, (), 3), (2, 1, (), 3))))
        self.single((1, 2, ((1, ()), (1, (2,))), ((1, 0, (1,), 1),)))

    def test_pairs_of_states_without_a_common_way_on(self):
        # Both states have ways to the end, but with different signs: no word has both.
        net = (3, 4, ((3, ()),), ((0, 0, (5,), 1), (0, 0, (6,), 2), (1, 1, (), 3), (2, 2, (), 3)))
        self.single(net)
        self.several(net[:3] + (tuple(sorted(net[3] + ((1, 2, (), 3),))),))

    def test_leads_that_grow_and_are_made_up_for(self):
        # One path writes all at once, the other one sign by sign.
        size = 40
        moves = [(0, 0, tuple(range(size)), 1), (0, 0, (0,), size)]
        moves += [(k, 0, (), k + 1) for k in range(1, size - 1)]
        moves += [(size + k, 0, (k + 1,), size + k + 1) for k in range(size - 2)]
        ends = ((size - 1, ()), (2 * size - 2, (size - 1,)))
        net = (1, 2 * size, ends, tuple(sorted(moves)))
        self.single(net)
        self.several(net[:2] + (((size - 1, ()), (2 * size - 2, (size,))),) + net[3:])
        self.several(net[:2] + (((size - 1, ()), (2 * size - 2, ())),) + net[3:])

    def test_leads_in_a_ring(self):
        # Both write the same at last, but a ring writes different numbers of signs on the way.
        self.several((2, 3, ((1, ()), (2, ())), (
            (0, 0, (), 1), (0, 0, (), 2), (1, 0, (1,), 1), (1, 1, (1, 1), 1), (2, 0, (1, 1), 2), (2, 1, (1,), 2))))
        self.single((2, 3, ((1, (1,)), (2, ())), (
            (0, 0, (), 1), (0, 0, (1,), 2), (1, 0, (1, 2), 1), (1, 1, (1,), 1), (2, 0, (2, 1), 2), (2, 1, (1,), 2))))

    def test_code_words(self):
        for codes in (
            ((0,), (1,)), ((0,), (0, 1)), ((0,), (0, 1), (1, 0)), ((0, 0), (0, 0, 0)), ((0, 0), (0, 0, 1), (1, 0, 0)),
            ((1, 0), (0, 1, 0), (0, 1, 1)), ((0,), (0, 1), (1, 1)), ((0,), (0, 1), (1, 1), (1, 1, 0)),
            ((0, 1), (0, 1, 0, 1, 0), (1, 0, 1, 0, 0)), ((0,) + (1,) * 9, (1,), (1, 0)), ((0, 1) * 3, (0, 1) * 5),
            ((0,), (0,) + (1,) * 8, (1,) * 5), ((0,), (0, 1, 1, 1), (1, 1)),
        ):
            net = decoder(codes)
            (self.single if decodes_uniquely(codes) else self.several)(net)

    def test_many_codes(self):
        rng = random.Random(143)
        unique = 0
        for _ in range(400):
            codes = sorted({making.word(rng, 2, 1, 6) for _ in range(rng.randint(2, 4))})
            unique += decodes_uniquely(codes)
            (self.single if decodes_uniquely(codes) else self.several)(decoder(codes))
        self.assertTrue(50 < unique < 350)

    def agrees(self, net):
        """Compare an answer with all paths of few moves."""
        told = ask(two_values, net)
        if told is None:
            self.assertTrue(all(len(values) == 1 for values in slow.values(net, 6).values()), net)
        else:
            self.assertTrue(self.shows(net, told), net)
        return told is None

    def test_many_nets(self):
        rng = random.Random(144)
        told = [self.agrees(making.writing_net(rng, 2, 2, rng.randint(1, 5), rng.randint(0, 8), 2)) for _ in range(600)]
        self.assertTrue(100 < sum(told) < 500)

    def test_many_nets_that_write_one_sign(self):
        # With one sign to write, values differ in length alone.
        rng = random.Random(145)
        told = [self.agrees(making.writing_net(rng, 2, 1, rng.randint(2, 5), rng.randint(3, 8), 1)) for _ in range(600)]
        self.assertTrue(100 < sum(told) < 550)

    def test_nets_of_two_copies(self):
        # Each move has a word with a 3 behind it. A path goes from copy to copy at will; to
        # the second one it leaves out the 3, and writes it on the way from there instead.
        rng = random.Random(146)
        for _ in range(60):
            size = rng.randint(1, 4)
            moves = set()
            for state in range(size):
                for sign in (0, 1):
                    target, written = rng.randrange(size), making.word(rng, 2, 0, 2)
                    moves.add((state, sign, written + (3,), target))
                    moves.add((state, sign, written, target + size))
                    moves.add((state + size, sign, (3,) + written + (3,), target))
                    moves.add((state + size, sign, (3,) + written, target + size))
            moves = tuple(sorted(moves))
            ends = [(state, ()) for state in range(size)] + [(state + size, (3,)) for state in range(size)]
            net = (2, 2 * size, tuple(ends), moves)
            self.single(net)
            self.agrees(net)
            target = moves[0][3] % size
            ends[target + size] = (target + size, (3, 3))
            self.several((2, 2 * size, tuple(ends), moves))

    def test_twenty_states(self):
        rng = random.Random(147)
        for _ in range(40):
            net = making.writing_net(rng, 2, 2, 20, 36, 3)
            told = ask(two_values, net)
            if told is not None:
                self.assertTrue(self.shows(net, told))
        # Two rings of 9 and 10 states: the fault is where both come together.
        moves = [(0, 0, (1,), 1), (0, 0, (1,), 10)]
        moves += [(1 + k, 0, (1,), 1 + (k + 1) % 9) for k in range(9)]
        moves += [(10 + k, 0, (1,), 10 + (k + 1) % 10) for k in range(10)]
        self.single((1, 20, ((8, ()), (19, ())), tuple(sorted(moves))))
        word, _, _ = self.several((1, 20, ((8, ()), (19, (1,))), tuple(sorted(moves))))
        self.assertEqual(len(word), 80)

    def test_a_great_net(self):
        many = 100000
        moves = tuple((k, 0, (k,), k + 1) for k in range(many - 1))
        self.assertIs(two_values((1, many, ((many - 1, ()),), moves)), None)
        word, first, second = two_values((1, many, ((many - 1, ()), (many - 1, (5,))), moves))
        self.assertEqual((word, len(first) - len(second)), ((0,) * (many - 1), -1))


if __name__ == "__main__":
    unittest.main()
