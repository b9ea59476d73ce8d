"""Points 8 and 9: machines in least form, and the least machine of a net."""

import random
import unittest

from anychain.errors import InvalidMachine
from anychain.machines import check_machine, least_machine, takes
from tests import making, slow
from tests.helpers import ODD_VALUES, ask, error_of, only_plain, spoilt

NET = (2, 3, (2,), ((0, 0, 0), (0, 0, 1), (1, -1, 2)))
MACHINE = (2, (1,), ((1, -1), (1, -1)))
# Words over 0 and 1 with an even number of ones, then a 2.
EVEN = (3, (2,), ((0, 1, 2), (1, 0, -1), (-1, -1, -1)))


def random_table(rng, signs, states):
    """A value in the shape of a machine, mostly not in least form."""
    rows = tuple(tuple(rng.randrange(-1, states) for _ in range(signs)) for _ in range(states))
    return (signs, tuple(sorted({rng.randrange(states) for _ in range(rng.randint(0, 2))})), rows)


def net_of_table(table):
    signs, ends, rows = table
    moves = [(state, sign, target) for state, row in enumerate(rows) for sign, target in enumerate(row) if target >= 0]
    return (signs, max(1, len(rows)), ends, tuple(sorted(moves)))


class CheckMachine(unittest.TestCase):
    def agrees(self, machine):
        expected = None if slow.is_machine(machine) else InvalidMachine
        self.assertIs(error_of(check_machine, machine), expected, machine)

    def valid(self, machine):
        self.assertIs(error_of(check_machine, machine), None)

    def invalid(self, machine):
        self.assertIs(error_of(check_machine, machine), InvalidMachine)

    def test_ordinary_machines(self):
        self.valid(MACHINE)
        self.valid(EVEN)
        self.valid((1, (0,), ((-1,),)))
        self.valid((1, (0,), ((0,),)))

    def test_the_machine_that_takes_nothing(self):
        for signs in range(-1, 33):
            (self.valid if 1 <= signs <= 30 else self.invalid)((signs, (), ()))
        self.invalid((2, (0,), ()))
        self.invalid((2, (), ((-1, -1),)))
        self.invalid((2, (), ((0, 0),)))

    def test_numbers_of_signs(self):
        self.valid((1, (0,), ((-1,),)))
        self.valid((30, (0,), ((0,) * 30,)))
        self.invalid((31, (0,), ((0,) * 31,)))
        self.invalid((0, (0,), ((),)))
        self.invalid((30, (0,), ((0,) * 29,)))
        self.invalid((30, (0,), ((0,) * 31,)))

    def test_rows_and_ends(self):
        self.invalid((2, (1,), ((1, 2), (1, -1))))
        self.invalid((2, (1,), ((1, -2), (1, -1))))
        self.invalid((2, (2,), ((1, -1), (1, -1))))
        self.invalid((2, (-1,), ((1, -1), (1, -1))))
        self.invalid((2, (1, 1), ((1, -1), (1, -1))))
        self.valid((2, (0, 1), ((1, -1), (0, 1))))
        self.invalid((1, (1, 0), ((1,), (-1,))))
        self.valid((1, (0, 1), ((1,), (-1,))))

    def test_not_in_least_form(self):
        # A state that is not reached; one without a way to an end; two equal states.
        self.invalid((1, (0, 1), ((0,), (-1,))))
        self.invalid((1, (0,), ((1,), (-1,))))
        self.invalid((2, (0,), ((0, 1), (-1, 1))))
        self.invalid((1, (0, 1), ((1,), (0,))))
        self.invalid((2, (1, 2), ((1, 2), (-1, -1), (-1, -1))))
        self.invalid((1, (1, 2), ((1,), (2,), (1,))))

    def test_states_in_the_order_of_the_least_words(self):
        self.valid((2, (2,), ((1, 2), (-1, 2), (-1, -1))))
        self.valid((2, (1, 2), ((1, 2), (2, -1), (-1, -1))))
        self.invalid((2, (1, 2), ((2, 1), (-1, -1), (1, -1))))
        # The state behind 1 is before the state behind 0 0, although it is found later in depth.
        self.valid((2, (3,), ((1, 2), (3, -1), (-1, 3), (-1, -1))))
        self.invalid((2, (2,), ((1, 3), (2, -1), (-1, -1), (-1, 2))))

    def test_true_is_no_integer(self):
        self.invalid((True, (0,), ((-1,),)))
        self.invalid((1, (False,), ((-1,),)))
        self.invalid((1, (0,), ((False,),)))
        self.invalid((2, (True,), ((1, -1), (1, -1))))
        self.invalid((2, (1,), ((True, -1), (1, -1))))

    def test_any_value_in_any_place(self):
        for odd in ODD_VALUES:
            self.agrees((odd, odd, odd))
            for other in ODD_VALUES:
                self.agrees((1, odd, other))
                self.agrees((1, (0,), (odd, other)))
        for machine in (MACHINE, EVEN, (1, (0,), ((0,),)), (2, (), ())):
            for value in spoilt(machine):
                self.agrees(value)

    def test_all_small_tables(self):
        for signs, states in ((1, 1), (1, 2), (1, 3), (2, 1), (2, 2)):
            for code in range((states + 1) ** (signs * states)):
                digits = [code // (states + 1) ** k % (states + 1) - 1 for k in range(signs * states)]
                rows = tuple(tuple(digits[k * signs:(k + 1) * signs]) for k in range(states))
                for mask in range(2 ** states):
                    self.agrees((signs, tuple(k for k in range(states) if mask >> k & 1), rows))

    def test_many_tables(self):
        rng = random.Random(81)
        for _ in range(1500):
            self.agrees(random_table(rng, rng.randint(1, 3), rng.randint(1, 5)))

    def test_renumbered_machines(self):
        rng = random.Random(82)
        for _ in range(200):
            signs, ends, rows = machine = least_machine(making.net(rng, 2, 5, 10))
            self.valid(machine)
            numbers = list(range(len(rows)))
            rng.shuffle(numbers)
            table = [()] * len(rows)
            for state, row in enumerate(rows):
                table[numbers[state]] = tuple(numbers[t] if t >= 0 else -1 for t in row)
            self.agrees((signs, tuple(sorted(numbers[end] for end in ends)), tuple(table)))


class Takes(unittest.TestCase):
    def test_ordinary_words(self):
        self.assertIs(ask(takes, MACHINE, ()), False)
        self.assertIs(ask(takes, MACHINE, (0,)), True)
        self.assertIs(ask(takes, MACHINE, (0, 0)), True)
        self.assertIs(ask(takes, MACHINE, (0, 1)), False)
        self.assertIs(ask(takes, MACHINE, (1, 0)), False)
        self.assertIs(ask(takes, EVEN, (1, 0, 1, 2)), True)
        self.assertIs(ask(takes, EVEN, (1, 0, 2)), False)
        self.assertIs(ask(takes, EVEN, (2, 2)), False)

    def test_the_machine_that_takes_nothing(self):
        for word in slow.all_words(2, 3):
            self.assertIs(ask(takes, (2, (), ()), word), False)

    def test_many_words(self):
        rng = random.Random(83)
        for _ in range(100):
            machine = least_machine(making.net(rng, 2, 4, 8))
            for word in slow.all_words(2, 4):
                self.assertIs(ask(takes, machine, word), slow.takes(machine, word))


class LeastMachine(unittest.TestCase):
    def holds(self, net):
        machine = ask(least_machine, net)
        self.assertTrue(only_plain(machine))
        self.assertTrue(slow.is_machine(machine), (net, machine))
        self.assertTrue(slow.same_words(machine, net), (net, machine))
        self.assertIs(error_of(check_machine, machine), None)
        return machine

    def test_the_example(self):
        self.assertEqual(self.holds(NET), MACHINE)

    def test_nets_that_read_nothing(self):
        for signs in (1, 2, 30):
            self.assertEqual(self.holds((signs, 1, (), ())), (signs, (), ()))
            self.assertEqual(self.holds((signs, 2, (1,), ((0, 0, 0), (1, 0, 1)))), (signs, (), ()))
            self.assertEqual(self.holds((signs, 2, (1,), ((1, -1, 0),))), (signs, (), ()))

    def test_nets_that_read_only_the_empty_word(self):
        for signs in (1, 2, 30):
            expected = (signs, (0,), ((-1,) * signs,))
            self.assertEqual(self.holds((signs, 1, (0,), ())), expected)
            self.assertEqual(self.holds((signs, 3, (2,), ((0, -1, 1), (1, -1, 2), (2, -1, 0)))), expected)
            self.assertEqual(self.holds((signs, 2, (0,), ((0, 0, 1), (1, 0, 1)))), expected)

    def test_nets_that_read_everything(self):
        for signs in (1, 2, 30):
            expected = (signs, (0,), ((0,) * signs,))
            self.assertEqual(self.holds((signs, 1, (0,), tuple((0, k, 0) for k in range(signs)))), expected)
            moves = tuple(sorted([(0, -1, 1)] + [(1, k, 0) for k in range(signs)] + [(0, k, 0) for k in range(signs)]))
            self.assertEqual(self.holds((signs, 2, (0, 1), moves)), expected)

    def test_rings_of_empty_moves(self):
        net = (2, 4, (3,), ((0, -1, 1), (1, -1, 2), (1, 0, 1), (2, -1, 0), (2, 1, 3), (3, -1, 3)))
        self.assertEqual(self.holds(net), (2, (1,), ((0, 1), (-1, -1))))

    def test_states_that_are_not_reached_or_without_an_end(self):
        net = (2, 6, (1, 4), ((0, 0, 1), (0, 1, 2), (1, 0, 2), (2, -1, 5), (3, 0, 1), (4, -1, 1), (5, 0, 2)))
        self.assertEqual(self.holds(net), (2, (1,), ((1, -1), (-1, -1))))

    def test_states_are_numbered_by_least_words(self):
        net = (3, 4, (1, 2), ((0, 0, 3), (0, 1, 2), (0, 2, 1), (1, 2, 1), (2, 1, 1), (3, 0, 1), (3, 1, 2)))
        machine = self.holds(net)
        self.assertEqual(machine[2][0], (1, 2, 3))

    def test_thirty_signs(self):
        rng = random.Random(93)
        for _ in range(30):
            self.holds(making.net(rng, 30, 4, 30))

    def test_many_nets(self):
        rng = random.Random(94)
        for _ in range(600):
            signs = rng.randint(1, 3)
            self.holds(making.net(rng, signs, rng.randint(1, 6), rng.randint(0, 14), rng.random() < 0.7))

    def test_tables_give_the_machine_back(self):
        rng = random.Random(95)
        for _ in range(300):
            table = random_table(rng, rng.randint(1, 3), rng.randint(1, 5))
            machine = self.holds(net_of_table(table))
            self.assertEqual(ask(least_machine, net_of_table(machine)), machine)

    def test_nets_of_twenty_states(self):
        rng = random.Random(96)
        for _ in range(10):
            net = making.net(rng, 2, 20, 40)
            self.assertTrue(slow.same_words(least_machine(net), net))
        # The twelfth sign from the end is 0: a machine needs 2 ** 12 states for this.
        moves = [(0, 0, 0), (0, 1, 0), (0, 0, 1)] + [(k, s, k + 1) for k in range(1, 12) for s in (0, 1)]
        machine = least_machine((2, 13, (12,), tuple(sorted(moves))))
        self.assertEqual(len(machine[2]), 2 ** 12)
        check_machine(machine)

    def test_equal_words_give_equal_machines(self):
        # Words whose length is a multiple of 6, as a ring of 6 and as the words of two rings.
        six = (1, 6, (0,), tuple((k, 0, (k + 1) % 6) for k in range(6)))
        twelve = (1, 12, (0, 6), tuple((k, 0, (k + 1) % 12) for k in range(12)))
        self.assertEqual(self.holds(six), self.holds(twelve))
        two_or_three = (1, 6, (1, 3), tuple(sorted(
            [(0, -1, 1), (0, -1, 3), (1, 0, 2), (2, 0, 1), (3, 0, 4), (4, 0, 5), (5, 0, 3)])))
        self.assertEqual(len(self.holds(two_or_three)[2]), 6)

    def test_a_great_net(self):
        many = 100000
        net = (1, many, (many - 1,), tuple((k, 0, k + 1) for k in range(many - 1)))
        machine = least_machine(net)
        self.assertEqual(machine, (1, (many - 1,), tuple((k + 1,) for k in range(many - 1)) + ((-1,),)))
        check_machine(machine)


if __name__ == "__main__":
    unittest.main()
