"""Point 9: nets and what they read."""

import random
import unittest

from anychain.errors import InvalidNet
from anychain.nets import check_net, reads
from tests import making, slow
from tests.helpers import ODD_VALUES, ask, error_of, spoilt

NET = (2, 3, (2,), ((0, 0, 0), (0, 0, 1), (1, -1, 2)))
MANY = 100000


class CheckNet(unittest.TestCase):
    def agrees(self, net):
        expected = None if slow.is_net(net) else InvalidNet
        self.assertIs(error_of(check_net, net), expected, net)

    def valid(self, net):
        self.assertIs(error_of(check_net, net), None)

    def invalid(self, net):
        self.assertIs(error_of(check_net, net), InvalidNet)

    def test_ordinary_nets(self):
        self.valid(NET)
        self.valid((1, 1, (), ()))
        self.valid((1, 1, (0,), ((0, -1, 0), (0, 0, 0))))

    def test_numbers_of_signs(self):
        for signs in range(-2, 33):
            (self.valid if 1 <= signs <= 30 else self.invalid)((signs, 1, (0,), ()))
        self.valid((30, 1, (0,), ((0, 29, 0),)))
        self.invalid((30, 1, (0,), ((0, 30, 0),)))
        self.invalid((30, 1, (0,), ((0, -2, 0),)))

    def test_numbers_of_states(self):
        self.valid((1, MANY, (MANY - 1,), ((0, 0, MANY - 1), (MANY - 1, -1, 0))))
        self.invalid((1, MANY + 1, (), ()))
        self.invalid((1, 0, (), ()))
        self.invalid((1, -1, (), ()))
        self.invalid((1, MANY, (MANY,), ()))
        self.invalid((1, 10 ** 30, (), ()))

    def test_all_states_are_ends_and_have_moves(self):
        net = (1, MANY, tuple(range(MANY)), tuple((k, 0, (k * 7) % MANY) for k in range(MANY)))
        self.valid(net)
        self.invalid(net[:3] + (net[3][::-1],))
        self.invalid(net[:3] + (net[3] + net[3][-1:],))

    def test_states_of_ends_and_moves(self):
        self.invalid((2, 3, (3,), ()))
        self.invalid((2, 3, (-1,), ()))
        self.invalid((2, 3, (), ((3, 0, 0),)))
        self.invalid((2, 3, (), ((0, 0, 3),)))
        self.invalid((2, 3, (), ((-1, 0, 0),)))
        self.invalid((2, 3, (), ((0, 0, -1),)))

    def test_order(self):
        self.valid((2, 3, (0, 2), ()))
        self.invalid((2, 3, (2, 0), ()))
        self.invalid((2, 3, (2, 2), ()))
        self.valid((2, 3, (), ((0, -1, 2), (0, 0, 1), (1, 0, 0))))
        self.invalid((2, 3, (), ((0, 0, 1), (0, -1, 2))))
        self.invalid((2, 3, (), ((0, 0, 1), (0, 0, 1))))
        self.invalid((2, 3, (), ((1, 0, 0), (0, 0, 0))))
        self.invalid((2, 3, (), ((0, 0, 2), (0, 0, 1))))

    def test_true_is_no_integer(self):
        self.invalid((True, 3, (), ()))
        self.invalid((2, True, (), ()))
        self.invalid((2, 3, (True,), ()))
        self.invalid((2, 3, (False, 2), ()))
        for at in range(3):
            for told in (True, False):
                self.invalid((2, 3, (), ((1, 1, 1)[:at] + (told,) + (1, 1, 1)[at + 1:],)))

    def test_any_value_in_any_place(self):
        for odd in ODD_VALUES:
            self.agrees((odd, odd, odd, odd))
            for other in ODD_VALUES:
                self.agrees((2, 3, odd, other))
                self.agrees((2, 3, (), (odd, other)))
        for net in (NET, (1, 1, (0,), ((0, -1, 0), (0, 0, 0))), (2, 2, (0, 1), ())):
            for value in spoilt(net):
                self.agrees(value)

    def test_many_small_nets(self):
        rng = random.Random(91)
        for _ in range(500):
            net = making.net(rng, rng.randint(1, 3), rng.randint(1, 5), 6)
            self.valid(net)
            for at in (0, 1):
                self.agrees(net[:at] + (net[at] - 1,) + net[at + 1:])


class Reads(unittest.TestCase):
    def test_ordinary_words(self):
        for word, told in (((), False), ((0,), True), ((0, 0), True), ((1,), False), ((0, 1), False)):
            self.assertIs(ask(reads, NET, word), told)

    def test_the_empty_word(self):
        self.assertIs(ask(reads, (1, 1, (0,), ()), ()), True)
        self.assertIs(ask(reads, (1, 2, (1,), ((0, -1, 1),)), ()), True)
        self.assertIs(ask(reads, (1, 2, (1,), ((1, -1, 0),)), ()), False)
        self.assertIs(ask(reads, (1, 2, (1,), ((0, 0, 1),)), ()), False)

    def test_a_net_without_ends_reads_nothing(self):
        for word in slow.all_words(2, 3):
            self.assertIs(ask(reads, (2, 1, (), ((0, 0, 0), (0, 1, 0))), word), False)

    def test_rings_of_empty_moves(self):
        net = (2, 4, (3,), ((0, -1, 1), (1, -1, 2), (1, 0, 1), (2, -1, 0), (2, 1, 3), (3, -1, 3)))
        for word in slow.all_words(2, 5):
            self.assertIs(ask(reads, net, word), word != () and word[-1] == 1 and 1 not in word[:-1])

    def test_empty_moves_at_both_ends(self):
        net = (1, 5, (4,), ((0, -1, 1), (1, 0, 2), (2, -1, 3), (3, -1, 4)))
        self.assertIs(ask(reads, net, (0,)), True)
        self.assertIs(ask(reads, net, ()), False)
        self.assertIs(ask(reads, net, (0, 0)), False)

    def test_many_nets(self):
        rng = random.Random(92)
        for _ in range(300):
            net = making.net(rng, 2, rng.randint(1, 5), rng.randint(0, 9))
            for word in slow.all_words(2, 4):
                self.assertIs(ask(reads, net, word), slow.reads(net, word))

    def test_a_great_net(self):
        moves = tuple((k, k % 2, k + 1) for k in range(MANY - 1))
        net = (2, MANY, (MANY - 1,), moves)
        word = tuple(k % 2 for k in range(MANY - 1))
        self.assertIs(reads(net, word), True)
        self.assertIs(reads(net, word[1:]), False)
        empty = (2, MANY, (MANY - 1,), tuple((k, -1, k + 1) for k in range(MANY - 1)))
        self.assertIs(reads(empty, ()), True)


if __name__ == "__main__":
    unittest.main()
