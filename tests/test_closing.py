"""Point 16: closed nets."""

import random
import unittest

from anychain.closing import closed_net, is_closed
from anychain.nets import check_net
from tests import making, slow, slow_papers
from tests.helpers import Case, ask, only_plain


class Closing(Case):
    def holds(self, net, book):
        told = ask(closed_net, net, book)
        self.assertEqual(told, slow_papers.closed(net, book))
        self.assertTrue(only_plain(told))
        check_net(told)
        self.assertIs(ask(is_closed, net, book), not slow_papers.missing_moves(net, book))
        self.assertIs(is_closed(told, book), True)
        return told

    def test_ordinary_nets(self):
        net = (3, 3, (2,), ((0, 0, 1), (1, 1, 2)))
        self.assertEqual(self.holds(net, ((((0, 1), (2,)),),)), (3, 3, (2,), ((0, 0, 1), (0, 2, 2), (1, 1, 2))))
        self.assertIs(is_closed(net, ((((1, 0), (2,)),),)), True)
        self.assertIs(is_closed(net, ((((0, 1), (2,)),),)), False)
        self.assertIs(is_closed(net, ((((2,), (0,)),), (((0,), (2,)),))), False)

    def test_states_without_a_path_are_closed_too(self):
        net = (2, 5, (), ((3, 0, 4),))
        self.assertEqual(self.holds(net, ((((0,), (1,)),),)), (2, 5, (), ((3, 0, 4), (3, 1, 4))))

    def test_no_rules(self):
        net = (1, 2, (1,), ((0, -1, 0), (0, -1, 1), (0, 0, 1)))
        for book in ((), ((),), ((), (), ())):
            self.assertEqual(self.holds(net, book), net)

    def test_empty_moves(self):
        deleting = ((((0,), ()),),)
        self.assertEqual(self.holds((1, 2, (), ((0, 0, 1),)), deleting), (1, 2, (), ((0, -1, 1), (0, 0, 1))))
        # An empty move from a state to itself is not needed, but one that stands there stays.
        self.assertEqual(self.holds((1, 1, (0,), ((0, 0, 0),)), deleting), (1, 1, (0,), ((0, 0, 0),)))
        self.assertIs(is_closed((1, 1, (0,), ((0, 0, 0),)), deleting), True)
        net = (1, 1, (0,), ((0, -1, 0), (0, 0, 0)))
        self.assertEqual(self.holds(net, deleting), net)

    def test_paths_with_empty_moves_at_each_place(self):
        rule = ((((0, 0), (1,)),),)
        for at in range(3):
            moves = []
            state = 0
            for place in range(3):
                if place == at:
                    moves.append((state, -1, state + 1))
                    state += 1
                if place < 2:
                    moves.append((state, 0, state + 1))
                    state += 1
            told = self.holds((2, 4, (3,), tuple(moves)), rule)
            self.assertIn((0, 1, 3), told[3])

    def test_a_move_that_is_needed_for_a_loop(self):
        self.assertEqual(self.holds((2, 1, (0,), ((0, 0, 0),)), ((((0, 0, 0, 0), (1,)),),))[3], ((0, 0, 0), (0, 1, 0)))

    def test_many_nets(self):
        rng = random.Random(161)
        for _ in range(400):
            signs = rng.randint(1, 3)
            net = making.net(rng, signs, rng.randint(1, 4), rng.randint(0, 6))
            self.holds(net, making.book(rng, signs, 2, 3))

    def test_it_reads_what_can_come_of_the_words(self):
        rng = random.Random(162)
        for _ in range(150):
            signs = rng.randint(1, 2)
            net = making.net(rng, signs, rng.randint(1, 3), rng.randint(1, 4))
            book = making.book(rng, signs, 2, 2)
            told = closed_net(net, book)
            words = [word for word in slow.all_words(signs, 6) if slow.reads(net, word)]
            coming = {after for word in words for after in slow.outcomes(book, word)}
            for word in slow.all_words(signs, 3):
                if word in coming:
                    self.assertTrue(slow.reads(told, word))
            for word in coming:
                self.assertTrue(slow.reads(told, word))

    def test_many_states(self):
        moves = tuple((state, state & 1, state + 1) for state in range(4999))
        told = closed_net((3, 5000, (4999,), moves), ((((0, 1), (2,)),), (((2, 0), ()),)))
        added = [(state, 2, state + 2) for state in range(0, 4998, 2)]
        added += [(state, -1, state + 3) for state in range(0, 4997, 2)]
        self.assertTrue(set(added) <= set(told[3]))
        self.assertIs(is_closed((3, 5000, (4999,), moves), ((((0, 0), ()),),)), True)

    def test_states_far_apart(self):
        net = (2, 100000, (99999,), ((0, 0, 50000), (50000, 0, 99999)))
        told = closed_net(net, ((((0, 0), (1,)),),))
        self.assertEqual(told[3], ((0, 0, 50000), (0, 1, 99999), (50000, 0, 99999)))


if __name__ == "__main__":
    unittest.main()
