"""Nets that are closed under a book."""

from anychain.lefts import left_ends, left_tree, targets_of
from anychain.made import Making
from anychain.nets import EMPTY


def is_closed(net, book):
    """Tell whether a net is closed under a book."""
    moves = {move: True for move in net[3]}
    tree = left_tree(book)
    targets = targets_of(net[3])
    for start in {move[0]: True for move in net[3]}:
        for _, _, right, state in left_ends(tree, targets, start):
            needed = right != EMPTY or start != state
            if needed and (start, right, state) not in moves:
                return False
    return True


def closed_net(net, book):
    """Return a net with the moves added to it that are missing until it is closed under a book."""
    signs, states, ends, moves = net
    return (signs, states, ends, tuple(sorted(Making(moves, book, 0).costs)))
