"""What can arrive, where it comes from, and what it costs."""

from anychain.clashes import START, clash_graph
from anychain.closing import closed_net
from anychain.errors import TooLong
from anychain.lefts import targets_of
from anychain.machines import least_machine
from anychain.made import Making
from anychain.papers import common_path, covers
from anychain.sent import check_coder_and_book, check_coder_and_machine, content_of, sent_net, word_machine
from anychain.shapes import MOST_SIGNS
from anychain.ways import joined, unequal_way

MOST_COST = 60
LONGEST_FIRST = 60


def clash(translator):
    """Return None if a translator is one-to-one, and otherwise two words with the same translation."""
    steps, ends = clash_graph(translator)
    fault = unequal_way(steps, ends, START)
    if fault is None:
        return None
    way, _, _ = fault
    return (joined([step[1] for step in way]), joined([step[2] for step in way]))


def arriving(coder, book):
    """Return the machine of the letters that can arrive."""
    check_coder_and_book(coder, book)
    return least_machine(closed_net(sent_net(coder), book))


def origin(coder, book, letter):
    """Return a content and a chain from its sent letter to a letter, or None if it cannot arrive."""
    check_coder_and_book(coder, book)
    return arrival(coder, book, word_machine(coder[1], letter))


def bad_arrival(coder, book, machine):
    """Return a content and a chain from its sent letter to one that a machine takes, or None."""
    check_coder_and_book(coder, book)
    check_coder_and_machine(coder, machine)
    return arrival(coder, book, machine)


def arrival(coder, book, machine):
    """Return a content and a chain to a letter that a machine takes, or None.

    Raise TooLong if there is such a letter and the cost is more than 60.
    """
    net = sent_net(coder)
    making = Making(net[3], book, 1)
    path = common_path(targets_of(making.costs), 0, net[2], machine)
    if path is None:
        return None
    check_cost(making)
    letter, chain = making.unfolded(path, 0)
    return (content_of(coder, letter), chain)


def greatest_cost(making):
    """Return the greatest cost of a move."""
    return max(list(making.costs.values()), default=0)


def check_cost(making):
    """Raise TooLong if a move costs more than 60."""
    if greatest_cost(making) > MOST_COST:
        raise TooLong("the cost is more than 60")


def never_paper(coder, book, machine):
    """Return a net that shows that no letter that a machine takes can arrive, or None if one can."""
    check_coder_and_book(coder, book)
    check_coder_and_machine(coder, machine)
    net = closed_net(sent_net(coder), book)
    if common_path(targets_of(net[3]), 0, net[2], machine) is None:
        return net
    return None


def judge_never(coder, book, machine, paper):
    """Tell whether a value is a never-paper."""
    check_coder_and_book(coder, book)
    check_coder_and_machine(coder, machine)
    return covers(coder, book, paper) and common_path(targets_of(paper[3]), 0, paper[2], machine) is None


def cost(coder, book):
    """Return the cost of a coder and a book."""
    check_coder_and_book(coder, book)
    return greatest_cost(Making(sent_net(coder)[3], book, 1))


def chain_between(book, first, last):
    """Return a chain that leads from one word to another, or None.

    Raise TooLong if the first word has more than 60 signs.
    """
    if len(first) > LONGEST_FIRST:
        raise TooLong("the first word has more than 60 signs")
    making = Making([(at, sign, at + 1) for at, sign in enumerate(first)], book, 0)
    path = common_path(targets_of(making.costs), 0, (len(first),), word_machine(MOST_SIGNS, last))
    if path is None:
        return None
    _, chain = making.unfolded(path, 0)
    return chain
