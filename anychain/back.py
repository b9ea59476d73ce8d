"""Whether everything is read back, and papers that show it."""

from anychain.arrivals import check_cost
from anychain.backpapers import all_rows, are_pairs, are_rows
from anychain.changes import first_change
from anychain.closing import closed_net
from anychain.lefts import targets_of
from anychain.made import Making
from anychain.pairing import Pairing
from anychain.papers import common_path, covers
from anychain.sent import check_coder_and_book, check_coder_and_reader, content_of, sent_net, word_machine
from anychain.shapes import is_row
from anychain.translators import translate


def reads_back(coder, book, reader):
    """Tell whether a reader reads every content back."""
    return grounds(coder, book, reader) is not None


def grounds(coder, book, reader):
    """Return the leads of coder and reader and a closed net of the letters, or None if not everything is read back."""
    check_coder_and_book(coder, book)
    check_coder_and_reader(coder, reader)
    pairing = Pairing(coder, reader)
    if pairing.misread is not None:
        return None
    net = closed_net(sent_net(coder), book)
    if first_change(net, book, reader) is not None:
        return None
    return pairing.leads, net


def spoiled(coder, book, reader):
    """Return None if everything is read back, and otherwise a content and a chain to a letter that is read wrongly.

    Raise TooLong if there is such a content and the cost is more than 60.
    """
    check_coder_and_book(coder, book)
    check_coder_and_reader(coder, reader)
    net = sent_net(coder)
    making = Making(net[3], book, 1)
    content = Pairing(coder, reader).misread
    if content is not None:
        check_cost(making)
        return (content, ())
    closed = (net[0], net[1], net[2], tuple(sorted(making.costs)))
    change = first_change(closed, book, reader)
    if change is None:
        return None
    check_cost(making)
    letter, step = change
    path = common_path(targets_of(closed[3]), 0, closed[2], word_machine(closed[0], letter))
    sent, chain = making.unfolded(path, 0)
    content = content_of(coder, sent)
    # The letter is read rightly or not; if it is, then what the step makes of it is not.
    if translate(reader, letter) == content:
        chain = chain + (step,)
    return (content, chain)


def back_paper(coder, book, reader):
    """Return a back-paper, or None if not everything is read back."""
    found = grounds(coder, book, reader)
    if found is None:
        return None
    pairs, net = found
    rows = all_rows(net, book, reader)
    return (in_order(pairs), net, in_order(rows))


def in_order(leads):
    """Return a table of leads as an ascending tuple."""
    return tuple([states + (leads[states],) for states in sorted(leads)])


def judge_back(coder, book, reader, paper):
    """Tell whether a value is a back-paper."""
    check_coder_and_book(coder, book)
    check_coder_and_reader(coder, reader)
    if not is_row(paper, 3, 3):
        return False
    pairs, net, rows = paper
    return are_pairs(pairs, coder, reader) and covers(coder, book, net) and are_rows(rows, net, book, reader)
