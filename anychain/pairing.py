"""Whether a reader reads every content from its sent letter."""

from anychain.graphs import linked, reached
from anychain.leads import NO_LEAD, extended
from anychain.papers import all_words, common_path
from anychain.reading import DEAD, read_on, read_to_end
from anychain.translators import translate


def useful_states(coder):
    """Return a dict of the states of a coder from which an ending is reached."""
    _, _, _, moves, endings = coder
    back = [(move[1], state) for state, row in enumerate(moves) for move in row if move is not None]
    return reached(linked(back), [state for state, ending in enumerate(endings) if ending is not None])


def first_pair(coder, reader):
    """Return the pair that the coder's prefix leads to, and its lead."""
    state, written = read_on(reader, 0, coder[2])
    return (0, state), ((), reader[2] + written)


def pair_steps(coder, reader, useful, pair, lead):
    """Return triples (content sign, next pair, lead or None) for the coder's moves to useful states."""
    found = []
    for sign, move in enumerate(coder[3][pair[0]]):
        if move is not None and move[1] in useful:
            state, written = read_on(reader, pair[1], move[0])
            found.append((sign, (move[1], state), extended(lead, (sign,), written)))
    return found


def ends_right(coder, reader, pair, lead):
    """Tell whether the reader writes the content if the coder ends at a pair, or that it cannot end there."""
    ending = coder[4][pair[0]]
    if ending is None:
        return True
    written = read_to_end(reader, pair[1], ending)
    return written is not None and extended(lead, (), written) == NO_LEAD


class Pairing:
    """A coder and a reader of its letters that go on together.

    `leads` has the lead of each pair (coder state, reader state) that is reached, if the
    coder's state is useful. All ways to one pair must have the same lead: else what
    follows could not make the reader write the content on all of them.
    """

    def __init__(self, coder, reader):
        self.coder = coder
        self.reader = reader
        self.useful = useful_states(coder)
        self.leads = {}
        # For each pair (pair before, content sign), or (None, None) for the first one.
        self.came = {}
        self.queue = []
        # A content that the reader does not make of its sent letter, if there is one.
        self.misread = self.run() if 0 in self.useful else None

    def run(self):
        """Find all pairs; return a content that is misread, or None."""
        pair, lead = first_pair(self.coder, self.reader)
        if not self.meet(pair, lead, (None, None)):
            return self.misread_behind(pair, (None, None))
        at = 0
        while at < len(self.queue):
            pair = self.queue[at]
            at += 1
            if not ends_right(self.coder, self.reader, pair, self.leads[pair]):
                return self.misread_behind(pair, self.came[pair])
            steps = pair_steps(self.coder, self.reader, self.useful, pair, self.leads[pair])
            for sign, behind, lead in steps:
                if not self.meet(behind, lead, (pair, sign)):
                    return self.misread_behind(behind, (pair, sign))
        return None

    def meet(self, pair, lead, way):
        """Keep a pair that is new; return False if some content that leads here is misread."""
        if lead is None or pair[1] == DEAD:
            return False
        if pair in self.leads:
            return self.leads[pair] == lead
        self.leads[pair] = lead
        self.came[pair] = way
        self.queue.append(pair)
        return True

    def misread_behind(self, pair, way):
        """Return a content that is misread, where a way to a pair shows that there is one."""
        # With the same rest, two ways with different leads cannot both be read rightly.
        ways = [way, self.came[pair]] if pair in self.came else [way]
        rest = self.rest(pair[0])
        for other in ways:
            signs = []
            while other[0] is not None:
                signs.append(other[1])
                other = self.came[other[0]]
            content = tuple(signs[::-1]) + rest
            if translate(self.reader, translate(self.coder, content)) != content:
                return content
        return None

    def rest(self, state):
        """Return a shortest word that leads the coder from a state to an ending."""
        targets = {}
        for source, row in enumerate(self.coder[3]):
            for sign, move in enumerate(row):
                targets[(source, sign)] = [] if move is None else [move[1]]
        ends = [end for end, ending in enumerate(self.coder[4]) if ending is not None]
        path = common_path(targets, state, ends, all_words(self.coder[0]))
        return tuple([move[1] for move in path])
