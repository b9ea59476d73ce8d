"""Steps that change what a reader makes of the letters that a net reads."""

from anychain.chains import apply_step
from anychain.leads import NO_LEAD
from anychain.nets import EMPTY
from anychain.papers import all_words, common_path
from anychain.reading import DEAD, Sides, ends_equal, moves_from, row_behind
from anychain.translators import translate


def first_change(net, book, reader):
    """Return a pair (letter, step), or None if there is none.

    The net reads the letter, and the step fits it; and the reader refuses the letter, or
    makes something else of the word behind the step. From each state of the net that is
    reached an end is reached.
    """
    return Search(net, book, reader).run()


class Search:
    """A search for a step that changes what a reader makes of a letter.

    Two readers go on together behind both sides of a rule. All ways to one row must have
    the same lead: else what follows could not make what they write equal on all of them.
    """

    def __init__(self, net, book, reader):
        self.net = net
        self.relays = book
        self.reader = reader
        self.sides = Sides(net, book, reader)
        self.moves = moves_from(net[3])
        self.is_end = {state: True for state in net[2]}
        self.leads = {}
        # For each row (row before, sign), or (None, (pair, relay, rule)) for the first of a way.
        self.came = {}
        self.queue = []

    def run(self):
        """Return a pair (letter, step), or None if there is none."""
        for state in self.sides.readers:
            seeds = self.sides.seeds(state)
            for row, lead, seed in seeds:
                if not self.meet(row, lead, (None, seed)):
                    return self.change(row, (None, seed))
            found = self.go_on()
            if found is not None:
                return found
        return None

    def go_on(self):
        """Go on from all rows in the queue; return a pair (letter, step) as soon as one is found."""
        at = 0
        while at < len(self.queue):
            row = self.queue[at]
            at += 1
            lead = self.leads[row]
            if row[0] in self.is_end and not ends_equal(self.reader, row, lead):
                return self.change(row, self.came[row])
            for sign, target in self.moves.get(row[0], ()):
                behind, behind_lead = row_behind(self.reader, row, lead, sign, target)
                if not self.meet(behind, behind_lead, (row, sign)):
                    return self.change(behind, (row, sign))
        self.queue = []
        return None

    def meet(self, row, lead, way):
        """Keep a row that is new; return False if some letter that leads here is changed by its step."""
        if row[1] == row[2] and lead == NO_LEAD:
            # From here on both readers do the same.
            return True
        if lead is None or row[1] == row[2] or row[1] == DEAD or row[2] == DEAD:
            return False
        if row in self.leads:
            return self.leads[row] == lead
        self.leads[row] = lead
        self.came[row] = way
        self.queue.append(row)
        return True

    def change(self, row, way):
        """Return a pair (letter, step), where a way to a row shows that there is one."""
        # With the same rest, two ways with different leads cannot both leave all as it was.
        ways = [way, self.came[row]] if row in self.came else [way]
        for other in ways:
            letter, step = self.letter_of(row, other)
            made = translate(self.reader, letter)
            if made is None or made != translate(self.reader, apply_step(self.relays, letter, step)):
                return (letter, step)
        return None

    def letter_of(self, row, way):
        """Return the letter of a way to a row, ended as the net allows it, and the step at its beginning."""
        signs = []
        while way[0] is not None:
            signs.append(way[1])
            way = self.came[way[0]]
        pair, relay, rule = way[1]
        before = []
        while self.sides.pairs[pair] is not None:
            pair, sign = self.sides.pairs[pair]
            before.append(sign)
        begin = tuple([sign for sign in before[::-1] if sign != EMPTY])
        middle = tuple([sign for sign in signs[::-1] if sign != EMPTY])
        left = self.relays[relay][rule][0]
        return begin + left + middle + self.rest(row[0]), (relay, rule, len(begin))

    def rest(self, state):
        """Return a least word that the net reads from a state on."""
        path = common_path(self.sides.targets, state, self.net[2], all_words(self.net[0]))
        return tuple([move[1] for move in path if move[1] != EMPTY])
