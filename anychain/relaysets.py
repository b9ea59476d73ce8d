"""Which relays of a book spoil what is read back."""

from anychain.arrivals import check_cost, clash
from anychain.changes import first_change
from anychain.closing import closed_net
from anychain.confusing import confused_letters
from anychain.made import Making
from anychain.pairing import Pairing
from anychain.sent import check_coder_and_book, check_coder_and_reader, sent_net


def least_harmful(coder, book, reader):
    """Return all sets of relays that are not harmless and of which every smaller part is harmless."""
    known = Verdicts(coder, book, reader).known
    found = []
    for bits, harmless in known.items():
        smaller = [bits ^ 1 << relay for relay in relays_of(bits)]
        if not harmless and all([known[part] for part in smaller]):
            found.append(relays_of(bits))
    return in_set_order(found)


def greatest_harmless(coder, book, reader):
    """Return all harmless sets of relays that are no smaller part of a harmless set."""
    known = Verdicts(coder, book, reader).known
    found = []
    for bits, harmless in known.items():
        greater = [bits | 1 << relay for relay in range(len(book))]
        if harmless and not any([known[whole] for whole in greater if whole != bits]):
            found.append(relays_of(bits))
    return in_set_order(found)


def relays_of(bits):
    """Return a set of relays, told by the bits of an integer, as a tuple."""
    return tuple([relay for relay in range(bits.bit_length()) if bits >> relay & 1])


def in_set_order(sets):
    """Return a tuple of sets, ordered by length and then like words."""
    return tuple(sorted(sets, key=lambda chosen: (len(chosen), chosen)))


class Verdicts:
    """For each set of relays of a book, told by the bits of an integer, whether it is harmless."""

    def __init__(self, coder, book, reader):
        check_coder_and_book(coder, book)
        if reader is not None:
            check_coder_and_reader(coder, reader)
        self.relays = book
        self.reader = reader
        self.net = sent_net(coder)
        self.every = (1 << len(book)) - 1
        if reader is None:
            # A cost that is too great matters even where the sets are decided without it.
            for bits in range(self.every + 1):
                check_cost(self.making(bits))
            self.sound = clash(coder) is None
        else:
            self.sound = Pairing(coder, reader).misread is None
        self.known = {}
        for bits in range(self.every, -1, -1):
            if bits not in self.known:
                self.search(bits)

    def chosen(self, bits):
        """Return the book with the relays of a set alone."""
        return tuple([rules if bits >> relay & 1 else () for relay, rules in enumerate(self.relays)])

    def making(self, bits):
        """Return what closes the net of the sent letters under the relays of a set."""
        return Making(self.net[3], self.chosen(bits), 1)

    def search(self, bits):
        """Decide a set, and with it the greatest harmless set about it or the least harmful one within it."""
        if self.is_harmless(bits):
            for relay in range(len(self.relays)):
                if self.is_harmless(bits | 1 << relay):
                    bits = bits | 1 << relay
        else:
            for relay in range(len(self.relays)):
                smaller = bits & (self.every ^ 1 << relay)
                if not self.is_harmless(smaller):
                    bits = smaller

    def is_harmless(self, bits):
        """Tell whether a set is harmless; decide also all sets for which this follows."""
        if bits not in self.known:
            harmless = self.sound and self.leaves_all(bits)
            for other in range(self.every + 1):
                # A part of a harmless set is harmless.
                if other & bits == (other if harmless else bits):
                    self.known[other] = harmless
        return self.known[bits]

    def leaves_all(self, bits):
        """Tell whether the relays of a set spoil nothing that comes through no relays."""
        if self.reader is None:
            return confused_letters(self.net, self.making(bits)) is None
        closed = closed_net(self.net, self.chosen(bits))
        return first_change(closed, self.chosen(bits), self.reader) is None


def cut_sets(sets):
    """Return all sets that have an index in common with each of some sets, and of which no smaller part has."""
    found = [()]
    for chosen in sets:
        cutting = [cut for cut in found if has_common(cut, chosen)]
        longer = [cut + (index,) for cut in found if not has_common(cut, chosen) for index in chosen]
        # A longer set may have one that cuts already as a part.
        found = cutting + [cut for cut in longer if not any([is_part(part, cut) for part in cutting])]
    return in_set_order([tuple(sorted(cut)) for cut in found])


def has_common(first, second):
    """Tell whether two sets have an index in common."""
    return any([index in second for index in first])


def is_part(first, second):
    """Tell whether one set is a part of another."""
    return all([index in second for index in first])
