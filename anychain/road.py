"""A road: a coder, a reader, and the relays between them, which may be changed."""

from anychain.arrivals import origin
from anychain.back import spoiled
from anychain.books import check_book
from anychain.chains import run_chain
from anychain.errors import Mismatch, NoHistory
from anychain.relaysets import least_harmful
from anychain.sent import check_coder_and_reader
from anychain.translators import translate


class Road:
    """A coder, a reader and a book, at first without relays."""

    def __init__(self, coder, reader):
        check_coder_and_reader(coder, reader)
        self.coder = coder
        self.reader = reader
        self.relays = ()
        # The books before each change that has not been taken back.
        self.earlier = []

    def book(self):
        """Return the present book."""
        return self.relays

    def add_relay(self, relay):
        """Add a relay at the end; raise InvalidBook if there is then no valid book."""
        changed = self.relays + (relay,)
        check_book(self.coder[1], changed)
        self.change(changed)

    def drop_relay(self, index):
        """Take a relay away; raise Mismatch if no relay has the index."""
        if not 0 <= index < len(self.relays):
            raise Mismatch("no relay has this index")
        self.change(self.relays[:index] + self.relays[index + 1:])

    def change(self, relays):
        """Take other relays for the present ones."""
        self.earlier.append(self.relays)
        self.relays = relays

    def undo(self):
        """Take back the last change that has not been taken back; raise NoHistory if there is none."""
        if not self.earlier:
            raise NoHistory("there is no change to take back")
        self.relays = self.earlier.pop()

    def verdict(self):
        """Return None if everything is read back, and otherwise a content, the words of a chain, and what is read.

        Raise TooLong if there is such a content and the cost is more than 60.
        """
        found = spoiled(self.coder, self.relays, self.reader)
        if found is None:
            return None
        content, letters = self.words_of_chain(found)
        return (content, letters, translate(self.reader, letters[-1]))

    def trace(self, letter):
        """Return a content and the words of a chain from its sent letter to a letter, or None if it cannot arrive.

        Raise TooLong if it can arrive and the cost is more than 60.
        """
        found = origin(self.coder, self.relays, letter)
        return None if found is None else self.words_of_chain(found)

    def words_of_chain(self, found):
        """Return a content and the words of a chain from its sent letter."""
        content, chain = found
        return (content, run_chain(self.relays, translate(self.coder, content), chain))

    def blame(self):
        """Return all sets of relays that are not harmless and of which every smaller part is harmless."""
        return least_harmful(self.coder, self.relays, self.reader)
