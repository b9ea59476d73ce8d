"""Relays and seal tables that are ready for the signs of mail."""

from anychain.books import MOST_RELAYS
from anychain.errors import InvalidBook, UnknownName

RELAYS = {
    "unfold": (((10,), (8,)), ((11,), (8,))),
    "refold": (((8,), (10,)), ((9,), (11,))),
    "lower": (((2,), (0,)), ((3,), (1,))),
    "squeeze": (((8, 8), (8,)), ((9,), (8,))),
    "trim": (((8, 12), (12,)), ((8, 13), (13,)), ((5, 8), (5,))),
    "strip": (((22, 25), (25,)), ((23, 25), (25,))),
    "detab": (((23,), (22,)),),
    "blanks": (((22, 22), (22,)),),
    "join": (((24, 25), (25,)),),
    "bare": (((24,), (25,)),),
    "sevenbit": (((26,), (27,)),),
    "undot": (((25, 20), (25,)),),
    "wrap": (((22,), (25,)),),
    "close": (((25, 25), (25,)),),
}

SEALS = {
    "plain": (),
    "heads": (
        ((10,), (8,)), ((11,), (8,)), ((9,), (8,)), ((8, 8), (8,)), ((8, 12), (12,)), ((8, 13), (13,)),
        ((5, 8), (5,)), ((2,), (0,)), ((3,), (1,)),
    ),
    "bodies": (
        ((23,), (22,)), ((22, 22), (22,)), ((22, 25), (25,)), ((24, 25), (25,)), ((25, 25), (25,)),
    ),
}


def ready_relay(name):
    """Return the ready relay of a name; raise UnknownName if there is none."""
    if name not in RELAYS:
        raise UnknownName("no ready relay has this name")
    return RELAYS[name]


def ready_book(names):
    """Return the book of the ready relays of some names, in their order."""
    book = tuple([ready_relay(name) for name in names])
    if len(book) > MOST_RELAYS:
        raise InvalidBook("a book is a tuple of at most 8 relays")
    return book


def ready_seal(name):
    """Return the ready seal table of a name; raise UnknownName if there is none."""
    if name not in SEALS:
        raise UnknownName("no ready seal table has this name")
    return SEALS[name]


def relay_names():
    """Return the names of the ready relays in ascending order."""
    return tuple(sorted(RELAYS))


def seal_names():
    """Return the names of the ready seal tables in ascending order."""
    return tuple(sorted(SEALS))
