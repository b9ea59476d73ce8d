"""Coders: whether books, machines and readers agree with them, and what they send."""

from anychain.books import check_book
from anychain.errors import InvalidBook, Mismatch
from anychain.finding import NOWHERE, word_of_way
from anychain.machines import least_machine
from anychain.translators import written_net


def check_coder_and_book(coder, book):
    """Raise Mismatch if a coder and a book do not agree."""
    check_letters_and_book(coder[1], book)


def check_letters_and_book(signs, book):
    """Raise Mismatch if a book is not valid for the signs of some letters."""
    try:
        check_book(signs, book)
    except InvalidBook:
        raise Mismatch("the book is not valid for the signs of the letters")


def check_coder_and_reader(coder, reader):
    """Raise Mismatch if a coder and a reader do not agree."""
    if reader[0] != coder[1] or reader[1] != coder[0]:
        raise Mismatch("the coder and the reader are not over the same signs")


def check_coder_and_machine(coder, machine):
    """Raise Mismatch if a machine is not over the signs of a coder's letters."""
    if machine[0] != coder[1]:
        raise Mismatch("the machine is not over the signs of the coder's letters")


def sent_net(coder):
    """Return the machine of the sent letters as a net."""
    return net_of(least_machine(written_net(coder)))


def net_of(machine):
    """Return a machine as a net, with one move for each sign of each state."""
    signs, ends, rows = machine
    moves = []
    for state, row in enumerate(rows):
        moves.extend([(state, sign, target) for sign, target in enumerate(row) if target >= 0])
    # A net has at least one state, also if it reads nothing.
    return (signs, max(1, len(rows)), ends, tuple(moves))


def word_machine(signs, word):
    """Return the machine that takes one word alone."""
    rows = []
    for at, sign in enumerate(word):
        rows.append(tuple([at + 1 if other == sign else -1 for other in range(signs)]))
    rows.append((-1,) * signs)
    return (signs, (len(word),), tuple(rows))


def content_of(coder, letter):
    """Return a shortest content of which a letter is the sent one, or None."""
    _, _, prefix, moves, endings = coder
    # A place is a pair of a state of the coder and how much of the letter is written.
    places = [(0, len(prefix))] if letter[:len(prefix)] == prefix else []
    ways = [(NOWHERE, NOWHERE)]
    seen = {place: True for place in places}
    number = 0
    while number < len(places):
        state, at = places[number]
        if is_rest(letter, at, endings[state]):
            return word_of_way(ways, number)
        for sign, move in enumerate(moves[state]):
            if move is not None and letter[at:at + len(move[0])] == move[0]:
                place = (move[1], at + len(move[0]))
                if place not in seen:
                    seen[place] = True
                    places.append(place)
                    ways.append((number, sign))
        number += 1
    return None


def is_rest(letter, at, ending):
    """Tell whether an ending, which may be None, is what is left of a letter from a place on."""
    # The lengths are compared first: the rest of a long letter is long.
    return ending is not None and len(letter) - at == len(ending) and letter[at:] == ending
