"""Translators, the words that they take, and the words that they write."""

from anychain.errors import InvalidTranslator
from anychain.least import least_form
from anychain.machines import least_machine
from anychain.nets import EMPTY
from anychain.shapes import MOST_SIGNS, is_integer, is_row, is_word

MOST_STATES = 12
LONGEST_WRITTEN = 6
NOWHERE = -1
ENDED = -1


def check_translator(translator):
    """Raise InvalidTranslator if a value is not a translator."""
    if not is_row(translator, 5, 5):
        raise InvalidTranslator("a translator is a tuple of five")
    ins, outs, prefix, moves, endings = translator
    if not is_integer(ins, 1, MOST_SIGNS) or not is_integer(outs, 1, MOST_SIGNS):
        raise InvalidTranslator("the numbers of signs are not integers from 1 to 30")
    if not is_word(prefix, outs, 0, LONGEST_WRITTEN):
        raise InvalidTranslator("the prefix is not a word of at most 6 signs")
    if not is_row(moves, 1, MOST_STATES):
        raise InvalidTranslator("the moves are not a tuple for 1 to 12 states")
    for row in moves:
        if not is_row(row, ins, ins) or not all([is_move(move, outs, len(moves)) for move in row]):
            raise InvalidTranslator("a state has not a move or None for each sign")
    if not is_row(endings, len(moves), len(moves)):
        raise InvalidTranslator("the endings are not a tuple with one element for each state")
    if not all([ending is None or is_word(ending, outs, 0, LONGEST_WRITTEN) for ending in endings]):
        raise InvalidTranslator("an ending is neither None nor a word of at most 6 signs")


def is_move(move, outs, states):
    """Tell whether a value is None or a pair (written, next state)."""
    if move is None:
        return True
    if not is_row(move, 2, 2):
        return False
    written, target = move
    return is_word(written, outs, 0, LONGEST_WRITTEN) and is_integer(target, 0, states - 1)


def translate(translator, word):
    """Return what a translator writes for a word, or None if it refuses the word."""
    _, _, prefix, moves, endings = translator
    written = list(prefix)
    state = 0
    for sign in word:
        move = moves[state][sign]
        if move is None:
            return None
        written.extend(move[0])
        state = move[1]
    if endings[state] is None:
        return None
    written.extend(endings[state])
    return tuple(written)


def taken_words(translator):
    """Return the machine of the words that a translator does not refuse."""
    ins, _, _, moves, endings = translator
    rows = [[NOWHERE if move is None else move[1] for move in row] for row in moves]
    ends = [state for state, ending in enumerate(endings) if ending is not None]
    return least_form(ins, ends, rows)


def written_words(translator):
    """Return the machine of the translations of all words that a translator does not refuse."""
    return least_machine(written_net(translator))


def written_net(translator):
    """Return a net that reads the translations.

    Each of its states stands for a pair of what is still to be written and the state
    of the translator behind it, so words with a common end share their states.
    """
    _, outs, prefix, _, _ = translator
    numbers = {(prefix, 0): 0}
    places = [(prefix, 0)]
    moves = []
    at = 0
    while at < len(places):
        steps = places_behind(translator, places[at])
        for sign, place in steps:
            if place not in numbers:
                numbers[place] = len(places)
                places.append(place)
            moves.append((at, sign, numbers[place]))
        at += 1
    ends = [numbers[((), ENDED)]] if ((), ENDED) in numbers else []
    return (outs, len(places), tuple(ends), tuple(sorted(set(moves))))


def places_behind(translator, place):
    """Return pairs (sign, next place) for a place of the net of the written words."""
    _, _, _, moves, endings = translator
    rest, state = place
    if rest:
        return [(rest[0], (rest[1:], state))]
    if state == ENDED:
        return []
    found = [(EMPTY, move) for move in moves[state] if move is not None]
    if endings[state] is not None:
        found.append((EMPTY, (endings[state], ENDED)))
    return found
