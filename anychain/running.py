"""Relays that are run by a fixed rule; each run is a chain of steps of this relay."""

from anychain.chains import ring
from anychain.errors import Endless
from anychain.seals import reducing_steps


def once(book, relay, word):
    """Return the chain of one step at the leftmost place, by the first rule that fits there, or ()."""
    for place in range(len(word)):
        rule = first_fit(book[relay], word, place)
        if rule is not None:
            return ((relay, rule, place),)
    return ()


def first_fit(rules, word, place):
    """Return the first rule whose left side stands in a word at a place, or None."""
    for rule, (left, _) in enumerate(rules):
        if word[place:place + len(left)] == left:
            return rule
    return None


def sweep(book, relay, word):
    """Return the chain of a relay that goes through a word once, from left to right."""
    rules = book[relay]
    chain = []
    # What is before the sweep may have become shorter, what is behind it is as it was.
    place = 0
    at = 0
    while at < len(word):
        rule = first_fit(rules, word, at)
        if rule is None:
            place += 1
            at += 1
        else:
            left, right = rules[rule]
            chain.append((relay, rule, place))
            place += len(right)
            at += len(left)
    return tuple(chain)


def while_any(book, relay, word):
    """Return the chain of a relay that is run once again and again until no rule fits.

    Raise Endless if a chain of this relay alone may have no end.
    """
    rules = book[relay]
    if ring((rules,)) is not None:
        raise Endless("the relay has a ring")
    # Words are reduced by a seal table in the same way, and rules of a relay are as short.
    steps, _ = reducing_steps(rules, word)
    return tuple([(relay, rule, place) for place, rule in steps])
