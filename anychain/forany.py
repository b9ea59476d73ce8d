"""Whether a reader reads everything back for every set of contents that it reads."""

from anychain.changes import first_change
from anychain.sent import check_letters_and_book, net_of
from anychain.translators import taken_words


def unfirm_rules(reader, book):
    """Return the pairs (relay, rule) of the rules under which a reader is not firm, in ascending order."""
    check_letters_and_book(reader[0], book)
    net = net_of(taken_words(reader))
    found = []
    for relay, rules in enumerate(book):
        for rule, sides in enumerate(rules):
            if first_change(net, ((sides,),), reader) is not None:
                found.append((relay, rule))
    return tuple(found)


def changed_letter(reader, book):
    """Return a letter that a reader does not refuse and a step that changes what it makes of it, or None."""
    check_letters_and_book(reader[0], book)
    return first_change(net_of(taken_words(reader)), book, reader)
