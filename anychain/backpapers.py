"""Back-papers: the parts that show that everything is read back."""

from anychain.pairing import ends_right, first_pair, pair_steps, useful_states
from anychain.reading import DEAD, Sides, ends_equal, moves_from, row_behind
from anychain.shapes import is_ascending, is_integer, is_row, is_word


def all_rows(net, book, reader):
    """Return the rows of a back-paper as a dict from triples of states to leads.

    It is known that every step leaves what the reader makes of the net's letters unchanged.
    """
    sides = Sides(net, book, reader)
    moves = moves_from(net[3])
    leads = {}
    queue = []
    for state in sides.readers:
        queue.extend([(row, lead) for row, lead, _ in sides.seeds(state)])
        while queue:
            row, lead = queue.pop()
            if row not in leads:
                leads[row] = lead
                for sign, target in moves.get(row[0], ()):
                    queue.append(row_behind(reader, row, lead, sign, target))
    return leads


def table_of(value, states, signs):
    """Return a dict from tuples of states to leads, or None if a value is not an ascending tuple of such with leads.

    `states` has for each place the number of states that there are.
    """
    if type(value) is not tuple or not all([is_entry(entry, states, signs) for entry in value]):
        return None
    keys = [entry[:-1] for entry in value]
    if not is_ascending(keys):
        return None
    return {entry[:-1]: entry[-1] for entry in value}


def is_entry(value, states, signs):
    """Tell whether a value is a tuple of states and a lead."""
    if not is_row(value, len(states) + 1, len(states) + 1):
        return False
    return all([is_integer(value[at], 0, many - 1) for at, many in enumerate(states)]) and is_lead(value[-1], signs)


def is_lead(value, signs):
    """Tell whether a value is a pair of words over so many signs of which at least one is empty."""
    if not is_row(value, 2, 2) or type(value[0]) is not tuple or type(value[1]) is not tuple:
        return False
    # A lead may be as long as it likes.
    words = [is_word(word, signs, 0, len(word)) for word in value]
    return all(words) and (not value[0] or not value[1])


def are_pairs(value, coder, reader):
    """Tell whether a value shows that the reader translates every sent letter to its content."""
    leads = table_of(value, (len(coder[3]), len(reader[3])), coder[0])
    if leads is None:
        return False
    useful = useful_states(coder)
    if 0 in useful:
        pair, lead = first_pair(coder, reader)
        if pair[1] == DEAD or leads.get(pair) != lead:
            return False
    for pair, lead in leads.items():
        steps = pair_steps(coder, reader, useful, pair, lead)
        for _, behind, behind_lead in steps:
            if not stands(behind, behind_lead, leads):
                return False
        if not ends_right(coder, reader, pair, lead):
            return False
    return True


def are_rows(value, net, book, reader):
    """Tell whether a value shows that no step changes what the reader makes of the net's letters."""
    leads = table_of(value, (net[1], len(reader[3]), len(reader[3])), reader[1])
    if leads is None:
        return False
    sides = Sides(net, book, reader)
    for state in sides.readers:
        seeds = sides.seeds(state)
        if not all([stands(row, lead, leads) for row, lead, _ in seeds]):
            return False
    moves = moves_from(net[3])
    is_end = {state: True for state in net[2]}
    for row, lead in leads.items():
        for sign, target in moves.get(row[0], ()):
            behind, behind_lead = row_behind(reader, row, lead, sign, target)
            if not stands(behind, behind_lead, leads):
                return False
        if row[0] in is_end and not ends_equal(reader, row, lead):
            return False
    return True


def stands(states, lead, leads):
    """Tell whether a lead stands in a table for some states, none of which is that of a dead reader."""
    return DEAD not in states and lead is not None and leads.get(states) == lead
