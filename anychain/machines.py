"""Machines in least form."""

from anychain.errors import InvalidMachine
from anychain.least import least_form
from anychain.shapes import MOST_SIGNS, is_integer, is_row, is_set_of_states
from anychain.subsets import subset_table


def check_machine(machine):
    """Raise InvalidMachine if a value is not a machine in least form."""
    if not is_row(machine, 3, 3):
        raise InvalidMachine("a machine is a tuple of three")
    signs, ends, rows = machine
    if not is_integer(signs, 1, MOST_SIGNS):
        raise InvalidMachine("the number of signs is not an integer from 1 to 30")
    if type(rows) is not tuple or not all([is_machine_row(row, signs, len(rows)) for row in rows]):
        raise InvalidMachine("the rows are not a tuple of tuples of states")
    if not is_set_of_states(ends, len(rows)):
        raise InvalidMachine("the ends are not an ascending tuple of states")
    if least_form(signs, ends, rows) != machine:
        raise InvalidMachine("the machine is not in least form")


def is_machine_row(row, signs, states):
    """Tell whether a value is a row of a machine with so many signs and states."""
    return is_row(row, signs, signs) and all([is_integer(target, -1, states - 1) for target in row])


def takes(machine, word):
    """Tell whether a machine takes a word."""
    _, ends, rows = machine
    state = 0 if rows else -1
    for sign in word:
        if state < 0:
            return False
        state = rows[state][sign]
    return state in ends


def least_machine(net):
    """Return the machine that takes exactly the words that a net reads."""
    ends, rows = subset_table(net)
    return least_form(net[0], ends, rows)
