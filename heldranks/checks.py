"""Checks of parameters that several files have: machines, letters, inputs and histories.

A chart and a table have letters and inputs as a machine has them, so most of these checks serve for them as well.
"""

from heldranks.errors import InvalidCount, InvalidEnds, InvalidHistory, InvalidMachine, UnknownLetter
from heldranks.machines import Machine
from heldranks.values import are_ends, is_count, is_end, is_list, is_name, is_value


def check_machine(machine):
    """Raise InvalidMachine for any value that is no Machine."""
    if not isinstance(machine, Machine):
        raise InvalidMachine(machine)


def check_letter(machine, letter):
    """Raise UnknownLetter for any value that is no letter of a machine."""
    if letter not in machine.letters:
        raise UnknownLetter(letter)


def check_number(number, many):
    """Raise InvalidCount for any value that is no COUNT below so many."""
    if not is_count(number) or number >= many:
        raise InvalidCount(number)


def check_move(machine, letter, ends):
    """Raise UnknownLetter or InvalidEnds unless a letter and ENDS are a move of a machine."""
    check_letter(machine, letter)
    if not are_ends(ends, machine.inputs):
        raise InvalidEnds(ends)


def check_history(machine, history):
    """Raise InvalidHistory unless history is a list of ticks of a machine."""
    check_ticks(machine, history, is_value)


def check_end_history(machine, history):
    """Raise InvalidHistory unless history is a list of ticks of a machine whose values are ENDS."""
    check_ticks(machine, history, is_end)


def check_ticks(machine, history, is_right):
    """Raise InvalidHistory unless history is a list of ticks of a machine whose values all are right."""
    if not is_list(history):
        raise InvalidHistory(None)
    for position, tick in enumerate(history):
        if not is_tick(machine, tick, is_right):
            raise InvalidHistory(position)


def are_ticks(machine, value, is_right):
    """Tell whether any value is a list of ticks of a machine whose values all are right."""
    return is_list(value) and all([is_tick(machine, tick, is_right) for tick in value])


def check_any_ticks(history):
    """Raise InvalidHistory unless history is a list of tuples of a NAME and a tuple of VALUES."""
    if not is_list(history):
        raise InvalidHistory(None)
    for position, tick in enumerate(history):
        if not has_tick_parts(tick, is_value) or not is_name(tick[0]):
            raise InvalidHistory(position)


def is_tick(machine, tick, is_right):
    """Tell whether any value is a tick of a machine whose values all are right."""
    return has_tick_parts(tick, is_right) and tick[0] in machine.letters and len(tick[1]) == machine.inputs


def has_tick_parts(tick, is_right):
    """Tell whether any value is a tuple of something and a tuple of values that all are right."""
    if not isinstance(tick, tuple) or len(tick) != 2 or not isinstance(tick[1], tuple):
        return False
    return all([is_right(value) for value in tick[1]])
