"""Ends: the moves, the reached end states and the steps of a machine."""

from heldranks.checks import check_letter, check_machine
from heldranks.errors import InvalidEnds, InvalidEndState, TooMany
from heldranks.machines import row_done
from heldranks.values import all_ends, are_ends

MOST_STATES = 96


def moves(machine):
    """Return the list of the moves, in order."""
    check_machine(machine)
    return [(letter, ends) for letter in machine.letters for ends in all_ends(machine.inputs)]


def end_states(machine):
    """Return the sorted list of the reached end states; TooMany if there are too many of them."""
    steps = moves(machine)
    first = (machine.first, machine.begin)
    found = [first]
    known = {first}
    at = 0
    while at < len(found):
        for letter, ends in steps:
            _, state = step_of(machine, found[at], letter, ends)
            if state not in known:
                known.add(state)
                found.append(state)
        if len(found) > MOST_STATES:
            raise TooMany("states", MOST_STATES)
        at += 1
    return sorted(found)


def end_step(machine, state, letter, ends):
    """Return the step of any end state with a move: the outputs and the next end state."""
    check_machine(machine)
    if not is_end_state(machine, state):
        raise InvalidEndState(state)
    check_letter(machine, letter)
    if not are_ends(ends, machine.inputs):
        raise InvalidEnds(ends)
    return step_of(machine, state, letter, ends)


def is_end_state(machine, state):
    """Tell whether any value is an end state of a machine, reached or not."""
    if not isinstance(state, tuple) or len(state) != 2:
        return False
    return state[0] in machine.modes and are_ends(state[1], machine.registers)


def step_of(machine, state, letter, ends):
    """Return the step of something that surely is an end state with something that surely is a move."""
    mode, registers = state
    row = machine.row_at(mode, letter)
    outputs, kept = row_done(row, registers, ends)
    return (outputs, (row.mode, kept))
