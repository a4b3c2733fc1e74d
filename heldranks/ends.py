"""Ends: the moves, the reached end states and the steps of a machine."""

from heldranks.checks import check_machine, check_move
from heldranks.errors import InvalidEndState, TooMany
from heldranks.machines import row_done
from heldranks.values import all_ends, are_ends
from heldranks.walks import steps_met

MOST_STATES = 96


def moves(machine):
    """Return the list of the moves, in order."""
    check_machine(machine)
    return moves_by(machine.letters, machine.inputs)


def moves_by(letters, inputs):
    """Return the list of the moves of some sorted letters and so many inputs, in order."""
    return [(letter, ends) for letter in letters for ends in all_ends(inputs)]


def end_states(machine):
    """Return the sorted list of the reached end states; TooMany if there are too many of them."""
    check_machine(machine)
    return sorted(reached_steps(machine))


def end_step(machine, state, letter, ends):
    """Return the step of any end state with a move: the outputs and the next end state."""
    check_machine(machine)
    if not is_end_state(machine, state):
        raise InvalidEndState(state)
    check_move(machine, letter, ends)
    return step_of(machine, state, letter, ends)


def is_end_state(machine, state):
    """Tell whether any value is an end state of a machine, reached or not."""
    if not isinstance(state, tuple) or len(state) != 2:
        return False
    return state[0] in machine.modes and are_ends(state[1], machine.registers)


def step_of(machine, state, letter, ends):
    """Return the step of something that surely is an end state with something that surely is a move."""
    mode, registers = state
    row = machine.row_at(mode, letter)
    outputs, kept = row_done(row, registers, ends)
    return (outputs, (row.mode, kept))


def first_end_state(machine):
    """Return the end state before the first tick."""
    return (machine.first, machine.begin)


def reached_steps(machine):
    """Return the steps of the reached end states; TooMany if there are too many of them."""
    found = steps_behind(machine, [first_end_state(machine)])
    if len(found) > MOST_STATES:
        raise TooMany("states", MOST_STATES)
    return found


def check_states(machine):
    """Raise TooMany if there are too many reached end states."""
    reached_steps(machine)


def steps_behind(machine, states):
    """Return a dict from some end states, and all that they lead to, to the list of their steps by all moves."""
    return steps_met(states, lambda state: machine.end_steps(state))


def state_behind(machine, state, history):
    """Return the end state to which an end history leads from an end state."""
    for letter, ends in history:
        _, state = step_of(machine, state, letter, ends)
    return state


def last_outputs(machine, state, history):
    """Return what follows an end state at the last tick of an end history that is not empty."""
    letter, ends = history[-1]
    outputs, _ = step_of(machine, state_behind(machine, state, history[:-1]), letter, ends)
    return outputs
