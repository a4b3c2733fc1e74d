"""Idle registers, inputs and letters: what can be changed without any effect, and what shows that something cannot."""

from heldranks.checks import check_letter, check_machine, check_number
from heldranks.ends import first_end_state, moves, reached_steps, steps_behind
from heldranks.flips import flip_pair, flips_of, tells_at_once
from heldranks.values import BOTTOM, TOP
from heldranks.walks import are_equal, first_parted, histories_to


def idle_registers(machine):
    """Return the ascending list of the numbers of the registers that are idle."""
    check_machine(machine)
    steps = reached_steps(machine)
    return [number for number in range(machine.registers) if _register_shown(machine, steps, number) is None]


def idle_inputs(machine):
    """Return the sorted list of the tuples (letter, number of the input) that are idle."""
    check_machine(machine)
    steps = reached_steps(machine)
    pairs = [(letter, number) for letter in machine.letters for number in range(machine.inputs)]
    return [pair for pair in pairs if _input_shown(machine, steps, pair[0], pair[1]) is None]


def idle_letters(machine):
    """Return the sorted list of the letters that are idle."""
    check_machine(machine)
    steps = reached_steps(machine)
    return [letter for letter in machine.letters if _letter_shown(machine, steps, letter) is None]


def register_matters(machine, number):
    """Return a tuple of two end histories that shows that a register matters, or None if it is idle."""
    check_machine(machine)
    check_number(number, machine.registers)
    return _register_shown(machine, reached_steps(machine), number)


def input_matters(machine, letter, number):
    """Return a tuple of two end histories that shows that an input of a letter matters, or None if it is idle."""
    check_machine(machine)
    check_letter(machine, letter)
    check_number(number, machine.inputs)
    return _input_shown(machine, reached_steps(machine), letter, number)


def letter_matters(machine, letter):
    """Return a tuple of an end history and a position that shows that a letter matters, or None if it is idle."""
    check_machine(machine)
    check_letter(machine, letter)
    return _letter_shown(machine, reached_steps(machine), letter)


def _register_shown(machine, steps, number):
    """Return what register_matters() returns, by the steps of the reached end states."""
    starts = [(state, _with_other_end(state, number)) for state in steps]
    # The state with the other END need not be reached.
    others = steps_behind(machine, [state for _, state in starts])
    found = first_parted(starts, moves(machine), steps, others, are_equal)
    if found is None:
        return None
    start, ahead = found
    return (_past(machine, steps, start[0]), ahead)


def _with_other_end(state, number):
    """Return the end state in which a register has the other END."""
    mode, registers = state
    other = BOTTOM if registers[number] == TOP else TOP
    return (mode, registers[:number] + (other,) + registers[number + 1:])


def _input_shown(machine, steps, letter, number):
    """Return what input_matters() returns, by the steps of the reached end states."""
    ordered = moves(machine)
    flips = flips_of(steps, ordered, letter, number)
    for flip in flips:
        if tells_at_once(steps, flip):
            return _flipped(machine, steps, flip, [])
    by_pair = {flip_pair(steps, flip): flip for flip in flips}
    found = first_parted(list(by_pair), ordered, steps, steps, are_equal)
    if found is None:
        return None
    start, ahead = found
    return _flipped(machine, steps, by_pair[start], ahead)


def _flipped(machine, steps, flip, ahead):
    """Return the tuple of both end histories that lead to a flip, through it, and then ahead."""
    ordered = moves(machine)
    state, high, low = flip
    past = _past(machine, steps, state)
    return (past + [ordered[high]] + ahead, past + [ordered[low]] + ahead)


def _letter_shown(machine, steps, letter):
    """Return what letter_matters() returns, by the steps of the reached end states."""
    ordered = moves(machine)
    left_out = {}
    for state in steps:
        for move, (_, behind) in zip(ordered, steps[state]):
            if move[0] == letter:
                left_out[behind, state] = move
    found = first_parted(list(left_out), ordered, steps, steps, are_equal)
    if found is None:
        return None
    start, ahead = found
    past = _past(machine, steps, start[1])
    return (past + [left_out[start]] + ahead, len(past))


def _past(machine, steps, state):
    """Return an end history that leads to a reached end state."""
    return histories_to(steps, first_end_state(machine), moves(machine))[state]
