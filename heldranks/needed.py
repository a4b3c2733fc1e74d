"""Needed values: what can still come out behind a history, and which histories are interchangeable."""

from heldranks.charts import classes_of
from heldranks.checks import check_history, check_machine
from heldranks.ends import check_states, moves, reached_steps
from heldranks.errors import InvalidInteger
from heldranks.pairs import check_shapes, is_paper_from
from heldranks.runs import state_after
from heldranks.values import is_integer
from heldranks.walks import all_pairs, are_equal, first_parted, same_doubles


def needed(machine, history):
    """Return the descending list of the needed values."""
    cells, _ = _held_after(machine, history)
    return cells


def row_after(machine, history):
    """Return the tuple of the classes of the row after a history."""
    _, row = _held_after(machine, history)
    return tuple(row)


def call(machine, history, value):
    """Return an end history with the least number of ticks behind which a value comes out, or None."""
    start = _states_beside(machine, history, value)
    steps = reached_steps(machine)
    found = first_parted([start], moves(machine), steps, steps, are_equal)
    return None if found is None else found[1]


def rest_paper(machine, history, value):
    """Return a paper of rest for a value, or None if the value is needed."""
    start = _states_beside(machine, history, value)
    steps = reached_steps(machine)
    return all_pairs(start, same_doubles(len(moves(machine))), steps, steps, are_equal)


def is_rest_paper(machine, history, value, paper):
    """Tell whether any paper is a paper of rest for a value."""
    start = _states_beside(machine, history, value)
    check_states(machine)
    return is_paper_from(start, machine, machine, paper, are_equal)


def are_interchangeable(one, history, other, following):
    """Tell whether all histories that follow have the same outputs behind both histories."""
    return parting_future(one, history, other, following) is None


def parting_future(one, history, other, following):
    """Return an end history with the least number of ticks, at whose last tick outputs are unlike, or None."""
    check_machine(one)
    check_history(one, history)
    check_machine(other)
    check_history(other, following)
    check_shapes(one, other)
    here, there = state_after(one, history), state_after(other, following)
    levels = _levels_in(here.levels() + there.levels())
    starts = [(here.at_level(level), there.at_level(level)) for level in levels]
    found = first_parted(starts, moves(one), reached_steps(one), reached_steps(other), are_equal)
    return None if found is None else found[1]


def _states_beside(machine, history, value):
    """Return the tuple of the end states after a history at the level of an INTEGER and at the level above it."""
    state = state_after(machine, history)
    if not is_integer(value):
        raise InvalidInteger(value)
    return (state.at_level(value), state.at_level(value + 1))


def _levels_in(values):
    """Return a list of levels, one above all of some INTEGERS and each of them: between them nothing changes."""
    return [max(values) + 1] + values if values else [0]


def _held_after(machine, history):
    """Return the descending list of the needed values and the list of the classes of the row."""
    state = state_after(machine, history)
    _, classes = classes_of(machine)
    cells, row = [], []
    for level in _levels_in(state.levels()):
        number = classes[state.at_level(level)]
        if not row:
            row.append(number)
        elif number != row[-1]:
            cells.append(level)
            row.append(number)
    return cells, row
