"""Pairs: whether two machines are alike, or one is at most the other, and what shows it."""

from heldranks.checks import check_machine
from heldranks.ends import check_states, first_end_state, is_end_state, moves, reached_steps, steps_behind
from heldranks.errors import OtherShape
from heldranks.values import are_under, is_list
from heldranks.walks import all_pairs, are_equal, first_parted, is_closed, same_doubles


def has_one_shape(one, other):
    """Tell whether two machines have the same letters, as many inputs and as many outputs."""
    check_machine(one)
    check_machine(other)
    return one.letters == other.letters and one.inputs == other.inputs and one.outputs == other.outputs


def are_alike(one, other):
    """Tell whether two machines have equal outputs for all histories."""
    return parting(one, other) is None


def is_at_most(one, other):
    """Tell whether no output of the first machine is ever greater than the same output of the second one."""
    return excess(one, other) is None


def parting(one, other):
    """Return an end history with the least number of ticks at whose last tick outputs are unlike, or None."""
    return _parted_by(one, other, are_equal)


def excess(one, other):
    """Return an end history with the least number of ticks at whose last tick the first machine is above, or None."""
    return _parted_by(one, other, are_under)


def alike_paper(one, other):
    """Return a paper of pairs for ALIKE, or None if there is none."""
    return _paper(one, other, are_equal)


def at_most_paper(one, other):
    """Return a paper of pairs for AT MOST, or None if there is none."""
    return _paper(one, other, are_under)


def is_alike_paper(one, other, value):
    """Tell whether any value is a paper of pairs for ALIKE."""
    return _is_paper(one, other, value, are_equal)


def is_at_most_paper(one, other, value):
    """Tell whether any value is a paper of pairs for AT MOST."""
    return _is_paper(one, other, value, are_under)


def check_shapes(one, other):
    """Raise InvalidMachine for what is no Machine, and OtherShape unless two machines have one shape."""
    if not has_one_shape(one, other):
        raise OtherShape()


def is_paper_from(start, one, other, value, is_right):
    """Tell whether any value is a list of pairs of end states with a first pair that is closed, with right outputs."""
    if not is_list(value) or not all([_is_pair(one, other, pair) for pair in value]):
        return False
    if start not in list(value):
        return False
    ones = steps_behind(one, [pair[0] for pair in value])
    others = steps_behind(other, [pair[1] for pair in value])
    return is_closed(value, same_doubles(len(moves(one))), ones, others, is_right)


def _is_pair(one, other, value):
    """Tell whether any value is a tuple of an end state of one machine and of one of another machine."""
    if not isinstance(value, tuple) or len(value) != 2:
        return False
    return is_end_state(one, value[0]) and is_end_state(other, value[1])


def _first_pair(one, other):
    """Return the pair of both states before the first tick."""
    return (first_end_state(one), first_end_state(other))


def _parted_by(one, other, is_right):
    """Return an end history with the least number of ticks at whose last tick outputs are not right, or None."""
    check_shapes(one, other)
    starts = [_first_pair(one, other)]
    found = first_parted(starts, moves(one), reached_steps(one), reached_steps(other), is_right)
    return None if found is None else found[1]


def _paper(one, other, is_right):
    """Return the list of all pairs that end histories lead to, or None if outputs are not right somewhere."""
    check_shapes(one, other)
    doubles = same_doubles(len(moves(one)))
    return all_pairs(_first_pair(one, other), doubles, reached_steps(one), reached_steps(other), is_right)


def _is_paper(one, other, value, is_right):
    """Tell whether any value is a paper of pairs for two machines."""
    check_shapes(one, other)
    check_states(one)
    check_states(other)
    return is_paper_from(_first_pair(one, other), one, other, value, is_right)
