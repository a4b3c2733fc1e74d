"""Late: whether a machine tells what another one told some ticks before."""

from heldranks.checks import check_machine
from heldranks.ends import check_states, first_end_state, is_end_state, moves, reached_steps, steps_behind
from heldranks.errors import InvalidCount
from heldranks.pairs import check_shapes
from heldranks.values import are_ends, is_integer, is_list
from heldranks.walks import all_pairs, first_parted, is_closed, same_doubles, steps_met

_MOST_LATE = 3


def is_late_by(one, other, many):
    """Tell whether the outputs of the first machine are those that the second one had so many ticks before."""
    return late_parting(one, other, many) is None


def late_parting(one, other, many):
    """Return an end history of the least number of ticks at whose last tick the first machine is not late, or None."""
    _check_late(one, other, many)
    ones = reached_steps(one)
    start = _first_pair(one, other)
    others = _waiting_steps(other, many, [start[1]])
    found = first_parted([start], moves(one), ones, others, _is_on_time)
    return None if found is None else found[1]


def late_paper(one, other, many):
    """Return a late paper for so many ticks, or None if the first machine is not late by so many."""
    _check_late(one, other, many)
    ones = reached_steps(one)
    start = _first_pair(one, other)
    others = _waiting_steps(other, many, [start[1]])
    found = all_pairs(start, same_doubles(len(moves(one))), ones, others, _is_on_time)
    return None if found is None else [(here, there, queue) for here, (there, queue) in found]


def is_late_paper(one, other, many, value):
    """Tell whether any value is a late paper for so many ticks."""
    _check_late(one, other, many)
    if not is_list(value) or not all([_is_late_triple(one, other, many, triple) for triple in value]):
        return False
    pairs = [(here, (there, queue)) for here, there, queue in value]
    if _first_pair(one, other) not in pairs:
        return False
    ones = steps_behind(one, [here for here, _ in pairs])
    others = _waiting_steps(other, many, [node for _, node in pairs])
    return is_closed(pairs, same_doubles(len(moves(one))), ones, others, _is_on_time)


def _check_late(one, other, many):
    """Raise the errors of two machines and of a number of ticks."""
    check_machine(one)
    check_machine(other)
    if not is_integer(many) or not 1 <= many <= _MOST_LATE:
        raise InvalidCount(many)
    check_shapes(one, other)
    check_states(one)
    check_states(other)


def _first_pair(one, other):
    """Return the pair of the first end state of a machine, and of that of another one with the empty queue."""
    return (first_end_state(one), (first_end_state(other), ()))


def _is_late_triple(one, other, many, value):
    """Tell whether any value is a tuple of two end states and of a tuple of up to so many tuples of ENDS."""
    if not isinstance(value, tuple) or len(value) != 3 or not isinstance(value[2], tuple) or len(value[2]) > many:
        return False
    if not is_end_state(one, value[0]) or not is_end_state(other, value[1]):
        return False
    return all([are_ends(ends, other.outputs) for ends in value[2]])


def _waiting_steps(machine, many, nodes):
    """Return a dict from some nodes (end state, queue), and all that they lead to, to the list of their steps.

    The outputs of such a step are those that the machine had so many ticks before, or None if there is no such tick.
    """
    return steps_met(nodes, lambda node: _steps_with_queue(machine, many, node))


def _steps_with_queue(machine, many, node):
    """Return the list of the steps of an end state with a queue."""
    state, queue = node
    is_full = len(queue) == many
    awaited = queue[0] if is_full else None
    kept = queue[1:] if is_full else queue
    return [(awaited, (behind, (*kept, outputs))) for outputs, behind in machine.end_steps(state)]


def _is_on_time(outputs, awaited):
    """Tell whether outputs are those that are awaited, if some are."""
    return awaited is None or outputs == awaited
