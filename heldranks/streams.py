"""Streams: those that come out of a machine just as they went in, and how many of them there are."""

from math import comb

from heldranks.checks import check_machine
from heldranks.ends import first_end_state, step_of
from heldranks.errors import InvalidCount, OtherShape
from heldranks.values import BOTTOM, TOP, are_under, is_integer

_MOST_VALUES = 6
_MOST_NUMBER = 10 ** 30


def left_ends(machine, many):
    """Return the sorted list of the tuples of so many ENDS that are left."""
    check_machine(machine)
    _check_within(many, _MOST_VALUES)
    _check_shape(machine)
    return _left(machine, many)


def left_streams(machine, many, most):
    """Return the number of streams of so many values from 0 to most that are left."""
    check_machine(machine)
    _check_within(many, _MOST_VALUES)
    _check_within(most, _MOST_NUMBER)
    _check_shape(machine)
    # A stream is a list of streams of ENDS, one for each level. It tells which different ones there are, and at which
    # of the levels from 2 on they change.
    return sum([chains * comb(most - 1, changes) for changes, chains in enumerate(_chains_in(_left(machine, many)))])


def _check_within(number, most):
    """Raise InvalidCount unless a number is an INTEGER from 1 to the most."""
    if not is_integer(number) or not 1 <= number <= most:
        raise InvalidCount(number)


def _check_shape(machine):
    """Raise OtherShape unless a machine has one letter, one input and one output."""
    if len(machine.letters) != 1 or machine.inputs != 1 or machine.outputs != 1:
        raise OtherShape()


def _left(machine, many):
    """Return the sorted list of the tuples of so many ENDS that are left."""
    letter = machine.letters[0]
    found = [((), first_end_state(machine))]
    for _ in range(many):
        longer = []
        for stream, state in found:
            for end in (BOTTOM, TOP):
                outputs, behind = step_of(machine, state, letter, (end,))
                if outputs == (end,):
                    longer.append(((*stream, end), behind))
        found = longer
    return sorted([stream for stream, _ in found])


def _chains_in(streams):
    """Return the list of the numbers of lists of different streams of ENDS, each one under the one before.

    The first number is that of the lists of one stream, the second one that of two, and so on, while there are some.
    """
    below = {stream: [other for other in streams if other != stream and are_under(other, stream)] for stream in streams}
    ending = {stream: 1 for stream in streams}
    found = []
    while sum(list(ending.values())) > 0:
        found.append(sum(list(ending.values())))
        ending = {stream: sum([ending[other] for other in below[stream]]) for stream in streams}
    return found
