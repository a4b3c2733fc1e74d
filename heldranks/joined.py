"""Joined machines: one after another, one beside another, and one that gets back an output."""

from heldranks.checks import check_machine, check_number
from heldranks.errors import InvalidEnd, OtherShape, TooMany
from heldranks.forms import plain_term
from heldranks.machines import Machine, Row
from heldranks.terms import INPUTS, REGISTERS, Place
from heldranks.values import is_end


def after(one, other):
    """Return the Machine that gives the outputs of the first machine to the second one, and has those of that one."""
    check_machine(one)
    check_machine(other)
    if one.letters != other.letters or one.outputs != other.inputs:
        raise OtherShape()
    return _paired(one, other, _row_after, other.outputs)


def beside(one, other):
    """Return the Machine that gives its values to both machines, and has the outputs of the first and of the second."""
    check_machine(one)
    check_machine(other)
    if one.letters != other.letters or one.inputs != other.inputs:
        raise OtherShape()
    return _paired(one, other, _row_beside, one.outputs + other.outputs)


def looped(machine, output, number, end):
    """Return the Machine in which an input has the value of an output at the tick before, an END at the first tick."""
    check_machine(machine)
    check_number(output, machine.outputs)
    check_number(number, machine.inputs)
    if not is_end(end):
        raise InvalidEnd(end)
    _check_most("registers", machine.registers + 1, Machine.MOST_REGISTERS)
    given = {INPUTS[number]: Place(REGISTERS[machine.registers])}
    for later in range(number + 1, machine.inputs):
        given[INPUTS[later]] = Place(INPUTS[later - 1])
    rows = machine.rows()
    for pair in list(rows):
        row = rows[pair]
        told = _put_in(row.outputs, given)
        rows[pair] = Row(row.mode, _put_in(row.registers, given) + [told[output]], told)
    return Machine(rows, inputs=machine.inputs - 1, outputs=machine.outputs, first=machine.first,
                   begin=[*machine.begin, end])


def _paired(one, other, joined_row, outputs):
    """Return the Machine whose modes are the reached pairs of modes, with Rows that are made of both Rows."""
    names = _pair_names(one, other)
    # Registers beyond the last place cannot even be named; what else is too much is told by the Machine.
    _check_most("modes", len(names), Machine.MOST_MODES)
    _check_most("registers", one.registers + other.registers, Machine.MOST_REGISTERS)
    moved = {REGISTERS[k]: Place(REGISTERS[k + one.registers]) for k in range(other.registers)}
    rows = {}
    for mode, across in names:
        for letter in one.letters:
            row, beyond = one.row_at(mode, letter), other.row_at(across, letter)
            rows[names[mode, across], letter] = joined_row(names[row.mode, beyond.mode], row, beyond, moved)
    return Machine(rows, inputs=one.inputs, outputs=outputs, first=names[one.first, other.first],
                   begin=one.begin + other.begin)


def _row_after(name, row, beyond, moved):
    """Return the Row that gives the outputs of a Row to another one, whose registers are moved."""
    given = {place: moved[place] for place in moved}
    # The terms would grow with each machine that is joined after others, so short ones stand in their places.
    for number, term in enumerate(row.outputs):
        given[INPUTS[number]] = plain_term(term)
    kept = [plain_term(term) for term in _put_in(beyond.registers, given)]
    told = [plain_term(term) for term in _put_in(beyond.outputs, given)]
    return Row(name, [*row.registers, *kept], told)


def _row_beside(name, row, beyond, moved):
    """Return the Row that does a Row and another one, whose registers are moved."""
    kept = [*row.registers, *_put_in(beyond.registers, moved)]
    return Row(name, kept, [*row.outputs, *_put_in(beyond.outputs, moved)])


def _put_in(terms, given):
    """Return the list of some Terms in which places have become other Terms."""
    return [term.put(given) for term in terms]


def _pair_names(one, other):
    """Return a dict from the reached pairs of modes to new names of modes."""
    waiting = [(one.first, other.first)]
    names = {}
    at = 0
    while at < len(waiting):
        mode, across = waiting[at]
        if (mode, across) not in names:
            names[mode, across] = f"m{len(names)}"
            for letter in one.letters:
                waiting.append((one.row_at(mode, letter).mode, other.row_at(across, letter).mode))
        at += 1
    return names


def _check_most(kind, many, limit):
    """Raise TooMany if a joined machine would need more of a kind than a Machine may have."""
    if many > limit:
        raise TooMany(kind, limit)
