"""Back: which tables come from machines, and a machine for each of those."""

from heldranks.charts import is_class
from heldranks.checks import check_machine
from heldranks.ends import first_end_state, reached_steps
from heldranks.errors import NotRising, TooMany
from heldranks.forms import term_of
from heldranks.machines import Machine, Row
from heldranks.tables import Table, check_table, steps_by_move
from heldranks.values import BOTTOM, TOP, all_ends, are_under, is_list
from heldranks.walks import all_pairs, are_equal, first_parted, first_wrong, is_closed, merged_steps

_MOST_SETS = 12
_MODE = "on"


def merged(table):
    """Return the Table that has a state for each class of the states that end histories lead to."""
    check_table(table)
    steps, _ = merged_steps(dict(enumerate(table.step_lists())), 0)
    return Table(steps_by_move(table.move_list(), steps), inputs=table.inputs, outputs=table.outputs)


def is_rising(table):
    """Tell whether greater inputs never make an output of a table less."""
    return falling(table) is None


def falling(table):
    """Return a tuple of two end histories, of the least number of ticks, at which a table is falling, or None."""
    check_table(table)
    steps = table.step_lists()
    found = first_wrong([(0, 0)], _rising_doubles(table), steps, steps, are_under)
    if found is None:
        return None
    _, way = found
    ordered = table.move_list()
    return ([ordered[low] for low, _ in way], [ordered[high] for _, high in way])


def rising_paper(table):
    """Return a rising paper of a table, or None if the table is not rising."""
    check_table(table)
    steps = table.step_lists()
    return all_pairs((0, 0), _rising_doubles(table), steps, steps, are_under)


def is_rising_paper(table, value):
    """Tell whether any value is a rising paper of a table."""
    check_table(table)
    if not is_list(value) or not all([_is_pair(table, pair) for pair in value]):
        return False
    steps = table.step_lists()
    return (0, 0) in list(value) and is_closed(value, _rising_doubles(table), steps, steps, are_under)


def machine_of(table):
    """Return a machine of a table; NotRising if there is none, TooMany if the table has too many sets."""
    if not is_rising(table):
        raise NotRising()
    least = merged(table)
    if _many_sets(least) > _MOST_SETS:
        raise TooMany("sets", _MOST_SETS)
    rows = {(_MODE, letter): _row_for(least, letter) for letter in least.letters}
    begin = [TOP] + [BOTTOM] * (len(least) - 1)
    return Machine(rows, inputs=least.inputs, outputs=least.outputs, first=_MODE, begin=begin)


def is_machine_of(table, machine):
    """Tell whether a machine has the letters, the inputs and outputs of a table, and its outputs for end histories."""
    check_table(table)
    check_machine(machine)
    steps = reached_steps(machine)
    if table.letters != machine.letters or table.inputs != machine.inputs or table.outputs != machine.outputs:
        return False
    starts = [(0, first_end_state(machine))]
    return first_parted(starts, table.move_list(), table.step_lists(), steps, are_equal) is None


def _rising_doubles(table):
    """Return the list of the doubles with one letter on both sides, and with ENDS that are under one another."""
    ordered = list(enumerate(table.move_list()))
    return [(low, high) for low, under in ordered for high, over in ordered
            if under[0] == over[0] and are_under(under[1], over[1])]


def _is_pair(table, value):
    """Tell whether any value is a tuple of two states of a table."""
    if not isinstance(value, tuple) or len(value) != 2:
        return False
    return all([is_class(state, len(table)) for state in value])


def _many_sets(table):
    """Return how many sets a merged table has."""
    steps = table.steps()
    found = [(0,)]
    at = 0
    while at < len(found):
        for letter in table.letters:
            behind = _set_behind(steps, found[at], letter)
            if behind not in found:
                found.append(behind)
        at += 1
    return len(found)


def _set_behind(steps, states, letter):
    """Return the sorted tuple of all next states of some states by a letter with any ENDS."""
    behind = [steps[state][move][1] for state in states for move in steps[state] if move[0] == letter]
    return tuple(sorted(set(behind)))


def _row_for(table, letter):
    """Return the Row for a letter of a merged table that is rising.

    The machine has a register for each state, which is TOP exactly if an end history that is under the one that was
    done leads to the state. So an output is TOP exactly if it is for one of these end histories, which are at most the
    one that was done, since the table is rising. No modes are needed.
    """
    steps = {(state, ends): table.step(state, letter, ends)
             for state in range(len(table)) for ends in all_ends(table.inputs)}
    kept, told = [], []
    for number in range(len(table)):
        kept.append(_term_for([given for given in steps if steps[given][1] == number]))
    for number in range(table.outputs):
        told.append(_term_for([given for given in steps if steps[given][0][number] == TOP]))
    return Row(_MODE, kept, told)


def _term_for(tops):
    """Return a Term that is TOP if for one of these tuples (state, ENDS) the register and the inputs are TOP."""
    sets = [(f"r{state}", *[f"x{k}" for k, end in enumerate(ends) if end == TOP]) for state, ends in _least_of(tops)]
    return term_of(sorted(sets, key=_order_of))


def _least_of(tops):
    """Return those tuples (state, ENDS) of which no other one has the same state and ENDS that are under theirs."""
    return [top for top in tops if not any([_is_below(other, top) for other in tops])]


def _is_below(one, other):
    """Tell whether two tuples (state, ENDS) have one state, and the ENDS of the first one are under the other ones."""
    return one != other and one[0] == other[0] and are_under(one[1], other[1])


def _order_of(chosen):
    """Return by what a set of places is ordered in a form."""
    return (len(chosen), chosen)
