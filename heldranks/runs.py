"""Runs of machines: the outputs and the states of histories."""

from heldranks.checks import check_any_ticks, check_history, check_letter, check_machine
from heldranks.errors import InvalidInteger, InvalidValues, NothingToUndo
from heldranks.machines import row_done
from heldranks.values import are_values, end_at, integers_in, is_integer


class State:
    """The mode and the values of the registers of a machine at one moment."""

    def __init__(self, mode, registers):
        self._mode = mode
        self._registers = registers

    @property
    def mode(self):
        """Return the mode."""
        return self._mode

    @property
    def registers(self):
        """Return the tuple of the values of the registers."""
        return self._registers

    def levels(self):
        """Return the descending list of the different INTEGERS in the registers."""
        return integers_in(self._registers)

    def at_level(self, level):
        """Return the end state at a level: the mode and the tuple of the ENDS."""
        if not is_integer(level):
            raise InvalidInteger(level)
        return (self._mode, tuple([end_at(value, level) for value in self._registers]))

    def __eq__(self, other):
        return isinstance(other, State) and self._mode == other._mode and self._registers == other._registers


def first_state(machine):
    """Return the State before the first tick."""
    return State(machine.first, machine.begin)


def tick_done(machine, state, letter, values):
    """Return the outputs of a tick that surely is right, and the State behind it."""
    row = machine.row_at(state.mode, letter)
    outputs, registers = row_done(row, state.registers, values)
    return outputs, State(row.mode, registers)


def steps_from(machine, state, history):
    """Return the list of the outputs of ticks that surely are right, each with the State behind it."""
    found = []
    for letter, values in history:
        outputs, state = tick_done(machine, state, letter, values)
        found.append((outputs, state))
    return found


def outputs_of(machine, history):
    """Return the list of the outputs of all ticks."""
    return list(each_output(machine, history))


def each_output(machine, history):
    """Tell the outputs of all ticks, one after the other."""
    check_machine(machine)
    check_history(machine, history)
    state = first_state(machine)
    # The list may be changed between two outputs.
    for letter, values in list(history):
        outputs, state = tick_done(machine, state, letter, values)
        yield outputs


def state_after(machine, history):
    """Return the State behind a history."""
    check_machine(machine)
    check_history(machine, history)
    states = [state for _, state in steps_from(machine, first_state(machine), history)]
    return states[-1] if states else first_state(machine)


def history_at(history, level):
    """Return the end history that a history is at a level."""
    check_any_ticks(history)
    if not is_integer(level):
        raise InvalidInteger(level)
    return [(letter, tuple([end_at(value, level) for value in values])) for letter, values in history]


class Run:
    """A machine that is at work."""

    def __init__(self, machine):
        check_machine(machine)
        self._machine = machine
        self._done = []
        self._states = [first_state(machine)]

    @property
    def machine(self):
        """Return the machine."""
        return self._machine

    @property
    def state(self):
        """Return the State behind the ticks that are done."""
        return self._states[-1]

    @property
    def ticks(self):
        """Return how many ticks are done and not taken back."""
        return len(self._done)

    def do(self, letter, *values):
        """Do a tick and return its outputs."""
        check_letter(self._machine, letter)
        if not are_values(values, self._machine.inputs):
            raise InvalidValues(values)
        return self.do_all([(letter, values)])[0]

    def do_all(self, history):
        """Do the ticks of a list, or none if one is wrong, and return the list of their outputs."""
        check_history(self._machine, history)
        found = steps_from(self._machine, self.state, history)
        self._done.extend(list(history))
        self._states.extend([state for _, state in found])
        return [outputs for outputs, _ in found]

    def undo(self):
        """Take back the last tick that is not taken back."""
        if not self._done:
            raise NothingToUndo()
        del self._done[-1]
        del self._states[-1]

    def history(self):
        """Return the list of the ticks that are done and not taken back."""
        return list(self._done)

    def copy(self):
        """Return another Run with the same history."""
        twin = Run(self._machine)
        twin.do_all(self._done)
        return twin

    def tried(self, history):
        """Return what do_all() would return, and leave the Run as it is."""
        check_history(self._machine, history)
        return [outputs for outputs, _ in steps_from(self._machine, self.state, history)]
