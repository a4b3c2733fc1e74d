"""Machines: modes, letters and registers, and what is computed at each tick."""

from heldranks.errors import InvalidCount, InvalidEnds, InvalidName, InvalidRows, InvalidTerms
from heldranks.errors import TooMany, UnknownLetter, UnknownMode, WrongRow
from heldranks.terms import Term, places_of
from heldranks.values import all_ends, is_count, is_end, is_list, is_name


class Row:
    """What is done in a mode at a letter."""

    def __init__(self, mode, registers, outputs):
        if not is_name(mode):
            raise InvalidName(mode)
        for terms in (registers, outputs):
            if not is_list(terms) or not all([isinstance(term, Term) for term in terms]):
                raise InvalidTerms(terms)
        self._mode = mode
        self._registers = tuple(registers)
        self._outputs = tuple(outputs)

    @property
    def mode(self):
        """Return the mode that follows."""
        return self._mode

    @property
    def registers(self):
        """Return the tuple of the Terms for the registers."""
        return self._registers

    @property
    def outputs(self):
        """Return the tuple of the Terms for the outputs."""
        return self._outputs

    def __eq__(self, other):
        if not isinstance(other, Row) or self._mode != other._mode:
            return False
        return self._registers == other._registers and self._outputs == other._outputs


def row_done(row, registers, values):
    """Return the outputs and the new registers, for the tuples of the registers before a tick and of its values."""
    given = dict(zip(places_of(len(registers), len(values)), registers + values))
    outputs = tuple([term.value_in(given) for term in row.outputs])
    return outputs, tuple([term.value_in(given) for term in row.registers])


def _is_pair(value):
    """Tell whether any value is a tuple (mode, letter) of NAMES."""
    return isinstance(value, tuple) and len(value) == 2 and is_name(value[0]) and is_name(value[1])


def _are_rows(rows):
    """Tell whether any value is a dict with one Row or more by tuples (mode, letter)."""
    if not isinstance(rows, dict) or not rows:
        return False
    return all([_is_pair(pair) and isinstance(rows[pair], Row) for pair in rows])


class Machine:
    """Modes, letters and registers, with a Row for each mode and each letter."""

    MOST_MODES = 12
    MOST_LETTERS = 3
    MOST_REGISTERS = 6
    MOST_INPUTS = 2
    MOST_OUTPUTS = 2

    def __init__(self, rows, *, inputs, outputs, first, begin=()):
        if not _are_rows(rows):
            raise InvalidRows(rows)
        if not is_count(inputs):
            raise InvalidCount(inputs)
        if not is_count(outputs) or outputs == 0:
            raise InvalidCount(outputs)
        self._modes = sorted(set([mode for mode, _ in rows]))
        self._letters = sorted(set([letter for _, letter in rows]))
        if first not in self._modes:
            raise UnknownMode(first)
        if not is_list(begin) or not all([is_end(end) for end in begin]):
            raise InvalidEnds(begin)
        self._rows = {pair: rows[pair] for pair in sorted(rows)}
        self._inputs = inputs
        self._outputs = outputs
        self._first = first
        self._begin = tuple(begin)
        self._check_rows()
        self._check_limits()
        self._end_steps = {}

    def _check_rows(self):
        """Raise WrongRow with the first tuple (mode, letter) that has no row that fits."""
        for mode in self._modes:
            for letter in self._letters:
                if (mode, letter) not in self._rows or not self._has_right(self._rows[mode, letter]):
                    raise WrongRow((mode, letter))

    def _has_right(self, row):
        """Tell whether a Row fits the numbers, the modes and the places of this machine."""
        if row.mode not in self._modes:
            return False
        if len(row.registers) != len(self._begin) or len(row.outputs) != self._outputs:
            return False
        owned = places_of(len(self._begin), self._inputs)
        return all([name in owned for term in row.registers + row.outputs for name in term.places()])

    def _check_limits(self):
        """Raise TooMany for the first kind of which there are more than the limit."""
        numbers = (
            ("modes", len(self._modes), self.MOST_MODES),
            ("letters", len(self._letters), self.MOST_LETTERS),
            ("registers", len(self._begin), self.MOST_REGISTERS),
            ("inputs", self._inputs, self.MOST_INPUTS),
            ("outputs", self._outputs, self.MOST_OUTPUTS))
        for kind, many, limit in numbers:
            if many > limit:
                raise TooMany(kind, limit)

    @property
    def modes(self):
        """Return the sorted list of the modes."""
        return list(self._modes)

    @property
    def letters(self):
        """Return the sorted list of the letters."""
        return list(self._letters)

    @property
    def registers(self):
        """Return the number of the registers."""
        return len(self._begin)

    @property
    def inputs(self):
        """Return the number of the inputs."""
        return self._inputs

    @property
    def outputs(self):
        """Return the number of the outputs."""
        return self._outputs

    @property
    def first(self):
        """Return the first mode."""
        return self._first

    @property
    def begin(self):
        """Return the tuple of the ENDS with which the registers begin."""
        return self._begin

    def row_at(self, mode, letter):
        """Return the Row of a mode and a letter."""
        if mode not in self._modes:
            raise UnknownMode(mode)
        if letter not in self._letters:
            raise UnknownLetter(letter)
        return self._rows[mode, letter]

    def rows(self):
        """Return the dict of the Rows by tuples (mode, letter)."""
        return {pair: self._rows[pair] for pair in self._rows}

    def end_steps(self, state):
        """Return the steps of what surely is an end state: tuples (outputs, next end state), one for each move."""
        # Most questions go through the same steps again and again, so they are worked out only once.
        if state not in self._end_steps:
            self._end_steps[state] = self._steps_at(state)
        return list(self._end_steps[state])

    def _steps_at(self, state):
        """Work out what end_steps() returns."""
        mode, registers = state
        found = []
        for letter in self._letters:
            row = self._rows[mode, letter]
            for ends in all_ends(self._inputs):
                outputs, kept = row_done(row, registers, ends)
                found.append((outputs, (row.mode, kept)))
        return found
