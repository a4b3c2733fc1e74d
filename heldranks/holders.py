"""Holders: what holds just the needed values at every moment."""

from heldranks.charts import Chart, check_chart
from heldranks.checks import check_history, check_letter
from heldranks.errors import InvalidValues
from heldranks.values import BOTTOM, TOP, are_values, end_at, integers_in, is_integer


class Holder:
    """A row of classes and the needed values, which are all that is held."""

    def __init__(self, chart):
        check_chart(chart)
        self._chart = chart
        self._cells = ()
        self._row = (0,)

    @classmethod
    def of_machine(cls, machine):
        """Return the Holder of the chart of a machine."""
        return cls(Chart.of_machine(machine))

    @property
    def chart(self):
        """Return the chart."""
        return self._chart

    @property
    def cells(self):
        """Return the descending tuple of the needed values."""
        return self._cells

    @property
    def row(self):
        """Return the tuple of the classes."""
        return self._row

    def do(self, letter, *values):
        """Do a tick and return its outputs."""
        check_letter(self._chart, letter)
        if not are_values(values, self._chart.inputs):
            raise InvalidValues(values)
        return self._tick(letter, values)

    def do_all(self, history):
        """Do the ticks of a list, or none if one is wrong, and return the list of their outputs."""
        check_history(self._chart, history)
        found = []
        for letter, values in history:
            found.append(self._tick(letter, values))
        return found

    def reset(self):
        """Make the holder as it was before the first tick."""
        self._cells = ()
        self._row = (0,)

    def copy(self):
        """Return another Holder with the same cells and row."""
        twin = Holder(self._chart)
        twin._cells = self._cells
        twin._row = self._row
        return twin

    def __eq__(self, other):
        if not isinstance(other, Holder) or self._chart != other._chart:
            return False
        return self._cells == other._cells and self._row == other._row

    def __len__(self):
        return len(self._cells)

    def __contains__(self, value):
        return is_integer(value) and value in self._cells

    def _tick(self, letter, values):
        """Do a tick that surely is right and return its outputs."""
        outputs, self._cells, self._row = held_tick(self._chart, self._cells, self._row, letter, values)
        return outputs


def held_tick(chart, cells, row, letter, values):
    """Return the outputs of a tick that surely is right for some cells and a row, and the new cells and the new row."""
    cuts = integers_in(cells + values)
    levels = [cuts[0] + 1] + cuts if cuts else [0]
    told, classes = [], []
    for level in levels:
        # The stretch whose greatest level this is; above all cuts, and without cuts, one level stands for all.
        number = row[len([cell for cell in cells if cell >= level])]
        ends = tuple([end_at(value, level) for value in values])
        told.append(chart.outputs_at(number, letter, ends))
        classes.append(chart.class_behind(number, letter, ends))
    outputs = tuple([_output_of([step[k] for step in told], levels) for k in range(chart.outputs)])
    changes = [k for k in range(1, len(levels)) if classes[k] != classes[k - 1]]
    return outputs, tuple([levels[k] for k in changes]), tuple([classes[k] for k in [0] + changes])


def _output_of(ends, levels):
    """Return the output that has these ENDS at the levels of the stretches, from above."""
    if TOP not in ends:
        return BOTTOM
    return TOP if ends[0] == TOP else levels[ends.index(TOP)]
