"""Charts: the classes of the reached end states of a machine."""

from heldranks.checks import check_end_history, check_machine, check_move
from heldranks.ends import first_end_state, moves_by, reached_steps
from heldranks.errors import InvalidChart, InvalidClass
from heldranks.values import are_under, is_count
from heldranks.walks import are_equal, first_parted, merged_steps


class Chart:
    """For each class and each move the outputs and the next class."""

    def __init__(self, letters, inputs, outputs, steps):
        self._letters = letters
        self._inputs = inputs
        self._outputs = outputs
        self._steps = steps
        self._moves = moves_by(letters, inputs)
        self._numbers = {move: number for number, move in enumerate(self._moves)}

    @classmethod
    def of_machine(cls, machine):
        """Return the Chart of a machine."""
        check_machine(machine)
        steps, _ = classes_of(machine)
        return cls(machine.letters, machine.inputs, machine.outputs, steps)

    @property
    def letters(self):
        """Return the sorted list of the letters."""
        return list(self._letters)

    @property
    def inputs(self):
        """Return the number of the inputs."""
        return self._inputs

    @property
    def outputs(self):
        """Return the number of the outputs."""
        return self._outputs

    def __len__(self):
        return len(self._steps)

    def moves(self):
        """Return the list of the moves, in order."""
        return list(self._moves)

    def next_class(self, number, letter, ends):
        """Return the class that follows a class with a move."""
        self._check_step(number, letter, ends)
        return self.class_behind(number, letter, ends)

    def told(self, number, letter, ends):
        """Return the tuple of the outputs of a class with a move."""
        self._check_step(number, letter, ends)
        return self.outputs_at(number, letter, ends)

    def class_after(self, history):
        """Return the class after an end history."""
        check_end_history(self, history)
        number = 0
        for letter, ends in history:
            number = self.class_behind(number, letter, ends)
        return number

    def is_at_most(self, one, other):
        """Tell whether one class is at most another one."""
        return self.above_by(one, other) is None

    def parted_by(self, one, other):
        """Return an end history with the least number of ticks that parts two classes, or None for one class."""
        return self._parted(one, other, are_equal)

    def above_by(self, one, other):
        """Return an end history with the least number of ticks by which a class is above another one, or None."""
        return self._parted(one, other, are_under)

    def __eq__(self, other):
        if not isinstance(other, Chart) or self._letters != other._letters:
            return False
        return self._inputs == other._inputs and self._outputs == other._outputs and self._steps == other._steps

    def class_behind(self, number, letter, ends):
        """Return the class that follows what surely is a class with what surely is a move."""
        return self._steps[number][self._numbers[letter, ends]][1]

    def outputs_at(self, number, letter, ends):
        """Return the outputs of what surely is a class with what surely is a move."""
        return self._steps[number][self._numbers[letter, ends]][0]

    def step_lists(self):
        """Return the list of the steps of each class: tuples (outputs, next class), one for each move."""
        return [list(row) for row in self._steps]

    def _check_step(self, number, letter, ends):
        """Raise the errors of a class, a letter and ENDS."""
        self._check_class(number)
        check_move(self, letter, ends)

    def _check_class(self, number):
        """Raise InvalidClass for any value that is no class."""
        if not is_class(number, len(self._steps)):
            raise InvalidClass(number)

    def _parted(self, one, other, is_right):
        """Return an end history with the least number of ticks whose last outputs are not right for two classes."""
        self._check_class(one)
        self._check_class(other)
        found = first_parted([(one, other)], self._moves, self._steps, self._steps, is_right)
        return None if found is None else found[1]


def check_chart(chart):
    """Raise InvalidChart for any value that is no Chart."""
    if not isinstance(chart, Chart):
        raise InvalidChart(chart)


def is_class(value, many):
    """Tell whether any value is a class, or a state, of so many."""
    return is_count(value) and value < many


def classes_of(machine):
    """Return the list of the steps of the classes of a machine, and a dict from its reached end states to them."""
    return merged_steps(reached_steps(machine), first_end_state(machine))
