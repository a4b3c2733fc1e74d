"""Tables: outputs and next states for all moves, without modes and registers."""

from heldranks.charts import check_chart, is_class
from heldranks.checks import check_end_history, check_move
from heldranks.ends import moves_by
from heldranks.errors import InvalidClass, InvalidCount, InvalidSteps, InvalidTable, TooMany
from heldranks.values import are_ends, is_count, is_list, is_name

_MOST_STATES = 5
_MOST_LETTERS = 3
_MOST_INPUTS = 2
_MOST_OUTPUTS = 2


class Table:
    """For each state and each move a step: the outputs and the next state."""

    def __init__(self, steps, *, inputs, outputs):
        if not is_count(inputs):
            raise InvalidCount(inputs)
        if not is_count(outputs) or outputs == 0:
            raise InvalidCount(outputs)
        if not is_list(steps) or not steps:
            raise InvalidSteps(steps)
        letters = _letters_of(steps[0], inputs)
        for value in steps:
            if not letters or _letters_of(value, inputs) != letters or not _has_steps(value, outputs, len(steps)):
                raise InvalidSteps(value)
        _check_limits(len(steps), len(letters), inputs, outputs)
        self._letters = letters
        self._inputs = inputs
        self._outputs = outputs
        self._moves = moves_by(letters, inputs)
        self._steps = [{move: by_move[move] for move in self._moves} for by_move in steps]

    @classmethod
    def of_chart(cls, chart):
        """Return the Table that has the classes of a chart as its states."""
        check_chart(chart)
        if len(chart) > _MOST_STATES:
            raise TooMany("classes", _MOST_STATES)
        return cls(steps_by_move(chart.moves(), chart.step_lists()), inputs=chart.inputs, outputs=chart.outputs)

    @property
    def letters(self):
        """Return the sorted list of the letters."""
        return list(self._letters)

    @property
    def inputs(self):
        """Return the number of the inputs."""
        return self._inputs

    @property
    def outputs(self):
        """Return the number of the outputs."""
        return self._outputs

    def __len__(self):
        return len(self._steps)

    def step(self, state, letter, ends):
        """Return the step of a state with a move: the outputs and the next state."""
        if not is_class(state, len(self._steps)):
            raise InvalidClass(state)
        check_move(self, letter, ends)
        return self._steps[state][letter, ends]

    def steps(self):
        """Return the list of the dicts from the moves to the steps, one for each state."""
        return [{move: by_move[move] for move in by_move} for by_move in self._steps]

    def outputs_of(self, history):
        """Return the list of the outputs for an end history."""
        check_end_history(self, history)
        found = []
        state = 0
        for letter, ends in history:
            outputs, state = self._steps[state][letter, ends]
            found.append(outputs)
        return found

    def __eq__(self, other):
        if not isinstance(other, Table) or self._steps != other._steps:
            return False
        return self._inputs == other._inputs and self._outputs == other._outputs

    def move_list(self):
        """Return the list of the moves, in order."""
        return list(self._moves)

    def step_lists(self):
        """Return the list of the steps of each state: tuples (outputs, next state), one for each move."""
        return [[by_move[move] for move in self._moves] for by_move in self._steps]


def check_table(table):
    """Raise InvalidTable for any value that is no Table."""
    if not isinstance(table, Table):
        raise InvalidTable(table)


def steps_by_move(ordered, lists):
    """Return a list of dicts from the moves to the steps, for lists of the steps of each state, one for each move."""
    return [{move: step for move, step in zip(ordered, row)} for row in lists]


def _letters_of(value, inputs):
    """Return the sorted list of the letters of a dict from all moves of some letters, an empty one for other values."""
    if not isinstance(value, dict) or not value or not all([_is_move(key, inputs) for key in value]):
        return []
    letters = sorted(set([letter for letter, _ in value]))
    # All moves are there exactly if there are so many of them.
    return letters if len(value) == len(letters) << inputs else []


def _is_move(value, inputs):
    """Tell whether any value is a tuple of a NAME and a tuple of so many ENDS."""
    if not isinstance(value, tuple) or len(value) != 2:
        return False
    return is_name(value[0]) and are_ends(value[1], inputs)


def _has_steps(by_move, outputs, many):
    """Tell whether all values of a dict are tuples of so many ENDS and a number of one of so many states."""
    return all([_is_step(by_move[move], outputs, many) for move in by_move])


def _is_step(value, outputs, many):
    """Tell whether any value is a tuple of a tuple of so many ENDS and a number of one of so many states."""
    if not isinstance(value, tuple) or len(value) != 2:
        return False
    return are_ends(value[0], outputs) and is_class(value[1], many)


def _check_limits(states, letters, inputs, outputs):
    """Raise TooMany for the first kind of which there are more than the limit."""
    numbers = (
        ("classes", states, _MOST_STATES),
        ("letters", letters, _MOST_LETTERS),
        ("inputs", inputs, _MOST_INPUTS),
        ("outputs", outputs, _MOST_OUTPUTS))
    for kind, many, limit in numbers:
        if many > limit:
            raise TooMany(kind, limit)
