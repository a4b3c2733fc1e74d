"""Prices of outputs, of inputs and of their movements, and what histories are worth."""

from heldranks.checks import check_end_history, check_machine, check_ticks
from heldranks.errors import InvalidCount, InvalidPrices, UnknownLetter
from heldranks.runs import outputs_of
from heldranks.values import BOTTOM, TOP, is_count, is_integer, is_name


class Prices:
    """For each letter a price for each output and input, and for each of these a price for its movement."""

    def __init__(self, outputs, inputs, *, output_moves=(), input_moves=()):
        if not _are_prices(outputs):
            raise InvalidPrices(outputs)
        if not _are_prices(inputs) or sorted(inputs) != sorted(outputs):
            raise InvalidPrices(inputs)
        self._outputs = {letter: outputs[letter] for letter in sorted(outputs)}
        self._inputs = {letter: inputs[letter] for letter in sorted(inputs)}
        self._output_moves = _checked_moves(output_moves, _width(outputs))
        self._input_moves = _checked_moves(input_moves, _width(inputs))

    def of_outputs(self, letter):
        """Return the tuple of the prices of the outputs at a letter."""
        self._check_letter(letter)
        return self._outputs[letter]

    def of_inputs(self, letter):
        """Return the tuple of the prices of the inputs at a letter."""
        self._check_letter(letter)
        return self._inputs[letter]

    def _check_letter(self, letter):
        """Raise UnknownLetter for any value that is no letter of these prices."""
        if letter not in list(self._outputs):
            raise UnknownLetter(letter)

    @property
    def output_moves(self):
        """Return the tuple of the prices of the movements of the outputs."""
        return self._output_moves

    @property
    def input_moves(self):
        """Return the tuple of the prices of the movements of the inputs."""
        return self._input_moves

    def fits(self, machine):
        """Tell whether the letters and the numbers of outputs and inputs are those of a machine."""
        check_machine(machine)
        if list(self._outputs) != machine.letters:
            return False
        return len(self._output_moves) == machine.outputs and len(self._input_moves) == machine.inputs

    @classmethod
    def plain(cls, machine, outputs, inputs):
        """Return the Prices that are the same for all letters of a machine."""
        check_machine(machine)
        if not are_integers(outputs) or len(outputs) != machine.outputs:
            raise InvalidPrices(outputs)
        if not are_integers(inputs) or len(inputs) != machine.inputs:
            raise InvalidPrices(inputs)
        by_outputs = {letter: outputs for letter in machine.letters}
        by_inputs = {letter: inputs for letter in machine.letters}
        return cls(by_outputs, by_inputs)

    def __eq__(self, other):
        if not isinstance(other, Prices) or self._outputs != other._outputs or self._inputs != other._inputs:
            return False
        return self._output_moves == other._output_moves and self._input_moves == other._input_moves


def worth(machine, prices, most, history):
    """Return the worth of a history with values from 0 to most, BOTTOM counting as 0 and TOP as most."""
    check_fitting(machine, prices)
    if not is_integer(most) or most < 1:
        raise InvalidCount(most)
    check_ticks(machine, history, lambda value: is_count(value) and value <= most)
    return _sum_over(machine, prices, most, history)


def end_worth(machine, prices, history):
    """Return the worth of an end history, BOTTOM counting as 0 and TOP as 1."""
    check_fitting(machine, prices)
    check_end_history(machine, history)
    return _sum_over(machine, prices, 1, history)


def check_fitting(machine, prices):
    """Raise InvalidMachine for what is no Machine, and InvalidPrices for what are no Prices that fit it."""
    check_machine(machine)
    if not isinstance(prices, Prices) or not prices.fits(machine):
        raise InvalidPrices(prices)


def tick_worth(prices, most, letter, before, now):
    """Return what a tick is worth, for the tuple (inputs, outputs) of the tick before, () at first, and of this one."""
    inputs, outputs = _as_numbers(now, most)
    total = _times(prices.of_outputs(letter), outputs) + _times(prices.of_inputs(letter), inputs)
    if before:
        last_inputs, last_outputs = _as_numbers(before, most)
        total += _times(prices.output_moves, _movements(last_outputs, outputs))
        total += _times(prices.input_moves, _movements(last_inputs, inputs))
    return total


def are_integers(value):
    """Tell whether any value is a tuple of INTEGERS."""
    return isinstance(value, tuple) and all([is_integer(price) for price in value])


def _sum_over(machine, prices, most, history):
    """Return the sum of what all ticks are worth."""
    total = 0
    before = ()
    for tick, outputs in zip(history, outputs_of(machine, history)):
        letter, values = tick
        total += tick_worth(prices, most, letter, before, (values, outputs))
        before = (values, outputs)
    return total


def _as_numbers(both, most):
    """Return the list of two lists of what the VALUES of two tuples count as."""
    return [[_as_number(value, most) for value in values] for values in both]


def _as_number(value, most):
    """Return what a VALUE counts as: BOTTOM as 0, TOP as the greatest number."""
    if value == BOTTOM:
        return 0
    return most if value == TOP else value


def _times(prices, numbers):
    """Return the sum of the prices times the numbers."""
    return sum([price * number for price, number in zip(prices, numbers)])


def _movements(before, now):
    """Return the list of the absolute differences of two lists of numbers."""
    return [abs(number - last) for last, number in zip(before, now)]


def _are_prices(value):
    """Tell whether any value is a dict from one letter or more to tuples of INTEGERS of equal lengths."""
    if not isinstance(value, dict) or not value:
        return False
    if not all([is_name(letter) and are_integers(value[letter]) for letter in value]):
        return False
    return all([len(value[letter]) == _width(value) for letter in value])


def _width(prices):
    """Return the length of the first tuple of a dict."""
    return len(list(prices.values())[0])


def _checked_moves(prices, many):
    """Return a tuple of so many prices of movements, 0 each for an empty tuple; InvalidPrices for wrong ones."""
    if not are_integers(prices) or len(prices) not in (0, many):
        raise InvalidPrices(prices)
    return prices if prices else (0,) * many
