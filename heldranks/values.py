"""The ENDS and the values between them: which is the greater one, and what they are at a level."""

from heldranks.errors import InvalidInteger, InvalidValue, InvalidValues

BOTTOM = "bottom"
TOP = "top"
NO_BOUND = "no bound"

_SMALL_LETTERS = "abcdefghijklmnopqrstuvwxyz"
_DIGITS = "0123456789"
_LONGEST_NAME = 8


def is_list(value):
    """Tell whether any value is taken as a list: a tuple is accepted as well."""
    return isinstance(value, (list, tuple))


def is_integer(value):
    """Tell whether any value is an INTEGER: a bool is none."""
    return isinstance(value, int) and not isinstance(value, bool)


def is_count(value):
    """Tell whether any value is a COUNT."""
    return is_integer(value) and value >= 0


def is_name(value):
    """Tell whether any value is a NAME."""
    if not isinstance(value, str) or not 1 <= len(value) <= _LONGEST_NAME:
        return False
    return value[0] in _SMALL_LETTERS and all([sign in _SMALL_LETTERS or sign in _DIGITS for sign in value])


def is_end(value):
    """Tell whether any value is an END."""
    return isinstance(value, str) and value in (BOTTOM, TOP)


def is_value(value):
    """Tell whether any value is a VALUE: an INTEGER or an END."""
    return is_integer(value) or is_end(value)


def are_values(values, many):
    """Tell whether any value is a tuple of so many VALUES."""
    return isinstance(values, tuple) and len(values) == many and all([is_value(value) for value in values])


def are_ends(values, many):
    """Tell whether any value is a tuple of so many ENDS."""
    return isinstance(values, tuple) and len(values) == many and all([is_end(value) for value in values])


def are_under(one, other):
    """Tell whether no END of a tuple is TOP where that of another tuple is BOTTOM."""
    return not any([low == TOP and high == BOTTOM for low, high in zip(one, other)])


def tuples_of(values, many):
    """Return the list of all tuples of so many of these values, in their order."""
    found = [()]
    for _ in range(many):
        found = [(*chosen, value) for chosen in found for value in values]
    return found


def all_ends(many):
    """Return the list of all tuples of so many ENDS, in order."""
    return tuples_of((BOTTOM, TOP), many)


def rank(value):
    """Return a tuple by which VALUES are compared as Python compares tuples."""
    if value == BOTTOM:
        return (0, 0)
    if value == TOP:
        return (2, 0)
    return (1, value)


def least(values):
    """Return the least one of a list that surely has VALUES only, TOP if it is empty."""
    return min(values, key=rank, default=TOP)


def greatest(values):
    """Return the greatest one of a list that surely has VALUES only, BOTTOM if it is empty."""
    return max(values, key=rank, default=BOTTOM)


def end_at(value, level):
    """Return the END that something which surely is a VALUE is at a level."""
    return TOP if rank(value) >= (1, level) else BOTTOM


def integers_in(values):
    """Return the descending list of the different INTEGERS in a list that surely has VALUES only."""
    found = {value for value in values if is_integer(value)}
    return sorted(found, reverse=True)


def _check_values(values):
    """Raise InvalidValue for the first one that is no VALUE."""
    for value in values:
        if not is_value(value):
            raise InvalidValue(value)


def integer_in(word):
    """Return the INTEGER that a word stands for, or None if it stands for none.

    A word has decimal digits without unnecessary zeros, and a minus in front of numbers below 0.
    """
    digits = word.removeprefix("-")
    if not digits or not all([sign in _DIGITS for sign in digits]):
        return None
    if digits[0] == "0" and word != "0":
        return None
    found = 0
    for sign in digits:
        found = 10 * found + _DIGITS.index(sign)
    return found if digits == word else -found


def value_in_word(word):
    """Return the VALUE that a word stands for, or None if it stands for none."""
    return word if is_end(word) else integer_in(word)


def is_at_least(one, other):
    """Tell whether the first VALUE is not less than the second one."""
    _check_values((one, other))
    return rank(one) >= rank(other)


def lesser_of(*values):
    """Return the least one of some VALUES, TOP if there is none."""
    _check_values(values)
    return least(values)


def greater_of(*values):
    """Return the greatest one of some VALUES, BOTTOM if there is none."""
    _check_values(values)
    return greatest(values)


def at_level(value, level):
    """Return TOP if a VALUE is at least the level, and BOTTOM otherwise."""
    _check_values((value,))
    if not is_integer(level):
        raise InvalidInteger(level)
    return end_at(value, level)


def levels_of(values):
    """Return the descending list of the different INTEGERS among a list of VALUES."""
    if not is_list(values) or not all([is_value(value) for value in values]):
        raise InvalidValues(values)
    return integers_in(values)
