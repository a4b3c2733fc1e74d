"""Flips: one input of a letter is TOP on one side and BOTTOM on the other."""

from heldranks.values import BOTTOM, TOP


def flips_of(steps, ordered, letter, number):
    """Return the list of the flips of an input of a letter, for the steps of the reached end states by their moves.

    A flip is a tuple of an end state, the number of the move with TOP and the number of the move with BOTTOM.
    """
    found = []
    for state in steps:
        for high, move in enumerate(ordered):
            if move[0] == letter and move[1][number] == TOP:
                found.append((state, high, ordered.index(with_value(move, number, BOTTOM))))
    return found


def flip_pair(steps, flip):
    """Return the pair of a flip: the tuple of the two next states."""
    state, high, low = flip
    return (steps[state][high][1], steps[state][low][1])


def tells_at_once(steps, flip):
    """Tell whether a flip has unlike outputs at its own tick."""
    state, high, low = flip
    return steps[state][high][0] != steps[state][low][0]


def with_value(tick, number, value):
    """Return a tick in which an input has another value."""
    letter, values = tick
    return (letter, values[:number] + (value,) + values[number + 1:])
