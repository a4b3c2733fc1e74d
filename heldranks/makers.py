"""Made machines: lines, piles, ranked lists, and the best, the recent and the record values."""

from heldranks.errors import InvalidCount
from heldranks.machines import Machine, Row
from heldranks.terms import End, Place, kth_greatest
from heldranks.values import BOTTOM, is_integer

_MOST_ROOM = 3
_MOST_BEST = 2


def line(many):
    """Return a Machine with room for so many values, of which the one that went in first goes out first."""
    _check_many(many, _MOST_ROOM)
    rows = _store_rows(many)
    for held in range(1, many + 1):
        held_places = _places(held)
        kept = held_places[1:] + _bottoms(many - held + 1)
        rows[_mode(held), "take"] = Row(_mode(held - 1), kept, [held_places[0]])
    return _store(rows, many)


def pile(many):
    """Return a Machine with room for so many values, of which the one that went in last goes out first."""
    _check_many(many, _MOST_ROOM)
    rows = _store_rows(many)
    for held in range(1, many + 1):
        held_places = _places(held)
        kept = held_places[:-1] + _bottoms(many - held + 1)
        rows[_mode(held), "take"] = Row(_mode(held - 1), kept, [held_places[-1]])
    return _store(rows, many)


def ranked(many):
    """Return a Machine with room for so many values, of which the greatest one goes out first."""
    _check_many(many, _MOST_ROOM)
    rows = _store_rows(many)
    for held in range(many):
        rows[_mode(held), "put"] = Row(_mode(held + 1), _ranked_in(many), _bottoms(1))
    for held in range(1, many + 1):
        kept = _places(many)[1:] + _bottoms(1)
        rows[_mode(held), "take"] = Row(_mode(held - 1), kept, [Place("r0")])
    return _store(rows, many)


def best(many):
    """Return a Machine that tells so many of the greatest values of all ticks."""
    _check_many(many, _MOST_BEST)
    row = Row(_mode(0), _ranked_in(many), _ranked_in(many))
    return Machine({(_mode(0), "put"): row}, inputs=1, outputs=many, first=_mode(0), begin=[BOTTOM] * many)


def recent(many, kth):
    """Return a Machine that tells the kth greatest of so many last values."""
    _check_many(many, _MOST_ROOM)
    _check_many(kth, many)
    looked_at = [Place("x0")] + _places(many - 1)
    row = Row(_mode(0), looked_at[:-1], [kth_greatest(kth, looked_at)])
    return Machine({(_mode(0), "put"): row}, inputs=1, outputs=1, first=_mode(0), begin=[BOTTOM] * (many - 1))


def record():
    """Return a Machine that tells the greatest value since the last reset."""
    highest = Place("r0") | Place("x0")
    rows = {
        (_mode(0), "put"): Row(_mode(0), [highest], [highest]),
        (_mode(0), "reset"): Row(_mode(0), _bottoms(1), _bottoms(1))}
    return Machine(rows, inputs=1, outputs=1, first=_mode(0), begin=[BOTTOM])


def _check_many(many, most):
    """Raise InvalidCount unless many is an INTEGER from 1 to the greatest one that is allowed."""
    if not is_integer(many) or not 1 <= many <= most:
        raise InvalidCount(many)


def _mode(held):
    """Return the mode in which so many values are in."""
    return f"has{held}"


def _places(many):
    """Return the list of the first so many registers, as Terms."""
    return [Place(f"r{k}") for k in range(many)]


def _bottoms(many):
    """Return a list of so many BOTTOMs, as Terms."""
    return [End(BOTTOM) for _ in range(many)]


def _store_rows(many):
    """Return the Rows of a store that takes each value behind those that are in; takes do nothing in it."""
    rows = {}
    for held in range(many + 1):
        # Registers without a value are BOTTOM, so that no more end states are reached than needed.
        kept = _places(held) + _bottoms(many - held)
        for letter in ("put", "rest", "take"):
            rows[_mode(held), letter] = Row(_mode(held), kept, _bottoms(1))
        if held < many:
            added = _places(held) + [Place("x0")] + _bottoms(many - held - 1)
            rows[_mode(held), "put"] = Row(_mode(held + 1), added, _bottoms(1))
    return rows


def _store(rows, many):
    """Return the Machine of a store with room for so many values, in which none is at first."""
    return Machine(rows, inputs=1, outputs=1, first=_mode(0), begin=[BOTTOM] * many)


def _ranked_in(many):
    """Return the Terms of registers, the greatest first, among which the input is put at its place."""
    held = _places(many)
    above = [Place("x0")] + [place & Place("x0") for place in held]
    return [held[k] | above[k] for k in range(many)]
