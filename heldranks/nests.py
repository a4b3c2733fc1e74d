"""Nests: histories in which parts are repeated many times, followed without going through all ticks."""

from heldranks.checks import check_machine, has_tick_parts, is_tick
from heldranks.errors import InvalidNest
from heldranks.runs import first_state, tick_done
from heldranks.values import is_count, is_list, is_name, is_value

_DEEPEST = 3
_MOST_TIMES = 10 ** 18


def far(machine, nest):
    """Return the State behind a nest."""
    check_machine(machine)
    _check_nest(nest, lambda tick: is_tick(machine, tick, is_value))
    state, _ = _nest_done(machine, nest, first_state(machine), None)
    return state


def far_outputs(machine, nest):
    """Return the outputs of the last tick of a nest, or None if it has no tick."""
    check_machine(machine)
    _check_nest(nest, lambda tick: is_tick(machine, tick, is_value))
    _, outputs = _nest_done(machine, nest, first_state(machine), None)
    return outputs


def far_ticks(nest):
    """Return the number of ticks of a nest."""
    _check_nest(nest, _is_any_tick)
    return _ticks_in(nest)


def _check_nest(nest, is_right):
    """Raise InvalidNest unless nest is a nest whose ticks all are right."""
    if not is_list(nest) or _is_deeper(nest, _DEEPEST):
        raise InvalidNest(None)
    for position, part in enumerate(nest):
        if not _is_part(part, is_right):
            raise InvalidNest(position)


def _is_deeper(nest, most):
    """Tell whether a list is deeper than a nest may be."""
    if most == 0:
        return True
    return any([_is_deeper(part[0], most - 1) for part in nest if _is_repeated(part)])


def _is_repeated(part):
    """Tell whether any value is a tuple of a list and something else, so that it is no tick."""
    return isinstance(part, tuple) and len(part) == 2 and is_list(part[0])


def _is_part(part, is_right):
    """Tell whether any value is a right tick, or a tuple of a nest of such and a number of times."""
    if not _is_repeated(part):
        return is_right(part)
    nest, times = part
    return is_count(times) and times <= _MOST_TIMES and all([_is_part(inner, is_right) for inner in nest])


def _is_any_tick(part):
    """Tell whether any value is a tuple of a NAME and a tuple of VALUES."""
    return has_tick_parts(part, is_value) and is_name(part[0])


def _ticks_in(nest):
    """Return the number of ticks of what surely is a nest."""
    return sum([part[1] * _ticks_in(part[0]) if _is_repeated(part) else 1 for part in nest])


def _nest_done(machine, nest, state, outputs):
    """Return the State behind a nest and the outputs of its last tick; those that are passed if it has no tick."""
    for part in nest:
        if _is_repeated(part):
            state, outputs = _repeated(machine, part, state, outputs)
        else:
            letter, values = part
            outputs, state = tick_done(machine, state, letter, values)
    return state, outputs


def _repeated(machine, part, state, outputs):
    """Return the State behind a nest that is repeated, and the outputs of the last tick."""
    nest, times = part
    reached = [(state, outputs)]
    known = {_key_of(state): 0}
    while len(reached) <= times:
        state, outputs = _nest_done(machine, nest, state, outputs)
        reached.append((state, outputs))
        key = _key_of(state)
        if key in known:
            # From here on the same States come again, and behind them the same outputs.
            again = known[key] + 1
            return reached[again + (times - again) % (len(reached) - again)]
        known[key] = len(reached) - 1
    return reached[times]


def _key_of(state):
    """Return a tuple that is equal for equal States."""
    return (state.mode, state.registers)
