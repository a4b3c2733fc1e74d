"""Nests: histories in which parts are repeated many times, followed without going through all ticks."""

from heldranks.checks import check_machine, has_tick_parts, is_tick
from heldranks.errors import InvalidNest
from heldranks.runs import first_state, tick_done
from heldranks.values import is_count, is_list, is_name, is_value

_DEEPEST = 3
_MOST_TIMES = 10 ** 18


def far(machine, nest):
    """Return the State behind a nest."""
    check_machine(machine)
    _check_nest(nest, lambda tick: is_tick(machine, tick, is_value))
    state, _ = _behind(machine, nest)
    return state


def far_outputs(machine, nest):
    """Return the outputs of the last tick of a nest, or None if it has no tick."""
    check_machine(machine)
    _check_nest(nest, lambda tick: is_tick(machine, tick, is_value))
    _, outputs = _behind(machine, nest)
    return outputs


def far_ticks(nest):
    """Return the number of ticks of a nest."""
    _check_nest(nest, _is_any_tick)
    return _ticks_in(nest)


def _check_nest(nest, is_right):
    """Raise InvalidNest unless nest is a nest whose ticks all are right."""
    if not is_list(nest) or _is_deeper(nest, _DEEPEST):
        raise InvalidNest(None)
    for position, part in enumerate(nest):
        if not _is_part(part, is_right):
            raise InvalidNest(position)


def _is_deeper(nest, most):
    """Tell whether a list is deeper than a nest may be."""
    if most == 0:
        return True
    return any([_is_deeper(part[0], most - 1) for part in nest if _is_repeated(part)])


def _is_repeated(part):
    """Tell whether any value is a tuple of a list and something else, so that it is no tick."""
    return isinstance(part, tuple) and len(part) == 2 and is_list(part[0])


def _is_part(part, is_right):
    """Tell whether any value is a right tick, or a tuple of a nest of such and a number of times."""
    if not _is_repeated(part):
        return is_right(part)
    nest, times = part
    return is_count(times) and times <= _MOST_TIMES and all([_is_part(inner, is_right) for inner in nest])


def _is_any_tick(part):
    """Tell whether any value is a tuple of a NAME and a tuple of VALUES."""
    return has_tick_parts(part, is_value) and is_name(part[0])


def _ticks_in(nest):
    """Return the number of ticks of what surely is a nest."""
    return sum([part[1] * _ticks_in(part[0]) if _is_repeated(part) else 1 for part in nest])


def _behind(machine, nest):
    """Return the State behind what surely is a nest, and the outputs of its last tick, None if it has no tick."""
    return _nest_done(machine, _with_room(nest), first_state(machine))


def _with_room(nest):
    """Return a list of ticks and of tuples (list, times, dict) for a nest; the dicts get what is made of States."""
    return [(_with_room(part[0]), part[1], {}) if _is_repeated(part) else part for part in nest]


def _nest_done(machine, parts, state):
    """Return what _behind() returns, from a State on."""
    outputs = None
    for part in parts:
        if len(part) == 3:
            state, told = _repeated(machine, part, state)
        else:
            letter, values = part
            told, state = tick_done(machine, state, letter, values)
        outputs = outputs if told is None else told
    return state, outputs


def _repeated(machine, part, state):
    """Return what _behind() returns, for a list of parts that is repeated."""
    parts, times, known = part
    reached = [(state, None)]
    met = {_key_of(state): 0}
    while len(reached) <= times:
        key = _key_of(state)
        # The same States often come again when the nest around this one is repeated.
        if key not in known:
            known[key] = _nest_done(machine, parts, state)
        reached.append(known[key])
        state, _ = known[key]
        key = _key_of(state)
        if key in met:
            # From here on the same States come again, and behind them the same outputs.
            again = met[key] + 1
            return reached[again + (times - again) % (len(reached) - again)]
        met[key] = len(reached) - 1
    return reached[times]


def _key_of(state):
    """Return a tuple that is equal for equal States."""
    return (state.mode, state.registers)
