"""Forgetting: behind how many ticks, or behind which letters, nothing that was before them is of effect."""

from heldranks.charts import classes_of
from heldranks.checks import are_ticks, check_letter, check_machine, check_number
from heldranks.ends import check_states, first_end_state, last_outputs, moves, state_behind
from heldranks.errors import UnknownLetter
from heldranks.values import NO_BOUND, are_ends, is_end, is_list
from heldranks.walks import are_equal, first_parted, histories_to

_MOST_TICKS = 40


def past_ticks(machine):
    """Return the least number of equal ticks behind which nothing that was before them is of effect, or NO_BOUND."""
    check_machine(machine)
    steps, _ = classes_of(machine)
    graph = _graph_of(steps)
    every = list(range(len(moves(machine))))
    apart = {pair: True for pair in graph}
    ticks = 0
    while apart:
        fewer = _leading_to(graph, apart, every)
        # A pair that is apart behind some ticks was so behind fewer of them, so from here on nothing would change.
        if len(fewer) == len(apart):
            return NO_BOUND
        apart = fewer
        ticks += 1
    return ticks


def still_apart(machine, many):
    """Return something that is still apart behind so many ticks, or None if there is nothing."""
    _check_ticks(machine, many)
    every = list(range(len(moves(machine))))
    return _told_apart(machine, [every] * many)


def is_still_apart(machine, many, value):
    """Tell whether any value is something that is still apart behind so many ticks."""
    _check_ticks(machine, many)
    check_states(machine)
    if not isinstance(value, tuple) or len(value) != 4:
        return False
    one, other, ticks, behind = value
    if not are_ticks(machine, ticks, is_end) or len(ticks) != many:
        return False
    return _is_apart(machine, one, other, ticks, behind)


def forgets(machine, letters):
    """Tell whether nothing that was before ticks with these letters is of effect behind them."""
    return remembered(machine, letters) is None


def remembered(machine, letters):
    """Return something that is remembered by a list of letters, or None if they forget."""
    _check_letters(machine, letters)
    found = _told_apart(machine, [_moves_with(machine, letter) for letter in letters])
    if found is None:
        return None
    one, other, ticks, behind = found
    return (one, other, [ends for _, ends in ticks], behind)


def is_remembered(machine, letters, value):
    """Tell whether any value is something that is remembered by a list of letters."""
    _check_letters(machine, letters)
    check_states(machine)
    if not isinstance(value, tuple) or len(value) != 4:
        return False
    one, other, chosen, behind = value
    if not is_list(chosen) or len(chosen) != len(letters):
        return False
    if not all([are_ends(ends, machine.inputs) for ends in chosen]):
        return False
    return _is_apart(machine, one, other, list(zip(letters, chosen)), behind)


def _check_ticks(machine, many):
    """Raise the errors of a machine and of a number of ticks that are looked at."""
    check_machine(machine)
    check_number(many, _MOST_TICKS + 1)


def _check_letters(machine, letters):
    """Raise the errors of a machine and of a list of its letters."""
    check_machine(machine)
    if not is_list(letters):
        raise UnknownLetter(letters)
    for letter in letters:
        check_letter(machine, letter)


def _moves_with(machine, letter):
    """Return the list of the numbers of the moves with a letter."""
    return [number for number, move in enumerate(moves(machine)) if move[0] == letter]


def _graph_of(steps):
    """Return a dict from all pairs of unlike classes, the lesser number first, to the lists of their next pairs."""
    pairs = [(one, other) for other in range(len(steps)) for one in range(other)]
    return {pair: _next_pairs(steps, pair) for pair in pairs}


def _next_pairs(steps, pair):
    """Return the list of the next pairs of a pair of classes, one for each move, the lesser number first."""
    both = [(here, there) for (_, here), (_, there) in zip(steps[pair[0]], steps[pair[1]])]
    return [(min(here, there), max(here, there)) for here, there in both]


def _leading_to(graph, apart, chosen):
    """Return a dict of True of the pairs of a graph that one of the chosen moves leads to one of these pairs."""
    return {pair: True for pair in graph if any([graph[pair][move] in apart for move in chosen])}


def _told_apart(machine, choices):
    """Return histories after which, and ticks with one of the chosen moves each behind which, outputs can be unlike.

    This is a tuple (one, other, ticks, behind), or None if there is nothing of this kind.
    """
    steps, _ = classes_of(machine)
    ordered = moves(machine)
    graph = _graph_of(steps)
    layers = [{pair: True for pair in graph}]
    for chosen in choices[::-1]:
        layers.append(_leading_to(graph, layers[-1], chosen))
    layers.reverse()
    if not layers[0]:
        return None
    pair = list(layers[0])[0]
    past = histories_to(steps, 0, ordered)
    one, other = [past[number] for number in pair]
    ticks = []
    for chosen, ahead in zip(choices, layers[1:]):
        move = [move for move in chosen if graph[pair][move] in ahead][0]
        ticks.append(ordered[move])
        pair = graph[pair][move]
    _, behind = first_parted([pair], ordered, steps, steps, are_equal)
    return (one, other, ticks, behind)


def _is_apart(machine, one, other, ticks, behind):
    """Tell whether any two values are end histories, followed by ticks, and by an end history with unlike outputs."""
    if not all([are_ticks(machine, history, is_end) for history in (one, other, behind)]) or not behind:
        return False
    first = first_end_state(machine)
    here, there = [state_behind(machine, first, [*past, *ticks]) for past in (one, other)]
    return last_outputs(machine, here, behind) != last_outputs(machine, there, behind)
