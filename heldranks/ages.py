"""Ages: how many ticks after a value was put in it can still come out."""

from heldranks.checks import are_ticks, check_letter, check_machine, check_number
from heldranks.ends import check_states, first_end_state, is_end_state, last_outputs, moves, reached_steps
from heldranks.ends import state_behind, steps_behind
from heldranks.errors import InvalidCount
from heldranks.flips import flip_pair, flips_of, tells_at_once, with_value
from heldranks.runs import outputs_of
from heldranks.values import BOTTOM, NO_BOUND, TOP, are_ends, is_count, is_end, is_integer, is_value
from heldranks.walks import are_equal, first_parted, histories_to, is_any, same_doubles, walked, way_to

MOST_AGE = 40
_PUT_IN = 1


def age_of(machine, letter, number):
    """Return the age of an input of a letter: a COUNT, None or NO_BOUND."""
    check_input(machine, letter, number)
    return _age_by(machine, reached_steps(machine), letter, number)


def greatest_age(machine):
    """Return the greatest age of all inputs of all letters, NO_BOUND if one has no bound, None if all are None."""
    check_machine(machine)
    steps = reached_steps(machine)
    pairs = [(letter, number) for letter in machine.letters for number in range(machine.inputs)]
    ages = [_age_by(machine, steps, letter, number) for letter, number in pairs]
    if NO_BOUND in ages:
        return NO_BOUND
    return max([age for age in ages if age is not None], default=None)


def memory(machine):
    """Return the least number of last ticks whose values are of effect, or NO_BOUND."""
    age = greatest_age(machine)
    return 0 if age is None else age


def age_history(machine, letter, number, age):
    """Return a history in which an INTEGER comes out with an age, where it is put in, and at which output, or None."""
    check_input(machine, letter, number)
    _check_age(age)
    steps = reached_steps(machine)
    flips = flips_of(steps, moves(machine), letter, number)
    graph = _graph_of(steps, _came_from(steps, moves(machine), flips))
    return _told_by(machine, flips, graph, _layers_of(graph, age), number)


def late_age_history(machine, letter, number, least):
    """Return what age_history() returns, for some age that is at least so many, or None if there is none."""
    age = age_of(machine, letter, number)
    if age is None or (age != NO_BOUND and age < least):
        return None
    steps = reached_steps(machine)
    flips = flips_of(steps, moves(machine), letter, number)
    graph = _graph_of(steps, _came_from(steps, moves(machine), flips))
    layers = _layers_of(graph, least)
    found = _told_by(machine, flips, graph, layers, number)
    # Not every age below the greatest one needs to be possible.
    while found is None:
        layers.append(_layer_behind(graph, layers))
        found = _told_by(machine, flips, graph, layers, number)
    return found


def is_age_history(machine, letter, number, age, value):
    """Tell whether any value is a tuple as age_history() returns it."""
    check_input(machine, letter, number)
    _check_age(age)
    check_states(machine)
    return age_in(machine, letter, number, value) == age


def age_in(machine, letter, number, value):
    """Return the age that any value tells as a tuple of age_history() does, or None if it is no such tuple."""
    if not isinstance(value, tuple) or len(value) != 3:
        return None
    history, tick, output = value
    if not are_ticks(machine, history, is_value) or not is_count(tick) or not is_count(output):
        return None
    if tick >= len(history) or output >= machine.outputs or history[tick][0] != letter:
        return None
    put_in = history[tick][1][number]
    if not is_integer(put_in) or len([True for _, values in history for given in values if given == put_in]) != 1:
        return None
    return len(history) - 1 - tick if outputs_of(machine, history)[-1][output] == put_in else None


def age_paper(machine, letter, number):
    """Return an age paper for the age of an input of a letter, or None if the age has no bound."""
    check_input(machine, letter, number)
    steps, ordered = reached_steps(machine), moves(machine)
    graph = _graph_of(steps, _came_from(steps, ordered, flips_of(steps, ordered, letter, number)))
    ranks = _ranks_of(graph)
    return {pair: ranks[pair] for pair in sorted(ranks)} if len(ranks) == len(graph) else None


def is_age_paper(machine, letter, number, most, value):
    """Tell whether any value is an age paper for a COUNT or None."""
    check_input(machine, letter, number)
    if most is not None and not is_count(most):
        raise InvalidCount(most)
    steps = reached_steps(machine)
    if not isinstance(value, dict) or not all([_is_rank(machine, value, pair) for pair in value]):
        return False
    for flip in flips_of(steps, moves(machine), letter, number):
        if most is None and tells_at_once(steps, flip):
            return False
        if not _is_ranked(value, flip_pair(steps, flip), 0 if most is None else most):
            return False
    graph = _graph_of(steps_behind(machine, [state for pair in value for state in pair]), value)
    return all([_is_right(value, pair, edge) for pair in graph for edge in graph[pair]])


def endless_age(machine, letter, number):
    """Return an endless age of an input of a letter, or None if its age has a bound or is None."""
    check_input(machine, letter, number)
    steps, ordered = reached_steps(machine), moves(machine)
    flips = flips_of(steps, ordered, letter, number)
    came = _came_from(steps, ordered, flips)
    graph = _graph_of(steps, came)
    ranks = _ranks_of(graph)
    endless = [pair for pair in graph if pair not in ranks]
    if not endless:
        return None
    start, way = way_to(came, endless[0])
    flip = [flip for flip in flips if flip_pair(steps, flip) == start][0]
    past = histories_to(steps, first_end_state(machine), ordered)[flip[0]]
    turning, along, around = _turn_from(graph, ranks, endless[0])
    ahead = [ordered[move] for move, _ in way] + [ordered[move] for move in along]
    _, behind = first_parted([turning], ordered, steps, steps, are_equal)
    return (past, ordered[flip[1]][1], ahead, [ordered[move] for move in around], behind)


def is_endless_age(machine, letter, number, value):
    """Tell whether any value is an endless age of an input of a letter."""
    check_input(machine, letter, number)
    check_states(machine)
    if not isinstance(value, tuple) or len(value) != 5:
        return False
    past, ends, ahead, around, behind = value
    if not all([are_ticks(machine, history, is_end) for history in (past, ahead, around, behind)]):
        return False
    if not are_ends(ends, machine.inputs) or not around or not behind:
        return False
    before = state_behind(machine, first_end_state(machine), past)
    both = [with_value((letter, ends), number, end) for end in (TOP, BOTTOM)]
    one, other = [state_behind(machine, before, [move, *ahead]) for move in both]
    if state_behind(machine, one, around) != one or state_behind(machine, other, around) != other:
        return False
    return last_outputs(machine, one, behind) != last_outputs(machine, other, behind)


def check_input(machine, letter, number):
    """Raise the errors of a machine, a letter and the number of an input."""
    check_machine(machine)
    check_letter(machine, letter)
    check_number(number, machine.inputs)


def _check_age(age):
    """Raise InvalidCount unless an age is a COUNT that is looked for."""
    check_number(age, MOST_AGE + 1)


def _age_by(machine, steps, letter, number):
    """Return the age of an input of a letter, by the steps of the reached end states."""
    ordered = moves(machine)
    flips = flips_of(steps, ordered, letter, number)
    graph = _graph_of(steps, _came_from(steps, ordered, flips))
    ranks = _ranks_of(graph)
    if len(ranks) < len(graph):
        return NO_BOUND
    most = max(list(ranks.values()), default=0)
    if most > 0:
        return most
    return 0 if any([tells_at_once(steps, flip) for flip in flips]) else None


def _came_from(steps, ordered, flips):
    """Return how all pairs are met that the flips lead to."""
    starts = [flip_pair(steps, flip) for flip in flips]
    came, _ = walked(starts, same_doubles(len(ordered)), steps, steps, is_any)
    return came


def _graph_of(steps, pairs):
    """Return a dict from those pairs that have unlike states to their edges, one for each move.

    An edge is a tuple of whether both outputs are unlike, and the pair of the next states. Pairs of equal states lead
    to such pairs only, and never have unlike outputs.
    """
    return {pair: _edges_of(steps, pair) for pair in pairs if pair[0] != pair[1]}


def _edges_of(steps, pair):
    """Return the list of the edges of a pair."""
    both = [(here, there) for here, there in zip(steps[pair[0]], steps[pair[1]])]
    return [(here[0] != there[0], (here[1], there[1])) for here, there in both]


def _ranks_of(graph):
    """Return a dict from pairs to the greatest number of ticks behind them at the last of which outputs are unlike.

    The number is 0 if they never are. A pair is left out if there is no greatest number.
    """
    before = {pair: [] for pair in graph}
    for pair in graph:
        for _, behind in graph[pair]:
            if behind in graph:
                before[behind].append(pair)
    telling = _telling_pairs(graph, before)
    ranks = {pair: 0 for pair in graph if pair not in telling}
    waited_for = {pair: len([True for _, behind in graph[pair] if behind in telling]) for pair in telling}
    free = [pair for pair in telling if waited_for[pair] == 0]
    at = 0
    # A pair gets its rank when all telling pairs to which it leads have theirs, so those on cycles get none.
    while at < len(free):
        pair = free[at]
        ranks[pair] = 1 + max([ranks[behind] for _, behind in graph[pair] if behind in telling], default=0)
        for earlier in before[pair]:
            waited_for[earlier] -= 1
            if waited_for[earlier] == 0:
                free.append(earlier)
        at += 1
    return ranks


def _telling_pairs(graph, before):
    """Return a dict of True of the pairs from which unlike outputs can still come."""
    found = {}
    waiting = [pair for pair in graph if any([unlike for unlike, _ in graph[pair]])]
    at = 0
    while at < len(waiting):
        if waiting[at] not in found:
            found[waiting[at]] = True
            waiting.extend(before[waiting[at]])
        at += 1
    return found


def _told_by(machine, flips, graph, layers, number):
    """Return a history, where an INTEGER is put in there, and at which output it comes out by the layers, or None."""
    steps, ordered = reached_steps(machine), moves(machine)
    for flip in flips:
        pair = flip_pair(steps, flip)
        if (len(layers) == 1 and tells_at_once(steps, flip)) or pair in layers[-1]:
            past = histories_to(steps, first_end_state(machine), ordered)[flip[0]]
            put_in = with_value(ordered[flip[1]], number, _PUT_IN)
            history = past + [put_in] + _way_by(graph, layers, ordered, pair)
            return (history, len(past), outputs_of(machine, history)[-1].index(_PUT_IN))
    return None


def _layers_of(graph, age):
    """Return a list of dicts of True; the one at k has the pairs from which outputs can be unlike at the k-th tick.

    The one at 0 is empty: whether outputs are unlike at the tick of a flip is not asked of its pair.
    """
    layers = [{}]
    for _ in range(age):
        layers.append(_layer_behind(graph, layers))
    return layers


def _layer_behind(graph, layers):
    """Return the dict of the layer that follows some layers."""
    ticks = len(layers)
    return {pair: True for pair in graph if any([_leads_on(layers, edge, ticks) for edge in graph[pair]])}


def _leads_on(layers, edge, ticks):
    """Tell whether outputs can be unlike at the last one of so many ticks, the first one being this edge."""
    unlike, behind = edge
    return unlike if ticks == 1 else behind in layers[ticks - 1]


def _way_by(graph, layers, ordered, pair):
    """Return an end history with a tick for each layer, at the last of which outputs are unlike behind a pair."""
    way = []
    for ticks in range(len(layers) - 1, 0, -1):
        move = [move for move, edge in enumerate(graph[pair]) if _leads_on(layers, edge, ticks)][0]
        way.append(ordered[move])
        pair = graph[pair][move][1]
    return way


def _turn_from(graph, ranks, pair):
    """Return a pair without a rank that leads back to itself, the moves from a given one to it, and those back."""
    met = {}
    way = []
    while pair not in met:
        met[pair] = len(way)
        move = [move for move, edge in enumerate(graph[pair]) if edge[1] in graph and edge[1] not in ranks][0]
        way.append(move)
        pair = graph[pair][move][1]
    return pair, way[:met[pair]], way[met[pair]:]


def _is_rank(machine, paper, pair):
    """Tell whether a key of a dict is a tuple of two end states, and its value a COUNT."""
    if not isinstance(pair, tuple) or len(pair) != 2 or not all([is_end_state(machine, state) for state in pair]):
        return False
    return is_count(paper[pair])


def _is_ranked(paper, pair, most):
    """Tell whether a pair has two equal states, or a number of at most so many in a paper."""
    return pair[0] == pair[1] or (pair in paper and paper[pair] <= most)


def _is_right(paper, pair, edge):
    """Tell whether an edge of a pair is as an age paper has to have it."""
    unlike, behind = edge
    if unlike and paper[pair] == 0:
        return False
    return _is_ranked(paper, behind, max(paper[pair] - 1, 0))
