"""Factors: how far outputs can move where inputs move, and how much one wrong value can change."""

from heldranks.charts import classes_of
from heldranks.checks import check_machine, check_number
from heldranks.ends import moves
from heldranks.errors import InvalidPrices
from heldranks.flips import flip_pair, flips_of
from heldranks.nodes import graph_by, reached_nodes
from heldranks.prices import are_integers
from heldranks.rounds import components, greatest_quotient
from heldranks.values import NO_BOUND
from heldranks.walks import histories_to, is_any, same_doubles, walked
from heldranks.worth import round_of

_INPUTS = 0
_OUTPUTS = 1


def factor(machine, output, number):
    """Return the least Ratio by which an output moves at most as far as an input, or None if there is none."""
    tops, bottoms = _movement_graphs(machine, output, number)
    quotient, _ = greatest_quotient(tops, bottoms)
    return quotient


def factor_round(machine, output, number):
    """Return a round that shows that the factor of an output by an input is not less, or None if the factor is 0."""
    tops, bottoms = _movement_graphs(machine, output, number)
    _, cycle = greatest_quotient(tops, bottoms)
    return None if cycle is None else round_of(machine, tops, cycle)


def wrong_value(machine, weights):
    """Return the greatest difference of two end histories that differ in one value, or NO_BOUND; 0 without inputs."""
    found = _wrong_starts(machine, weights)
    if found is None:
        return NO_BOUND
    starts, _, _ = found
    return max([gain for gain, _, _ in starts], default=0)


def wrong_histories(machine, weights):
    """Return two end histories that differ in one value and have the greatest difference, or None."""
    found = _wrong_starts(machine, weights)
    if found is None or not found[0]:
        return None
    starts, graph, gains = found
    ordered = moves(machine)
    steps, _ = classes_of(machine)
    most = max([gain for gain, _, _ in starts])
    _, flip, pair = [start for start in starts if start[0] == most][0]
    state, high, low = flip
    past = histories_to(steps, 0, ordered)[state]
    ahead = [ordered[move] for move in _way_by(graph, gains, pair)]
    return (past + [ordered[high]] + ahead, past + [ordered[low]] + ahead)


def _movement_graphs(machine, output, number):
    """Return the graphs of the nodes with the movements of an output, and with those of an input, as gains."""
    check_machine(machine)
    check_number(output, machine.outputs)
    check_number(number, machine.inputs)
    nodes = reached_nodes(machine)
    tops = graph_by(machine, nodes, lambda letter, before, now: _movement(_OUTPUTS, output, before, now))
    bottoms = graph_by(machine, nodes, lambda letter, before, now: _movement(_INPUTS, number, before, now))
    return tops, bottoms


def _movement(side, number, before, now):
    """Return 1 if an input or an output is not the END that it was at the tick before, and 0 otherwise."""
    return 1 if before and before[side][number] != now[side][number] else 0


def _check_weights(machine, weights):
    """Raise the errors of a machine and of the weights of its outputs."""
    check_machine(machine)
    if not are_integers(weights) or len(weights) != machine.outputs or any([weight < 0 for weight in weights]):
        raise InvalidPrices(weights)


def _wrong_starts(machine, weights):
    """Return what wrong values come to, or None if there is no bound.

    This is a tuple: the list of the tuples (difference, flip, pair) of all flips of classes, the graph of the pairs of
    classes with the differences of single ticks, and a dict from its pairs to the greatest differences from there on.
    """
    _check_weights(machine, weights)
    lists, _ = classes_of(machine)
    steps = dict(enumerate(lists))
    ordered = moves(machine)
    inputs = [(letter, number) for letter in machine.letters for number in range(machine.inputs)]
    flips = [flip for letter, number in inputs for flip in flips_of(steps, ordered, letter, number)]
    met, _ = walked([flip_pair(steps, flip) for flip in flips], same_doubles(len(ordered)), steps, steps, is_any)
    graph = {pair: _edges_of(steps, weights, pair) for pair in met}
    gains = _gains_without_rounds(graph)
    if gains is None:
        return None
    starts = []
    for flip in flips:
        state, high, low = flip
        pair = flip_pair(steps, flip)
        starts.append((_difference(weights, steps[state][high][0], steps[state][low][0]) + gains[pair], flip, pair))
    return starts, graph, gains


def _edges_of(steps, weights, pair):
    """Return the list of the edges (difference, next pair) of a pair of classes, one for each move."""
    both = [(here, there) for here, there in zip(steps[pair[0]], steps[pair[1]])]
    return [(_difference(weights, here[0], there[0]), (here[1], there[1])) for here, there in both]


def _difference(weights, outputs, others):
    """Return the sum of the weights of those outputs that are unlike."""
    return sum([weight for weight, one, other in zip(weights, outputs, others) if one != other])


def _gains_without_rounds(graph):
    """Return a dict with what can be gained at most from each node on, or None if some cycle gains something.

    The gains of a graph are at least 0 here.
    """
    parts = components(graph)
    numbers = {node: number for number, part in enumerate(parts) for node in part}
    gains = {}
    for part in parts[::-1]:
        edges = [(node, gain, behind) for node in part for gain, behind in graph[node]]
        if any([gain > 0 and numbers[behind] == numbers[node] for node, gain, behind in edges]):
            return None
        most = max([0] + [gain + gains[behind] for _, gain, behind in edges if behind in gains])
        for node in part:
            gains[node] = most
    return gains


def _way_by(graph, gains, node):
    """Return the list of the moves by which the most is gained from a node on."""
    way = []
    while gains[node] > 0:
        more, node = _way_to_gain(graph, gains, node)
        way.extend(more)
    return way


def _way_to_gain(graph, gains, start):
    """Return moves, the last one of which is the first one that gains something, and the node behind them.

    Nothing is lost by them, so what is gained from the node before is what is gained by a move and behind it.
    """
    ways = {start: []}
    waiting = [start]
    at = 0
    while True:
        node = waiting[at]
        for move, (gain, behind) in enumerate(graph[node]):
            if gain + gains[behind] == gains[node]:
                if gain > 0:
                    return ways[node] + [move], behind
                if behind not in ways:
                    ways[behind] = ways[node] + [move]
                    waiting.append(behind)
        at += 1
