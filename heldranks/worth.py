"""Worth: how much end histories can be worth at most, in all and for each tick."""

from heldranks.checks import are_ticks
from heldranks.ends import moves
from heldranks.errors import InvalidCount, InvalidPrices
from heldranks.nodes import first_node, graph_by, is_node, node_behind, reached_nodes
from heldranks.prices import are_integers, check_fitting, end_worth, tick_worth
from heldranks.rounds import best_way, cycle_with_mean, gain_layers, gaining_cycle, greatest_mean, is_endless, ratio_of
from heldranks.values import NO_BOUND, is_count, is_end, is_integer
from heldranks.walks import histories_to


def greatest_worth(machine, prices):
    """Return the greatest worth of an end history, or NO_BOUND."""
    graph = _reached_graph(machine, prices)
    layers = gain_layers(graph)
    return NO_BOUND if is_endless(graph, layers) else layers[-1][first_node(machine)]


def worth_history(machine, prices):
    """Return an end history that is worth the greatest worth, or None if there is no bound."""
    graph = _reached_graph(machine, prices)
    layers = gain_layers(graph)
    if is_endless(graph, layers):
        return None
    ordered = moves(machine)
    return [ordered[move] for move in best_way(graph, layers, first_node(machine))]


def worth_paper(machine, prices):
    """Return a worth paper for the greatest worth, or None if there is no bound."""
    graph = _reached_graph(machine, prices)
    layers = gain_layers(graph)
    return None if is_endless(graph, layers) else _sorted_by_key(layers[-1])


def is_worth_paper(machine, prices, most, value):
    """Tell whether any value is a worth paper for a COUNT."""
    check_fitting(machine, prices)
    if not is_count(most):
        raise InvalidCount(most)
    check_nodes(machine)
    if not _has_nodes(machine, value) or not all([is_count(value[node]) for node in value]):
        return False
    if value[first_node(machine)] > most:
        return False
    graph = _graph_of(machine, prices, list(value))
    return _is_enough(graph, value, 1, 0)


def endless_worth(machine, prices):
    """Return a round with a worth above 0, or None if there is none."""
    graph = _reached_graph(machine, prices)
    cycle = gaining_cycle(graph)
    return None if cycle is None else round_of(machine, graph, cycle)


def round_worth(machine, prices, value):
    """Return the tuple of the worth and the number of ticks of a round, or None for any value that is no round."""
    check_fitting(machine, prices)
    check_nodes(machine)
    if not isinstance(value, tuple) or len(value) != 2:
        return None
    if not all([are_ticks(machine, history, is_end) and len(history) > 0 for history in value]):
        return None
    ahead, turn = value
    both = [*ahead, *turn]
    if node_behind(machine, both) != node_behind(machine, ahead):
        return None
    return (end_worth(machine, prices, both) - end_worth(machine, prices, ahead), len(turn))


def greatest_rate(machine, prices):
    """Return the greatest worth of a round, divided by its number of ticks, in lowest terms."""
    return greatest_mean(_reached_graph(machine, prices), first_node(machine))


def rate_round(machine, prices):
    """Return a round that has the greatest rate."""
    graph = _reached_graph(machine, prices)
    return round_of(machine, graph, cycle_with_mean(graph, greatest_mean(graph, first_node(machine))))


def rate_paper(machine, prices):
    """Return a rate paper for the greatest rate."""
    graph = _reached_graph(machine, prices)
    top, bottom = greatest_mean(graph, first_node(machine))
    # What a tick is worth above the rate adds up to a greatest gain, since no round has more than the rate.
    above = {node: [(bottom * gain - top, behind) for gain, behind in graph[node]] for node in graph}
    return _sorted_by_key(gain_layers(above)[-1])


def is_rate_paper(machine, prices, rate, value):
    """Tell whether any value is a rate paper for a Ratio."""
    check_fitting(machine, prices)
    if not _is_ratio(rate):
        raise InvalidPrices(rate)
    check_nodes(machine)
    if not _has_nodes(machine, value) or not all([is_integer(value[node]) for node in value]):
        return False
    top, bottom = rate
    graph = _graph_of(machine, prices, list(value))
    return _is_enough(graph, value, bottom, top)


def check_nodes(machine):
    """Raise TooMany if there are too many reached end states, or if end histories lead to too many nodes."""
    reached_nodes(machine)


def round_of(machine, graph, cycle):
    """Return the round of a cycle in the graph of the nodes that end histories lead to."""
    node, way = cycle
    ordered = moves(machine)
    ahead = histories_to(graph, first_node(machine), ordered)[node]
    return (ahead, [ordered[move] for move in way])


def _reached_graph(machine, prices):
    """Return the graph of the nodes that end histories lead to, with the worths of the ticks."""
    check_fitting(machine, prices)
    return _graph_of(machine, prices, reached_nodes(machine))


def _graph_of(machine, prices, nodes):
    """Return the graph of some nodes, with the worths of the ticks."""
    return graph_by(machine, nodes, lambda letter, before, now: tick_worth(prices, 1, letter, before, now))


def _sorted_by_key(numbers):
    """Return a dict with its keys in order."""
    return {node: numbers[node] for node in sorted(numbers)}


def _has_nodes(machine, value):
    """Tell whether any value is a dict from nodes, of which the first node is one."""
    if not isinstance(value, dict) or not all([is_node(machine, node) for node in value]):
        return False
    return first_node(machine) in value


def _is_enough(graph, numbers, times, cost):
    """Tell whether each number is at least so many times the gain and the next number, less the cost, for all edges."""
    for node in graph:
        for gain, behind in graph[node]:
            if behind not in numbers or times * gain + numbers[behind] > cost + numbers[node]:
                return False
    return True


def _is_ratio(value):
    """Tell whether any value is a Ratio: a tuple in lowest terms with a bottom of at least 1."""
    if not are_integers(value) or len(value) != 2 or value[1] < 1:
        return False
    return ratio_of(value[0], value[1]) == value
