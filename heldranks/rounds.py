"""Rounds: what leads back to itself in a graph, and how much can be gained on the way.

A graph is a dict from nodes to the lists of their edges (gain, next node), one for each move; all next nodes are keys.
A CYCLE is a tuple of a node and the list of the numbers of the moves that lead from it back to itself, where no other
node comes twice.
"""

from math import gcd


def ratio_of(top, bottom):
    """Return a quotient in lowest terms, for a bottom that is at least 1."""
    shared = gcd(top, bottom)
    return (top // shared, bottom // shared)


def gain_layers(graph):
    """Return a list of dicts; the one at k has what can be gained from each node on by at most k ticks.

    The last one is what can be gained at all; but if there is no greatest gain, there are more dicts than nodes.
    """
    layers = [{node: 0 for node in graph}]
    for _ in range(len(graph)):
        last = layers[-1]
        found = {node: max([0] + [gain + last[behind] for gain, behind in graph[node]]) for node in graph}
        if found == last:
            return layers
        layers.append(found)
    return layers


def is_endless(graph, layers):
    """Tell whether there is no greatest gain, by the layers of a graph."""
    return len(layers) > len(graph)


def best_way(graph, layers, node):
    """Return the list of the moves by which most is gained from a node on, in as many ticks as there are layers."""
    way = []
    for at in range(len(layers) - 1, 0, -1):
        if layers[at][node] == 0:
            return way
        gains = [gain + layers[at - 1][behind] for gain, behind in graph[node]]
        way.append(gains.index(layers[at][node]))
        node = graph[node][way[-1]][1]
    return way


def gaining_cycle(graph):
    """Return a cycle with a gain above 0, or None if there is none."""
    layers = gain_layers(graph)
    if not is_endless(graph, layers):
        return None
    # Something more is gained by as many ticks as there are nodes than by fewer ticks. So a node comes twice, and what
    # is gained between, or else fewer ticks would do.
    node = [node for node in graph if layers[-1][node] > layers[-2][node]][0]
    met = {}
    way = best_way(graph, layers, node)
    at = 0
    while node not in met:
        met[node] = at
        node = graph[node][way[at]][1]
        at += 1
    return (node, way[met[node]:at])


def sum_along(graph, node, way):
    """Return the sum of the gains of some moves from a node on."""
    total = 0
    for move in way:
        gain, node = graph[node][move]
        total += gain
    return total


def greatest_mean(graph, first):
    """Return the greatest gain of a cycle, divided by the number of its moves, in lowest terms.

    All nodes are led to by the first one. (This is Karp's way to find it.)
    """
    many = len(graph)
    layers = [{first: 0}]
    for _ in range(many):
        layers.append(_most_behind(graph, layers[-1]))
    best = None
    for node in layers[many]:
        ticks = [at for at in range(many) if node in layers[at]]
        least = _least_ratio([(layers[many][node] - layers[at][node], many - at) for at in ticks])
        if best is None or _is_below(best, least):
            best = least
    top, bottom = best
    return ratio_of(top, bottom)


def cycle_with_mean(graph, mean):
    """Return a cycle that has the greatest mean."""
    top, bottom = mean
    # A bit more than nothing is gained by a tick with the greatest mean, and not enough to make up for a lesser one.
    many = len(graph) + 1
    raised = {node: [(many * (bottom * gain - top) + 1, behind) for gain, behind in graph[node]] for node in graph}
    return gaining_cycle(raised)


def greatest_quotient(tops, bottoms):
    """Return the greatest quotient of the gains of a cycle in two graphs, and a cycle that has it.

    The graphs differ in their gains alone, which are at least 0. The quotient is None if the second gain of some cycle
    is 0, and the first one is not; it is (0, 1), and the cycle None, if the first gain of all cycles is 0.
    """
    quotient, found = (0, 1), None
    cycle = gaining_cycle(tops)
    # Each cycle that is found has a greater quotient than the one before.
    while cycle is not None:
        node, way = cycle
        top, bottom = sum_along(tops, node, way), sum_along(bottoms, node, way)
        if bottom == 0:
            return None, cycle
        quotient, found = ratio_of(top, bottom), cycle
        cycle = gaining_cycle(_lowered(tops, bottoms, quotient))
    return quotient, found


def components(graph):
    """Return the list of the lists of nodes that lead to one another, each one ahead of those that it leads to."""
    before = {node: [] for node in graph}
    for node in graph:
        for _, behind in graph[node]:
            before[behind].append(node)
    met = {}
    found = []
    for node in _left_last(graph)[::-1]:
        if node not in met:
            found.append(_flooded(before, node, met))
    return found


def _lowered(tops, bottoms, quotient):
    """Return the graph in which each cycle gains more than 0 exactly if it has a greater quotient."""
    top, bottom = quotient
    found = {}
    for node in tops:
        costs = [cost for cost, _ in bottoms[node]]
        found[node] = [(bottom * gain - top * cost, behind) for (gain, behind), cost in zip(tops[node], costs)]
    return found


def _most_behind(graph, layer):
    """Return what can be gained at most on the way to each node, by one tick more than in a layer."""
    found = {}
    for node in layer:
        for gain, behind in graph[node]:
            total = layer[node] + gain
            found[behind] = max(total, found.get(behind, total))
    return found


def _least_ratio(ratios):
    """Return the least one of some tuples (top, bottom), whose bottoms are at least 1."""
    least = ratios[0]
    for ratio in ratios:
        if _is_below(ratio, least):
            least = ratio
    return least


def _is_below(one, other):
    """Tell whether a tuple (top, bottom) is less than another one."""
    return one[0] * other[1] < other[0] * one[1]


def _left_last(graph):
    """Return the list of all nodes, each one behind all that it leads to, but for those that lead back to it."""
    met = {}
    found = []
    for start in graph:
        waiting = [(start, False)]
        while waiting:
            node, is_left = waiting.pop()
            if is_left:
                found.append(node)
            elif node not in met:
                met[node] = True
                waiting.append((node, True))
                waiting.extend([(behind, False) for _, behind in graph[node]])
    return found


def _flooded(before, start, met):
    """Return the list of the nodes that lead to a node and were not met before; they are met now."""
    found = [start]
    met[start] = True
    at = 0
    while at < len(found):
        node = found[at]
        for earlier in before[node]:
            if earlier not in met:
                met[earlier] = True
                found.append(earlier)
        at += 1
    return found
