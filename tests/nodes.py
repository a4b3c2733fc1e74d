"""Nodes of machines, and sums over them, found by steps of the tests' own."""

from heldranks.machines import Machine, Row
from heldranks.terms import End, Place
from tests.helpers import BOTTOM, TOP
from tests.search import first_of, moves_of, plain_step

# The next nodes that were worked out already, for each machine.
KNOWN_NODES = {}


class NodeGraph:
    """The nodes that end histories lead to, with the next nodes by moves."""

    def __init__(self, machine):
        self.machine, self.rows, self.moves = machine, machine.rows(), moves_of(machine)
        self.first = (first_of(machine), ())
        self.known = KNOWN_NODES.setdefault(machine, {})
        self.nodes, waiting = {}, [self.first]
        while waiting:
            node = waiting.pop()
            if node not in self.nodes:
                self.nodes[node] = {move: self.next(node, move) for move in self.moves}
                waiting.extend(self.nodes[node].values())

    def next(self, node, move):
        if (node[0], move) not in self.known:
            outputs, state = plain_step(self.rows, node[0], move)
            self.known[node[0], move] = (state, (move[1], outputs))
        return self.known[node[0], move]

    def behind(self, history):
        node = self.first
        for move in history:
            node = self.next(node, move)
        return node

    def gain(self, prices, node, move):
        """Return what a tick is worth from a node on."""
        inputs, outputs = self.next(node, move)[1]
        total = sum(price for price, end in zip(prices.of_outputs(move[0]), outputs) if end == TOP)
        total += sum(price for price, end in zip(prices.of_inputs(move[0]), inputs) if end == TOP)
        if node[1] != ():
            total += sum(price for price, a, b in zip(prices.output_moves, node[1][1], outputs) if a != b)
            total += sum(price for price, a, b in zip(prices.input_moves, node[1][0], inputs) if a != b)
        return total

    def is_worth_paper(self, prices, most, paper):
        if self.first not in paper or paper[self.first] > most or min(paper.values()) < 0:
            return False
        return all(self.next(node, move) in paper
                   and paper[node] >= self.gain(prices, node, move) + paper[self.next(node, move)]
                   for node in paper for move in self.moves)

    def is_rate_paper(self, prices, rate, paper):
        top, bottom = rate
        return self.first in paper and all(
            self.next(node, move) in paper
            and bottom * self.gain(prices, node, move) + paper[self.next(node, move)] <= top + paper[node]
            for node in paper for move in self.moves)


def most_worth(machine, prices):
    """Return the greatest worth of an end history, by sums along the ways from the first node on."""
    graph = NodeGraph(machine)
    gains = {node: {move: graph.gain(prices, node, move) for move in graph.moves} for node in graph.nodes}
    sums = {graph.first: 0}
    for _ in range(len(graph.nodes) + 1):
        longer = dict(sums)
        for node in sums:
            for move, behind in graph.nodes[node].items():
                longer[behind] = max(longer.get(behind, -10 ** 99), sums[node] + gains[node][move])
        if longer == sums:
            return max(sums.values())
        sums = longer
    return "no bound"


def simple_cycles(graph):
    """Return all cycles without a node twice, as lists of tuples (node, move); for graphs with few nodes."""
    order = {node: k for k, node in enumerate(graph.nodes)}
    found = []

    def follow(start, node, way, met):
        for move, behind in graph.nodes[node].items():
            if behind == start:
                found.append(way + [(node, move)])
            elif order[behind] > order[start] and behind not in met:
                follow(start, behind, way + [(node, move)], met | {behind})

    for start in graph.nodes:
        follow(start, start, [], {start})
    return found


def sized(widths):
    """Return a machine with a mode for each of these numbers of registers, which keep the last values put in.

    The letter leave leads to the next mode, and forgets all values.
    """
    rows, most = {}, max(widths)
    for k, width in enumerate(widths):
        shifted = [Place("x0")] + [Place(f"r{j}") for j in range(most)]
        rows[f"m{k}", "go"] = Row(f"m{k}", shifted[:width] + [End(BOTTOM)] * (most - width), [End(BOTTOM)])
        rows[f"m{k}", "leave"] = Row(f"m{min(k + 1, len(widths) - 1)}", [End(BOTTOM)] * most, [End(BOTTOM)])
    return Machine(rows, inputs=1, outputs=1, first="m0", begin=[BOTTOM] * most)


def running_out(many):
    """Return a machine without inputs that tells TOP so many times, and never again."""
    places = [Place(f"r{k}") for k in range(many)]
    return Machine({("on", "go"): Row("on", [End(BOTTOM)] + places[:-1], [places[-1]])}, inputs=0, outputs=1, first="on",
                   begin=[TOP] * many)
