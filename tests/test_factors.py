"""[84], [85] and heldranks/factors.py of the interface."""

import random
import unittest
from fractions import Fraction

from heldranks.ages import greatest_age
from heldranks.errors import InvalidCount, InvalidMachine, InvalidPrices, TooMany
from heldranks.factors import factor, factor_round, wrong_histories, wrong_value
from heldranks.machines import Machine, Row
from heldranks.makers import best, line, pile, ranked, recent, record
from heldranks.terms import End, Place
from tests.helpers import (
    BOTTOM, HUGE, NOT_COUNTS, NOT_INTEGERS, TOP, Case, counter, left_counter, plain_run, some_history, some_machines,
    two_inputs, without_inputs)
from tests.nodes import NodeGraph, simple_cycles, sized
from tests.search import NOT_MACHINES, moves_of, reached_steps

NO_BOUND = "no bound"


def delay(many):
    """Return a machine that tells each value so many ticks later."""
    looked = [Place("x0")] + [Place(f"r{k}") for k in range(many)]
    return Machine({("on", "put"): Row("on", looked[:-1], [looked[-1]])}, inputs=1, outputs=1, first="on",
                   begin=[BOTTOM] * many)


def resetting():
    """Return a machine that tells the last value put in, but at the letter reset BOTTOM."""
    rows = {("on", "put"): Row("on", [Place("x0")], [Place("x0")]),
            ("on", "keep"): Row("on", [Place("r0")], [Place("r0")]),
            ("on", "reset"): Row("on", [Place("r0")], [End(BOTTOM)])}
    return Machine(rows, inputs=1, outputs=1, first="on", begin=[BOTTOM])


def once_more():
    """Return a machine that tells each value at once, and at the second one of three ticks, and TOP at the third one."""
    rows = {("a", "go"): Row("b", [Place("x0")], [Place("x0")]), ("b", "go"): Row("c", [Place("r0")], [Place("r0")]),
            ("c", "go"): Row("a", [Place("r0")], [Place("x0") | Place("r0")])}
    return Machine(rows, inputs=1, outputs=1, first="a", begin=[BOTTOM])


def seldom():
    """Return a machine that tells every second value, so that its output moves half as often at the most."""
    rows = {("a", "go"): Row("b", [Place("x0")], [Place("x0")]), ("b", "go"): Row("a", [Place("r0")], [Place("r0")])}
    return Machine(rows, inputs=1, outputs=1, first="a", begin=[BOTTOM])


def echo(many, modes):
    """Return a machine that tells each value at once in its first mode, and so many ticks later in all other modes."""
    places = [Place("x0")] + [Place(f"r{k}") for k in range(many)]
    rows = {}
    for k in range(modes):
        told = places[0] if k == 0 else places[-1]
        rows[f"m{k}", "go"] = Row(f"m{(k + 1) % modes}", places[:-1], [told])
    return Machine(rows, inputs=1, outputs=1, first="m0", begin=[BOTTOM] * many)


def blinking():
    """Return a machine whose modes tell TOP and BOTTOM by turns while values are put in."""
    rows = {("a", "go"): Row("b", [], [Place("x0")]), ("b", "go"): Row("a", [], [End(TOP)])}
    return Machine(rows, inputs=1, outputs=1, first="a")


def later(many):
    """Return a machine that takes a value at each of so many ticks, and tells it at the last one of these."""
    rows = {(f"m{k}", "go"): Row(f"m{(k + 1) % many}", [Place("x0") if k == 0 else Place("r0")],
                                 [Place("r0") if k == many - 1 else End(BOTTOM)]) for k in range(many)}
    return Machine(rows, inputs=1, outputs=1, first="m0", begin=[BOTTOM])


def put_once():
    """Return a machine that keeps a value that is put in, and tells it just once."""
    rows = {("empty", "put"): Row("full", [Place("x0")], [End(BOTTOM), End(BOTTOM)]),
            ("empty", "tell"): Row("empty", [End(BOTTOM)], [End(BOTTOM), End(BOTTOM)]),
            ("full", "put"): Row("full", [Place("r0")], [End(BOTTOM), End(BOTTOM)]),
            ("full", "tell"): Row("over", [Place("r0")], [Place("r0"), End(BOTTOM)]),
            ("over", "put"): Row("over", [Place("r0")], [End(BOTTOM), End(BOTTOM)]),
            ("over", "tell"): Row("done", [Place("r0")], [Place("r0"), Place("r0")]),
            ("done", "put"): Row("done", [End(BOTTOM)], [End(BOTTOM), End(BOTTOM)]),
            ("done", "tell"): Row("done", [End(BOTTOM)], [End(BOTTOM), End(BOTTOM)])}
    return Machine(rows, inputs=1, outputs=2, first="empty", begin=[BOTTOM])


def sample(seed, many=60):
    """Return machines with at most 96 nodes and with inputs."""
    made = [record(), line(1), recent(1, 1), recent(2, 1), recent(3, 2), best(1), best(2), two_inputs(), resetting(),
            once_more(), seldom(), blinking(), put_once(), echo(2, 2), echo(1, 3), echo(3, 3), echo(3, 2)]
    made += [delay(k) for k in range(4)]
    return [machine for machine in some_machines(seed, many) + made
            if machine.inputs and len(NodeGraph(machine).nodes) <= 96]


def moved(graph, output, number, node, move):
    """Return whether an output moves, and whether an input moves, with a tick from a node on, as numbers."""
    behind = graph.next(node, move)
    if node[1] == ():
        return 0, 0
    return int(node[1][1][output] != behind[1][1][output]), int(node[1][0][number] != behind[1][0][number])


def factor_by_search(machine, output, number):
    """Return the factor, by looking at all cycles without a node twice."""
    graph = NodeGraph(machine)
    best_yet = Fraction(0)
    for cycle in simple_cycles(graph):
        sums = [moved(graph, output, number, *edge) for edge in cycle]
        top, bottom = sum(a for a, _ in sums), sum(b for _, b in sums)
        if bottom == 0 and top > 0:
            return None
        if bottom > 0:
            best_yet = max(best_yet, Fraction(top, bottom))
    return (best_yet.numerator, best_yet.denominator)


def movements(values):
    """Return the sum of the absolute differences of neighbours."""
    return sum(abs(after - before) for before, after in zip(values, values[1:]))


class Factors(Case):

    def test_machines(self):
        self.equal([factor(delay(many), 0, 0) for many in range(4)], [(1, 1)] * 4)
        self.equal([factor(best(1), 0, 0), factor(best(2), 0, 0), factor(best(2), 1, 0)], [(0, 1)] * 3)
        self.equal([factor(resetting(), 0, 0), factor(record(), 0, 0), factor(line(1), 0, 0)], [None] * 3)
        self.equal([factor(recent(many, 1), 0, 0) for many in (1, 2, 3)], [(1, 1)] * 3)
        self.equal([factor(seldom(), 0, 0), factor(blinking(), 0, 0)], [(1, 1), None])
        same = Machine({("on", "go"): Row("on", [], [End(TOP), Place("x1")])}, inputs=2, outputs=2, first="on")
        self.equal([factor(same, 0, 0), factor(same, 0, 1), factor(same, 1, 1), factor(number=0, output=1, machine=same)],
                   [(0, 1), (0, 1), (1, 1), None])

    def test_against_all_rounds(self):
        met = set()
        for machine in sample(521):
            graph = NodeGraph(machine)
            for output in range(machine.outputs):
                for number in range(machine.inputs):
                    found = factor(machine, output, number)
                    if len(graph.nodes) <= 8 or (len(graph.nodes) <= 13 and len(graph.moves) <= 4):
                        expected = factor_by_search(machine, output, number)
                        self.equal(found, expected)
                        met.add(expected)
                    self.check_round(machine, graph, output, number, found)
        self.assertLessEqual({None, (0, 1), (1, 1), (3, 1)}, met)

    def check_round(self, machine, graph, output, number, found):
        told = factor_round(machine, output, number)
        self.equal(told is None, found == (0, 1))
        if told is not None:
            self.equal([part.__class__ for part in (told, *told)], [tuple, list, list])
            ahead, turn = told
            self.assertTrue(ahead and turn)
            node = graph.behind(ahead)
            self.assertEqual(graph.behind(ahead + turn), node)
            sums = []
            for move in turn:
                sums.append(moved(graph, output, number, node, move))
                node = graph.next(node, move)
            top, bottom = sum(a for a, _ in sums), sum(b for _, b in sums)
            if found is None:
                self.assertTrue(top > 0 and bottom == 0)
            else:
                self.assertEqual(Fraction(top, bottom), Fraction(*found))

    def test_outputs_move_no_farther(self):
        rng = random.Random(522)
        for machine in sample(523, 20):
            for output in range(machine.outputs):
                found = factor(machine, output, 0)
                if found is not None:
                    # The number c is the same for all histories, and not more than the movement without rounds.
                    most = 9 * len(NodeGraph(machine).nodes)
                    for _ in range(5):
                        history = some_history(rng, machine, 60, lambda chance: chance.randint(0, 9))
                        told = [{BOTTOM: 0, TOP: 9}.get(row[output], row[output]) for row in plain_run(machine, history)[0]]
                        put_in = [values[0] for _, values in history]
                        self.assertLessEqual(movements(told), Fraction(*found) * movements(put_in) + most)

    def test_rounds_are_repeated(self):
        for machine in (delay(2), recent(3, 2), once_more(), resetting()):
            ahead, turn = factor_round(machine, 0, 0)
            told = [plain_run(machine, ahead + turn * many)[0] for many in (1, 2, 9)]
            highs = [movements([int(outputs[0] == TOP) for outputs in rows[len(ahead) - 1:]]) for rows in told]
            self.assertEqual(highs[1] - highs[0], highs[0])
            self.assertEqual(highs[2], 9 * highs[0])

    def test_more_than_one(self):
        found = factor(once_more(), 0, 0)
        self.equal(found, factor_by_search(once_more(), 0, 0))
        rows = {("a", "go"): Row("b", [Place("x0"), Place("r0")], [Place("x0")]),
                ("b", "go"): Row("a", [Place("x0"), Place("r0")], [Place("r1")])}
        machine = Machine(rows, inputs=1, outputs=1, first="a", begin=[BOTTOM, BOTTOM])
        self.equal(factor(machine, 0, 0), factor_by_search(machine, 0, 0))

    def test_numbers(self):
        for machine in (record(), two_inputs(), left_counter(4, 6), sized([4] * 5 + [3, 1])):
            for function in (factor, factor_round):
                for value in NOT_COUNTS + [machine.outputs, machine.outputs + 1, HUGE]:
                    self.fails(InvalidCount, {"value": value}, function, machine, value, None)
                for value in NOT_COUNTS + [machine.inputs, machine.inputs + 1, HUGE]:
                    self.fails(InvalidCount, {"value": value}, function, machine, 0, value)
        for function in (factor, factor_round):
            self.fails(InvalidCount, {"value": 0}, function, without_inputs(), 0, 0)
            for value in NOT_MACHINES:
                self.fails(InvalidMachine, {"value": value}, function, value, None, None)

    def test_limits(self):
        machine = sized([4] * 5 + [3, 0])
        self.equal([factor(machine, 0, 0), factor_round(machine, 0, 0)], [(0, 1), None])
        for function in (factor, factor_round):
            for machine in (sized([4] * 5 + [3, 1]), counter(4, 6)):
                self.fails(TooMany, {"kind": "nodes", "limit": 96}, function, machine, 0, 0)
            for machine in (left_counter(4, 6), counter(6, 2)):
                self.fails(TooMany, {"kind": "states", "limit": 96}, function, machine, 0, 0)

    def test_repeated_queries(self):
        found = factor_round(delay(2), 0, 0)
        before = ([*found[0]], [*found[1]])
        self.equal(factor_round(recent(2, 1), 0, 0) is None, False)
        for part in found:
            part.clear()
        self.equal(factor_round(number=0, output=0, machine=delay(2)), before)


def wrong_by_search(machine, weights):
    """Return the greatest difference, by sums over pairs of end states, one tick more in each round."""
    steps = reached_steps(machine)

    def lost(one, other):
        return sum(weight for weight, a, b in zip(weights, one, other) if a != b)

    starts = []
    for state in steps:
        for move in moves_of(machine):
            for number in range(machine.inputs):
                if move[1][number] == TOP:
                    low = (move[0], move[1][:number] + (BOTTOM,) + move[1][number + 1:])
                    (outputs, ahead), (others, across) = steps[state][move], steps[state][low]
                    starts.append((lost(outputs, others), (ahead, across)))
    edges, waiting = {}, [pair for _, pair in starts]
    while waiting:
        pair = waiting.pop()
        if pair not in edges:
            edges[pair] = []
            for move in moves_of(machine):
                (outputs, ahead), (others, across) = steps[pair[0]][move], steps[pair[1]][move]
                edges[pair].append((lost(outputs, others), (ahead, across)))
                waiting.append((ahead, across))
    sums = {pair: 0 for pair in edges}
    for _ in range(len(edges) + 1):
        longer = {pair: max(gain + sums[behind] for gain, behind in edges[pair]) for pair in edges}
        if longer == sums:
            return max([gain + sums[pair] for gain, pair in starts], default=0)
        sums = longer
    return NO_BOUND


def difference(machine, weights, one, other):
    """Return the difference of two histories of ENDS."""
    told = zip(plain_run(machine, one)[0], plain_run(machine, other)[0])
    return sum(weight for a, b in told for weight, x, y in zip(weights, a, b) if x != y)


def unlike_places(one, other):
    """Return the list of the places at which two histories with the same letters differ."""
    return [(k, number) for k, (tick, twin) in enumerate(zip(one, other))
            for number, (a, b) in enumerate(zip(tick[1], twin[1])) if a != b]


class WrongValues(Case):

    def cases(self, seed, many=40):
        rng = random.Random(seed)
        made = [record(), line(1), line(2), pile(2), ranked(2), best(2), two_inputs(), resetting(), once_more(), seldom(),
                put_once(), later(4), later(9), recent(3, 1), recent(3, 2)] + [delay(k) for k in range(5)]
        found = []
        for machine in some_machines(seed, many) + made:
            found.append((machine, tuple(rng.choice([0, 1, 2, 5]) for _ in range(machine.outputs))))
        return found

    def test_against_sums_over_pairs(self):
        met = set()
        for machine, weights in self.cases(531):
            expected = wrong_by_search(machine, weights)
            self.equal(wrong_value(machine, weights), expected)
            found = wrong_histories(machine, weights)
            self.equal(found is None, expected == NO_BOUND or machine.inputs == 0)
            met.add(expected if expected == NO_BOUND else min(expected, 5))
            if found is not None:
                self.equal([part.__class__ for part in (found, *found)], [tuple, list, list])
                one, other = found
                self.assertEqual([letter for letter, _ in one], [letter for letter, _ in other])
                self.assertEqual(len(unlike_places(one, other)), 1)
                self.assertTrue(all(end in (BOTTOM, TOP) for _, ends in one + other for end in ends))
                self.equal(difference(machine, weights, one, other), expected)
        self.assertLessEqual({NO_BOUND, 0, 1, 2, 4, 5}, met)

    def test_machines(self):
        self.equal([wrong_value(recent(many, 1), (1,)) for many in (1, 2, 3)], [1, 2, 3])
        self.equal([wrong_value(delay(many), (7,)) for many in (0, 1, 4)], [7] * 3)
        self.equal([wrong_value(record(), (1,)), wrong_value(best(1), (2,)), wrong_value(resetting(), (1,))],
                   [NO_BOUND] * 3)
        self.equal([wrong_value(record(), (0,)), wrong_value(weights=(0, 0), machine=best(2))], [0, 0])
        self.equal([wrong_value(delay(2), (HUGE,)), wrong_value(later(9), (4,))], [HUGE, 4])
        self.equal([wrong_value(machine, (3,)) for machine in (line(1), line(2), pile(3))], [3, 3, 3])

    def test_told_once_and_kept_before_for_any_time(self):
        # A value can be kept as long as one likes, but there is a bound: it comes out a few times only.
        machine = put_once()
        self.equal(greatest_age(machine), NO_BOUND)
        self.equal([wrong_value(machine, weights) for weights in ((1, 0), (0, 1), (1, 1), (2, 5))], [2, 1, 3, 9])
        self.equal(difference(machine, (2, 5), *wrong_histories(machine, (2, 5))), 9)

    def test_without_inputs(self):
        machine = without_inputs()
        self.equal([wrong_value(machine, (1,)), wrong_histories(machine, (1,))], [0, None])

    def test_without_a_difference(self):
        machine = Machine({("on", "go"): Row("on", [], [End(TOP)])}, inputs=2, outputs=1, first="on")
        one, other = wrong_histories(machine, (4,))
        self.equal([wrong_value(machine, (4,)), len(unlike_places(one, other)), difference(machine, (4,), one, other)],
                   [0, 1, 0])

    def test_as_much_for_each_level(self):
        rng = random.Random(532)
        for machine, weights in self.cases(533, 20):
            most = wrong_value(machine, weights)
            if most != NO_BOUND and machine.inputs:
                for top in (1, 6):
                    one, other = [[(letter, tuple({TOP: top, BOTTOM: 0}[end] for end in ends)) for letter, ends in history]
                                  for history in wrong_histories(machine, weights)]
                    self.assertEqual(self.whole(machine, weights, top, one, other), top * most)
                    for _ in range(10):
                        history = some_history(rng, machine, 8, lambda chance: chance.randint(0, top))
                        k = rng.randrange(8)
                        letter, values = history[k]
                        twin = list(history)
                        twin[k] = (letter, (rng.randint(0, top),) + values[1:])
                        self.assertLessEqual(self.whole(machine, weights, top, history, twin), top * most)

    def whole(self, machine, weights, top, one, other):
        """Return the difference of two histories of values from 0 to a number."""
        total = 0
        for a, b in zip(plain_run(machine, one)[0], plain_run(machine, other)[0]):
            for weight, x, y in zip(weights, a, b):
                total += weight * abs({BOTTOM: 0, TOP: top}.get(x, x) - {BOTTOM: 0, TOP: top}.get(y, y))
        return total

    def test_weights(self):
        for machine in (record(), two_inputs(), without_inputs(), left_counter(4, 6)):
            many = machine.outputs
            wrong = NOT_INTEGERS + [1, [1] * many, (), (1,) * (many + 1), (1,) * (many - 1), (-1,) * many]
            wrong = [value for value in wrong if value != (1,) * many]
            wrong += [(value,) + (1,) * (many - 1) for value in NOT_COUNTS]
            wrong += [(1,) * (many - 1) + (value,) for value in NOT_COUNTS]
            for value in wrong:
                for function in (wrong_value, wrong_histories):
                    self.fails(InvalidPrices, {"value": value}, function, machine, value)
        for value in NOT_MACHINES:
            for function in (wrong_value, wrong_histories):
                self.fails(InvalidMachine, {"value": value}, function, value, None)

    def test_limits(self):
        # Nodes do not count here.
        for machine in (counter(4, 6), counter(5, 3), sized([4] * 5 + [3, 1])):
            self.equal(wrong_value(machine, (2,)), wrong_by_search(machine, (2,)))
        for machine in (left_counter(4, 6), counter(6, 2)):
            for function in (wrong_value, wrong_histories):
                self.fails(TooMany, {"kind": "states", "limit": 96}, function, machine, (1,))

    def test_repeated_queries(self):
        found = wrong_histories(recent(3, 1), (1,))
        before = tuple(list(part) for part in found)
        self.equal(wrong_value(delay(2), (1,)), 1)
        for part in found:
            part.clear()
        self.equal(wrong_histories(weights=(1,), machine=recent(3, 1)), before)


if __name__ == "__main__":
    unittest.main()
