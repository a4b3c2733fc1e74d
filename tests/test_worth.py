"""[80] to [83] and heldranks/worth.py of the interface."""

import random
import unittest
from fractions import Fraction

from heldranks.errors import InvalidCount, InvalidMachine, InvalidPrices, TooMany
from heldranks.machines import Machine, Row
from heldranks.makers import best, line, recent, record
from heldranks.prices import Prices, end_worth, worth
from heldranks.terms import End, Place
from heldranks.worth import (
    endless_worth, greatest_rate, greatest_worth, is_rate_paper, is_worth_paper, rate_paper, rate_round, round_worth,
    worth_history, worth_paper)
from tests.helpers import (
    BOTTOM, HUGE, NOT_COUNTS, NOT_INTEGERS, NOT_LISTS, TOP, Case, counter, left_counter, some_end, some_history,
    some_machines, two_inputs, without_inputs)
from tests.nodes import NodeGraph, most_worth, running_out, simple_cycles, sized
from tests.search import NOT_MACHINES, all_end_states, moves_of

NO_BOUND = "no bound"


def some_prices(rng, machine, least=-3, most=3, dear=0):
    """Return prices of a machine by chance, often without movements; values that are put in may be dear."""
    outputs = {letter: tuple(rng.randint(least, most) for _ in range(machine.outputs)) for letter in machine.letters}
    inputs = {letter: tuple(rng.randint(least, most) - dear for _ in range(machine.inputs)) for letter in machine.letters}
    if rng.random() < 0.4:
        return Prices(outputs, inputs)
    return Prices(outputs, inputs, output_moves=tuple(rng.randint(least, most) for _ in range(machine.outputs)),
                  input_moves=tuple(rng.randint(least, most) for _ in range(machine.inputs)))


def sample(seed, many=40):
    """Return tuples (machine, prices) with at most 96 nodes."""
    rng = random.Random(seed)
    made = [record(), line(1), recent(1, 1), recent(2, 1), recent(3, 2), best(1), best(2), two_inputs(),
            without_inputs(), sized([1, 0]), running_out(1), running_out(2), running_out(3)]
    found = []
    for machine in some_machines(seed, many) + made:
        if len(NodeGraph(machine).nodes) <= 96:
            for least, most, dear in rng.sample([(-3, 3, 0), (-6, 1, 0), (-9, -1, 0), (0, 4, 0), (-1, 3, 9), (0, 3, 4)], 3):
                found.append((machine, some_prices(rng, machine, least, most, dear)))
    return found


class Greatest(Case):

    def test_against_sums_over_all_nodes(self):
        met = set()
        for machine, prices in sample(421):
            expected = most_worth(machine, prices)
            self.equal(greatest_worth(machine, prices), expected)
            self.equal(greatest_worth(prices=prices, machine=machine), expected)
            self.equal(worth_history(machine, prices) is None, expected == NO_BOUND)
            self.equal(worth_paper(machine, prices) is None, expected == NO_BOUND)
            self.equal(endless_worth(machine, prices) is None, expected != NO_BOUND)
            met.add(expected if expected == NO_BOUND else min(expected, 4))
        self.assertLessEqual({NO_BOUND, 0, 1, 3, 4}, met)

    def test_told_histories_are_worth_it(self):
        rng = random.Random(422)
        many = 0
        for machine, prices in sample(423):
            found = worth_history(machine, prices)
            if found is not None:
                many += 1
                most = greatest_worth(machine, prices)
                self.assertIs(found.__class__, list)
                self.equal(end_worth(machine, prices, found), most)
                for _ in range(20):
                    history = some_history(rng, machine, rng.randint(0, 9), some_end)
                    self.assertLessEqual(end_worth(machine, prices, history), most)
        self.assertGreater(many, 50)

    def test_as_much_for_each_level(self):
        rng = random.Random(424)
        for machine, prices in sample(425, 20):
            found = worth_history(machine, prices)
            if found is not None:
                most = greatest_worth(machine, prices)
                for top in (1, 3, 7):
                    whole = [(letter, tuple({TOP: top, BOTTOM: 0}[end] for end in ends)) for letter, ends in found]
                    self.equal(worth(machine, prices, top, whole), top * most)
                    for _ in range(10):
                        history = some_history(rng, machine, 6, lambda chance: chance.randint(0, top))
                        self.assertLessEqual(worth(machine, prices, top, history), top * most)

    def test_machines(self):
        machine = recent(2, 2)
        prices = Prices.plain(machine, (3,), (-2,))
        self.equal([greatest_worth(machine, prices), greatest_rate(machine, prices)], [NO_BOUND, (1, 1)])
        prices = Prices({"put": (3,)}, {"put": (-3,)}, input_moves=(1,))
        # The first tick has no movement, so it costs three, and then a movement is worth one at each tick at most.
        self.equal(greatest_rate(machine, prices), (0, 1))
        self.equal(greatest_worth(machine, Prices.plain(machine, (2,), (-3,))), 0)
        first = Prices({"put": (0,), "reset": (0,)}, {"put": (0,), "reset": (5,)}, output_moves=(-5,))
        self.equal([greatest_worth(record(), first), greatest_rate(record(), first)], [NO_BOUND, (5, 1)])

    def test_great_prices(self):
        machine = recent(2, 1)
        for price in (HUGE, -HUGE):
            prices = Prices.plain(machine, (price,), (-price,))
            expected = most_worth(machine, prices)
            self.equal(greatest_worth(machine, prices), expected)
            top, bottom = greatest_rate(machine, prices)
            self.equal(round_worth(machine, prices, rate_round(machine, prices))[0] * bottom, 2 * top)

    def test_nothing_is_worth_anything(self):
        for machine in (record(), two_inputs(), without_inputs()):
            prices = Prices.plain(machine, (0,) * machine.outputs, (0,) * machine.inputs)
            self.equal([greatest_worth(machine, prices), worth_history(machine, prices), greatest_rate(machine, prices)],
                       [0, [], (0, 1)])
            self.equal(endless_worth(machine, prices), None)


class WorthPapers(Case):

    def told(self, seed):
        found = [(machine, prices, worth_paper(machine, prices)) for machine, prices in sample(seed, 25)]
        return [row for row in found if row[2] is not None]

    def test_told(self):
        for machine, prices, paper in self.told(431):
            most = greatest_worth(machine, prices)
            self.assertIs(paper.__class__, dict)
            self.equal(list(paper), sorted(paper))
            graph = NodeGraph(machine)
            self.assertTrue(graph.is_worth_paper(prices, most, paper))
            turned = {node: paper[node] for node in reversed(list(paper))}
            for bound in (most, most + 1, most + HUGE):
                self.equal(is_worth_paper(machine, prices, bound, paper), True)
                self.equal(is_worth_paper(value=turned, most=bound, prices=prices, machine=machine), True)
            for bound in range(max(0, most - 2), most):
                self.equal(is_worth_paper(machine, prices, bound, paper), False)
            greater = {node: paper[node] + 5 for node in paper}
            self.equal([is_worth_paper(machine, prices, most + more, greater) for more in (4, 5, 6)],
                       [False, True, True])

    def test_spoilt(self):
        rng = random.Random(432)
        met = set()
        for machine, prices, paper in self.told(433):
            most, graph = greatest_worth(machine, prices), NodeGraph(machine)
            for node in rng.sample(list(paper), min(len(paper), 5)):
                if rng.random() < 0.3:
                    paper = {key: paper[key] + (0 if key == graph.first else 1) for key in paper}
                left = {key: paper[key] for key in paper if key != node}
                self.equal(is_worth_paper(machine, prices, most, left), False)
                for change in (-1, 1):
                    other = {**paper, node: paper[node] + change}
                    expected = graph.is_worth_paper(prices, most, other)
                    met.add((change, expected))
                    self.equal(is_worth_paper(machine, prices, most, other), expected)
                for number in NOT_COUNTS:
                    self.equal(is_worth_paper(machine, prices, most, {**paper, node: number}), False)
                self.equal(is_worth_paper(machine, prices, HUGE, {**paper, node: bool(paper[node])}), False)
        self.assertEqual(met, {(change, expected) for change in (-1, 1) for expected in (True, False)})

    def test_nodes_that_are_not_reached(self):
        rng = random.Random(434)
        met = set()
        for machine, prices, paper in self.told(435):
            most, graph = greatest_worth(machine, prices), NodeGraph(machine)
            states, ticks = all_end_states(machine), [move[1] for move in moves_of(machine)]
            for _ in range(6):
                last = rng.choice([(), (rng.choice(ticks), tuple(some_end(rng) for _ in range(machine.outputs)))])
                node = (rng.choice(states), last)
                other = {**paper, node: rng.choice([0, most, most + 9])}
                expected = graph.is_worth_paper(prices, most, other)
                met.add((node in paper, expected))
                self.equal(is_worth_paper(machine, prices, most, other), expected)
        self.assertLessEqual({(False, True), (False, False), (True, True)}, met)

    def test_keys_of_other_kinds(self):
        machine = recent(2, 1)
        prices = Prices.plain(machine, (1,), (-2,))
        paper = worth_paper(machine, prices)
        most = greatest_worth(machine, prices)
        state, ends = (machine.first, (BOTTOM,)), (BOTTOM,)
        keys = [None, True, 0, "", state, (state,), (state, None), (state, (ends,)), (state, (ends, ends, ends)),
                (state, (ends, None)), (state, (ends, (BOTTOM, BOTTOM))), (state, ((), ends)), (state, (ends, (0,))),
                (state, ("bottom", ends)), (("other", (BOTTOM,)), ()), ((machine.first, ()), ()), (None, ()),
                ((machine.first, (False,)), ()), (state, (), ()), (state, ""), (state, 0)]
        for key in keys:
            self.equal(is_worth_paper(machine, prices, most, {**paper, key: 0}), False)
            self.equal(is_worth_paper(machine, prices, HUGE, {key: 0, **paper}), False)
        for value in NOT_LISTS + [[], {}, list(paper), list(paper.items()), machine, set(paper), tuple(paper)]:
            self.equal(is_worth_paper(machine, prices, most, value), False)
        self.equal(is_worth_paper(machine, prices, most, paper), True)

    def test_the_first_node_left_out(self):
        machine = recent(2, 1)
        prices = Prices.plain(machine, (1,), (-2,))
        paper = worth_paper(machine, prices)
        first = ((machine.first, machine.begin), ())
        # Nothing leads back to the first node, so all other points hold without it.
        left = {node: paper[node] for node in paper if node != first}
        self.equal([is_worth_paper(machine, prices, HUGE, value) for value in (paper, left)], [True, False])

    def test_new_each_time(self):
        machine = recent(2, 1)
        prices = Prices.plain(machine, (1,), (-2,))
        paper = worth_paper(machine, prices)
        before = dict(paper)
        is_worth_paper(machine, prices, 9, paper)
        self.equal(paper, before)
        paper.clear()
        self.equal(worth_paper(machine, Prices.plain(machine, (1,), (-1,))) is None, True)
        self.equal(worth_paper(prices=prices, machine=recent(2, 1)), before)
        history = worth_history(machine, Prices.plain(machine, (-1,), (0,)))
        history.append(None)
        self.equal(worth_history(machine, Prices.plain(machine, (-1,), (0,))), [])


class Rounds(Case):

    def test_told(self):
        many = 0
        for machine, prices in sample(441):
            found = endless_worth(machine, prices)
            if found is not None:
                many += 1
                self.check_round(machine, prices, found)
                self.assertGreater(round_worth(machine, prices, found)[0], 0)
        self.assertGreater(many, 50)

    def check_round(self, machine, prices, found):
        self.equal([part.__class__ for part in (found, *found)], [tuple, list, list])
        ahead, turn = found
        self.assertTrue(ahead and turn)
        graph = NodeGraph(machine)
        self.assertEqual(graph.behind(ahead), graph.behind(ahead + turn))
        gained, ticks = round_worth(machine, prices, found)
        self.equal(ticks, len(turn))
        # Each turn is worth the same.
        worths = [end_worth(machine, prices, ahead + turn * times) for times in range(5)]
        self.equal([after - before for before, after in zip(worths, worths[1:])], [gained] * 4)
        self.equal(round_worth(value=(tuple(ahead), tuple(turn)), prices=prices, machine=machine), (gained, ticks))

    def test_rounds_by_chance(self):
        rng = random.Random(442)
        met = set()
        for machine, prices in sample(443, 30):
            graph = NodeGraph(machine)
            for _ in range(12):
                ahead, turn = [some_history(rng, machine, rng.randint(0, 3), some_end) for _ in range(2)]
                is_round = bool(ahead and turn) and graph.behind(ahead) == graph.behind(ahead + turn)
                found = round_worth(machine, prices, (ahead, turn))
                self.equal(found is not None, is_round)
                if is_round:
                    whole, before = end_worth(machine, prices, ahead + turn), end_worth(machine, prices, ahead)
                    self.equal(found, (whole - before, len(turn)))
                met.add((bool(ahead), bool(turn), is_round))
        self.assertEqual(len(met), 5)

    def test_the_tick_before_counts(self):
        machine = recent(1, 1)
        prices = Prices({"put": (0,)}, {"put": (0,)}, input_moves=(1,))
        low, high = ("put", (BOTTOM,)), ("put", (TOP,))
        self.equal(round_worth(machine, prices, ([high], [low, high])), (2, 2))
        self.equal([round_worth(machine, prices, value) for value in (([low], [low, high]), ([low], [high]))],
                   [None, None])
        self.equal([round_worth(machine, prices, ([end], [end])) for end in (low, high)], [(0, 1)] * 2)
        self.equal([round_worth(machine, prices, value) for value in (([], [low]), ([low], []), ([], []))], [None] * 3)

    def test_any_value(self):
        machine = two_inputs()
        prices = Prices.plain(machine, (1, 1), (0, 0))
        found = endless_worth(machine, prices)
        for value in NOT_LISTS + [list(found), found[:1], found + ([],), (), (None, None), [found], machine]:
            self.equal(round_worth(machine, prices, value), None)
        ticks = [None, "go", ("go", (TOP,)), ("go", (TOP, 5)), ("go", (TOP, True)), ["go", (TOP, TOP)],
                 ("other", (TOP, TOP)), ("go", [TOP, TOP]), ("go", (TOP, TOP), 0)]
        for k in (0, 1):
            for part in NOT_LISTS + [[tick] for tick in ticks] + [found[k] + [tick] for tick in ticks]:
                self.equal(round_worth(machine, prices, found[:k] + (part,) + found[k + 1:]), None)


class Rates(Case):

    def test_against_all_rounds(self):
        met = set()
        many = 0
        for machine, prices in sample(451, 60):
            graph = NodeGraph(machine)
            found = greatest_rate(machine, prices)
            self.assertIs(found.__class__, tuple)
            top, bottom = found
            self.equal((Fraction(top, bottom).numerator, Fraction(top, bottom).denominator), found)
            turn = rate_round(machine, prices)
            gained, ticks = round_worth(machine, prices, turn)
            Rounds.check_round(self, machine, prices, turn)
            self.assertEqual(Fraction(gained, ticks), Fraction(top, bottom))
            self.assertTrue(graph.is_rate_paper(prices, found, rate_paper(machine, prices)))
            # There is no bound exactly if some round is worth more than 0.
            self.equal(top > 0, greatest_worth(machine, prices) == NO_BOUND)
            met.add(min(bottom, 3) if top >= 0 else -min(bottom, 3))
            if len(graph.nodes) <= 9:
                many += 1
                rates = [Fraction(sum(graph.gain(prices, *edge) for edge in cycle), len(cycle))
                         for cycle in simple_cycles(graph)]
                self.assertEqual(max(rates), Fraction(top, bottom))
        self.assertEqual(met, {1, 2, 3, -1, -2, -3})
        self.assertGreater(many, 40)

    def test_many_rounds_with_nearly_the_same_rate(self):
        rng = random.Random(455)
        bottoms = set()
        for k in range(80):
            # The letter a leads through all modes, and b back to the first one or to any other one.
            rows = {}
            for mode in range(12):
                end = [End(rng.choice([BOTTOM, TOP]))]
                rows[f"m{mode}", "a"] = Row(f"m{(mode + 1) % 12}", [], end)
                rows[f"m{mode}", "b"] = Row(f"m{0 if k & 1 else rng.randrange(12)}", [], end)
            machine = Machine(rows, inputs=0, outputs=1, first="m0")
            prices = some_prices(rng, machine)
            rate, paper = greatest_rate(machine, prices), rate_paper(machine, prices)
            self.assertTrue(NodeGraph(machine).is_rate_paper(prices, rate, paper))
            gained, ticks = round_worth(machine, prices, rate_round(machine, prices))
            self.assertEqual(Fraction(gained, ticks), Fraction(*rate))
            bottoms.add(rate[1])
        self.assertGreater(len(bottoms), 5)

    def test_machines(self):
        machine = record()
        prices = Prices({"put": (1,), "reset": (0,)}, {"put": (-2,), "reset": (0,)})
        self.equal([greatest_rate(machine=machine, prices=prices), greatest_rate(without_inputs(), Prices.plain(
            without_inputs(), (1,), ()))], [(1, 1), (1, 2)])
        # A high value at each third tick is enough for a machine that tells the greatest of three.
        self.equal(greatest_rate(recent(3, 1), Prices.plain(recent(3, 1), (1,), (-2,))), (1, 3))
        self.equal(greatest_rate(recent(3, 1), Prices.plain(recent(3, 1), (-1,), (-1,))), (0, 1))
        self.equal(greatest_rate(without_inputs(), Prices({"go": (-3,)}, {"go": ()}, output_moves=(-1,))), (-5, 2))

    def told(self, seed):
        return [(machine, prices, greatest_rate(machine, prices), rate_paper(machine, prices))
                for machine, prices in sample(seed, 25)]

    def test_told_papers(self):
        for machine, prices, rate, paper in self.told(452):
            self.assertIs(paper.__class__, dict)
            self.equal(list(paper), sorted(paper))
            turned = {node: paper[node] - 7 for node in reversed(list(paper))}
            self.equal(is_rate_paper(machine, prices, rate, paper), True)
            self.equal(is_rate_paper(value=turned, rate=rate, prices=prices, machine=machine), True)
            graph = NodeGraph(machine)
            for top, bottom in ((rate[0] - 1, 1), (rate[0] + 1, 1), (rate[0] * 7 + 1, 7), (3 * rate[0] - 1, 3)):
                fraction = Fraction(top, bottom)
                other = (fraction.numerator, fraction.denominator)
                expected = graph.is_rate_paper(prices, other, paper)
                self.equal(is_rate_paper(machine, prices, other, paper), expected)
                if fraction < Fraction(*rate):
                    self.assertFalse(expected)

    def test_spoilt_papers(self):
        rng = random.Random(453)
        met = set()
        for machine, prices, rate, paper in self.told(454):
            graph = NodeGraph(machine)
            for node in rng.sample(list(paper), min(len(paper), 6)):
                left = {key: paper[key] for key in paper if key != node}
                self.equal(is_rate_paper(machine, prices, rate, left), False)
                for change in (-HUGE, -1, 1, HUGE):
                    other = {**paper, node: paper[node] + change}
                    expected = graph.is_rate_paper(prices, rate, other)
                    met.add((change, expected))
                    self.equal(is_rate_paper(machine, prices, rate, other), expected)
                for number in NOT_INTEGERS:
                    self.equal(is_rate_paper(machine, prices, rate, {**paper, node: number}), False)
        self.assertLessEqual({(-1, True), (-1, False), (1, True), (1, False), (HUGE, False)}, met)

    def test_values_of_other_kinds(self):
        machine = recent(1, 1)
        prices = Prices.plain(machine, (1,), (0,))
        paper = rate_paper(machine, prices)
        first = ((machine.first, ()), ())
        for value in NOT_LISTS + [[], {}, list(paper), machine, set(paper), {**paper, "other": 0},
                                  {**paper, (machine.first, ()): 0}, {**paper, ((machine.first, ()), None): 0},
                                  {node: paper[node] for node in paper if node != first}]:
            self.equal(is_rate_paper(machine, prices, (1, 1), value), False)
        self.equal(is_rate_paper(machine, prices, (1, 1), paper), True)

    def test_rates_that_are_no_ratios(self):
        wrong = NOT_INTEGERS + [1, -1, (1,), (1, 2, 3), [1, 2], (2, 4), (0, 2), (1, 0), (0, 0), (1, -1), (-2, -4),
                                (-3, 3), (True, 1), (1, True), (False, 1), ("1", 2), (None, 1), ((1, 2), 1)]
        machine = record()
        for rate in wrong:
            for value in (None, {}):
                self.fails(InvalidPrices, {"value": rate}, is_rate_paper, machine, Prices.plain(machine, (1,), (1,)),
                           rate, value)
        for rate in ((0, 1), (1, 1), (-1, 1), (-3, 2), (HUGE, 2), (1, HUGE)):
            self.equal(is_rate_paper(machine, Prices.plain(machine, (1,), (1,)), rate, {}), False)

    def test_by_turns(self):
        one, other = (record(), Prices.plain(record(), (2,), (-1,))), (best(1), Prices.plain(best(1), (-2,), (1,)))
        for function in (greatest_worth, worth_history, worth_paper, endless_worth, greatest_rate, rate_round,
                         rate_paper):
            first = [function(*one), function(*other)]
            self.equal([function(machine=one[0], prices=one[1]), function(prices=other[1], machine=other[0])], first)
        found = rate_round(*one)
        for part in found:
            part.clear()
        self.assertTrue(rate_round(*one)[0] and rate_round(*one)[1])


class Limits(Case):

    FUNCTIONS = [(greatest_worth, ()), (worth_history, ()), (worth_paper, ()), (is_worth_paper, (0, None)),
                 (endless_worth, ()), (round_worth, (None,)), (greatest_rate, ()), (rate_round, ()), (rate_paper, ()),
                 (is_rate_paper, ((0, 1), None))]

    def prices_of(self, machine):
        return Prices.plain(machine, (1,) * machine.outputs, (-1,) * machine.inputs)

    def test_just_96_nodes(self):
        machine = sized([4] * 5 + [3, 0])
        self.assertEqual(len(NodeGraph(machine).nodes), 96)
        prices = self.prices_of(machine)
        for function, rest in self.FUNCTIONS:
            function(machine, prices, *rest)
        self.equal(greatest_worth(machine, prices), most_worth(machine, prices))
        self.equal(is_worth_paper(machine, prices, HUGE, worth_paper(machine, prices)), greatest_worth(
            machine, prices) != NO_BOUND)
        self.equal(is_rate_paper(machine, prices, greatest_rate(machine, prices), rate_paper(machine, prices)), True)

    def test_more_nodes(self):
        for machine in (sized([4] * 5 + [3, 1]), counter(4, 6), counter(5, 3)):
            self.assertGreater(len(NodeGraph(machine).nodes), 96)
            for function, rest in self.FUNCTIONS:
                self.fails(TooMany, {"kind": "nodes", "limit": 96}, function, machine, self.prices_of(machine), *rest)

    def test_more_end_states(self):
        for machine in (left_counter(4, 6), counter(6, 2)):
            for function, rest in self.FUNCTIONS:
                self.fails(TooMany, {"kind": "states", "limit": 96}, function, machine, self.prices_of(machine), *rest)

    def test_the_first_node_counts(self):
        # Two ends for the tick before, and nothing before the first tick.
        self.assertEqual(len(NodeGraph(recent(1, 1)).nodes), 3)
        paper = rate_paper(recent(1, 1), Prices.plain(recent(1, 1), (1,), (0,)))
        state = (recent(1, 1).first, ())
        self.equal(list(paper), [(state, ()), (state, ((BOTTOM,), (BOTTOM,))), (state, ((TOP,), (TOP,)))])

    def test_inputs_stand_ahead_of_outputs(self):
        machine = Machine({("on", "put"): Row("on", [], [End(TOP), Place("x0")])}, inputs=1, outputs=2, first="on")
        paper = rate_paper(machine, Prices.plain(machine, (1, 0), (0,)))
        state = ("on", ())
        self.equal(list(paper), [(state, ()), (state, ((BOTTOM,), (TOP, BOTTOM))), (state, ((TOP,), (TOP, TOP)))])


class WrongInputs(Case):

    def test_machines_and_prices(self):
        good = Prices.plain(record(), (1,), (1,))
        others = [None, True, 0, "prices", (), [], {}, Prices, Prices({"put": (1,)}, {"put": (1,)}),
                  Prices.plain(line(1), (1,), (1,)), Prices({"put": (1, 2), "reset": (1, 2)}, {"put": (1,), "reset": (1,)}),
                  Prices({"put": (1,), "reset": (2,)}, {"put": (), "reset": ()})]
        for function, rest in Limits.FUNCTIONS:
            rest = tuple(-1 if part == 0 else part for part in rest)
            for value in NOT_MACHINES:
                self.fails(InvalidMachine, {"value": value}, function, value, good, *rest)
                self.fails(InvalidMachine, {"value": value}, function, value, None, *rest)
            for value in others:
                self.fails(InvalidPrices, {"value": value}, function, record(), value, *rest)

    def test_prices_ahead_of_too_many(self):
        for function, rest in Limits.FUNCTIONS:
            self.fails(InvalidPrices, {"value": None}, function, left_counter(4, 6), None, *rest)

    def test_numbers(self):
        for machine in (record(), left_counter(4, 6), counter(4, 6)):
            prices = Prices.plain(machine, (1,), (1,))
            for most in NOT_COUNTS + [NO_BOUND]:
                self.fails(InvalidCount, {"value": most}, is_worth_paper, machine, prices, most, None)
            self.fails(InvalidPrices, {"value": (2, 2)}, is_rate_paper, machine, prices, (2, 2), None)


if __name__ == "__main__":
    unittest.main()
