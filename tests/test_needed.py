"""[43], [44], [45] and heldranks/needed.py of the interface."""

import random
import unittest

from heldranks.charts import Chart
from heldranks.errors import InvalidHistory, InvalidInteger, InvalidMachine, OtherShape, TooMany
from heldranks.makers import best, line, pile, ranked, recent, record
from heldranks.needed import are_interchangeable, call, is_rest_paper, needed, parting_future, rest_paper, row_after
from tests.helpers import (
    BOTTOM, HUGE, NOT_ENDS, NOT_INTEGERS, NOT_LISTS, TOP, Case, at, counter, left_counter, plain_run, some_history,
    some_machines, two_inputs, without_inputs)
from tests.search import (
    NOT_MACHINES, all_end_states, changed, closed, disguised, histories, least_ticks, reached_steps, steps_from, unlike,
    with_last)

PUTS = [("put", (9,)), ("put", (2,))]


def sample():
    made = [record(), line(3), pile(2), ranked(3), best(2), recent(3, 2), two_inputs(), without_inputs()]
    # In the last ones, registers have values that are not needed.
    return some_machines(71, 40) + made + [with_last(machine) for machine in made]


def state_at(machine, history, level):
    """Return the end state after a history at a level."""
    mode, registers = plain_run(machine, history)[1][-1]
    return (mode, tuple(at(value, level) for value in registers))


def levels_of(machine, history):
    """Return the descending list of all levels at and just above and below the values of the registers."""
    registers = [value for value in plain_run(machine, history)[1][-1][1] if value not in (BOTTOM, TOP)]
    return sorted({value + k for value in registers + [0] for k in (-1, 0, 1, 2)}, reverse=True)


def parted_states(machine):
    steps = reached_steps(machine)
    return least_ticks(steps, steps, unlike)


class Needed(Case):

    def test_against_all_levels(self):
        rng = random.Random(71)
        most = 0
        for machine in sample():
            parted, chart = parted_states(machine), Chart.of_machine(machine)
            for ticks in (0, 1, 2, 4, 8, 12):
                history = some_history(rng, machine, ticks)
                levels = levels_of(machine, history)
                expected = [v for v in levels
                            if (state_at(machine, history, v), state_at(machine, history, v + 1)) in parted]
                self.equal(needed(machine, history), expected)
                row = [chart.class_after([(letter, tuple(at(value, level) for value in values))
                                          for letter, values in history]) for level in levels]
                row = [number for k, number in enumerate(row) if k == 0 or row[k - 1] != number]
                self.equal(row_after(machine, history), tuple(row))
                self.equal(len(set(row)), len(expected) + 1)
                self.assertTrue(all(chart.is_at_most(a, b) for a, b in zip(row, row[1:])))
                self.assertLessEqual(set(expected), set(plain_run(machine, history)[1][-1][1]))
                most = max(most, len(expected))
        self.assertGreater(most, 2)

    def test_equal_values_neighbours_and_ends(self):
        machine = ranked(3)
        for values, expected in (
                ([5, 5, 5], [5]), ([5, 6, 7], [7, 6, 5]), ([TOP, 5, BOTTOM], [5]), ([TOP, TOP, BOTTOM], []),
                ([HUGE, HUGE - 1, -HUGE], [HUGE, HUGE - 1, -HUGE]), ([0, -1, 0], [0, -1]), ([], [])):
            history = [("put", (value,)) for value in values]
            self.equal(needed(machine, history), expected)
            self.equal(needed(machine, history + [("rest", (99,))]), expected)
            self.equal(needed(machine, history + [("take", (99,))] * 3), [])
            self.equal(len(row_after(machine, history)), len(expected) + 1)

    def test_levels_that_are_far_apart_or_next_to_one_another(self):
        for values in ([9, 2], [3, 2], [HUGE, -HUGE], [HUGE, HUGE - 1], [1, 0], [0, -1]):
            falling = [("put", (value,)) for value in values]
            self.equal([needed(recent(3, 1), falling), needed(recent(3, 1), falling[::-1])], [values, values[:1]])
            self.equal([row_after(recent(3, 1), falling), row_after(recent(3, 1), falling[::-1])], [(0, 2, 1), (0, 1)])

    def test_values_that_were_put_in_but_are_not_needed(self):
        self.equal(needed(line(2), [("put", (5,)), ("put", (6,)), ("put", (7,))]), [6, 5])
        self.equal(needed(record(), [("put", (5,)), ("reset", (6,))]), [])
        self.equal(needed(recent(1, 1), [("put", (5,))]), [])
        self.equal(needed(without_inputs(), [("go", ())]), [])
        self.equal([row_after(without_inputs(), [("go", ())] * k) for k in range(3)], [(0,), (1,), (0,)])

    def test_document(self):
        self.equal([needed(recent(3, 1), PUTS), needed(recent(3, 1), PUTS[::-1])], [[9, 2], [9]])

    def test_tuples_names_and_repeated_queries(self):
        machine = recent(3, 1)
        self.equal(needed(history=tuple(PUTS), machine=machine), [9, 2])
        self.equal(row_after(history=tuple(PUTS), machine=machine), row_after(machine, PUTS))
        needed(machine, PUTS).clear()
        self.equal(needed(machine, PUTS), [9, 2])
        self.equal(PUTS, [("put", (9,)), ("put", (2,))])


class Calls(Case):

    def test_exactly_for_needed_values(self):
        rng = random.Random(72)
        calls = 0
        for machine in sample():
            parted = parted_states(machine)
            for ticks in (1, 3, 8):
                history = some_history(rng, machine, ticks)
                values = [value for _, values in history for value in values if value not in (BOTTOM, TOP)]
                for value in set(values + [0, 7, HUGE]):
                    found = call(machine, history, value)
                    self.equal(found is not None, value in needed(machine, history))
                    if found is not None:
                        calls += 1
                        pair = (state_at(machine, history, value), state_at(machine, history, value + 1))
                        self.equal(len(found), parted[pair])
                        self.assertIn(value, plain_run(machine, history + found)[0][-1])
                        self.assertLessEqual({end for _, ends in found for end in ends}, {BOTTOM, TOP})
        self.assertGreater(calls, 50)

    def test_least_number_of_ticks(self):
        rng = random.Random(73)
        for machine in sample()[:20]:
            history = some_history(rng, machine, 6)
            for value in needed(machine, history):
                ticks = min(len(call(machine, history, value)), 3)
                for ahead in histories(machine, ticks - 1):
                    if ahead:
                        self.assertNotIn(value, plain_run(machine, history + ahead)[0][-1])

    def test_made_machines(self):
        self.equal([len(call(recent(3, 1), PUTS, 9)), len(call(recent(3, 1), PUTS, 2))], [1, 2])
        self.equal(call(recent(3, 1), PUTS[::-1], 2), None)
        puts = [("put", (value,)) for value in (4, 5, 6)]
        self.equal([len(call(line(3), puts, value)) for value in (4, 5, 6)], [1, 2, 3])
        self.equal([len(call(pile(3), puts, value)) for value in (4, 5, 6)], [3, 2, 1])
        self.equal(call(value=5, history=puts, machine=record()), None)
        self.equal(call(value=6, history=tuple(puts), machine=record()), [("put", (BOTTOM,))])


def is_paper(machine, history, value, paper):
    """Tell whether a list of tuples of end states is a paper of rest, by steps of the test's own."""
    pairs = set(paper)
    steps = steps_from(machine, *[state for pair in pairs for state in pair])
    if (state_at(machine, history, value), state_at(machine, history, value + 1)) not in pairs:
        return False
    for here, there in pairs:
        for move in steps[here]:
            (outputs, ahead), (others, across) = steps[here][move], steps[there][move]
            if outputs != others or (ahead, across) not in pairs:
                return False
    return True


class Rest(Case):

    def told(self):
        """Return tuples (machine, history, value, paper) of papers that were told."""
        rng = random.Random(74)
        found = []
        for machine, ticks in [(machine, ticks) for machine in sample() for ticks in (1, 2, 6)]:
            history = some_history(rng, machine, ticks)
            values = {value for _, values in history for value in values if value not in (BOTTOM, TOP)}
            for value in sorted(values | {7})[:3]:
                paper = rest_paper(machine, history, value)
                self.equal(paper is None, value in needed(machine, history))
                if paper is not None:
                    found.append((machine, history, value, paper))
        return found

    def test_told(self):
        unequal = 0
        for machine, history, value, paper in self.told():
            self.assertIsInstance(paper, list)
            self.assertTrue(is_paper(machine, history, value, paper))
            self.equal(is_rest_paper(machine, history, value, paper), True)
            self.equal(is_rest_paper(paper=tuple(paper[::-1]), value=value, history=history, machine=machine), True)
            self.equal(is_rest_paper(machine, history, value, paper + paper), True)
            unequal += any(here != there for here, there in paper)
        self.assertGreater(unequal, 10)

    def test_a_tuple_less(self):
        for machine, history, value, paper in self.told():
            for k in range(min(6, len(paper))):
                less = paper[:k] + paper[k + 1:]
                self.equal(is_rest_paper(machine, history, value, less), is_paper(machine, history, value, less))
            start = (state_at(machine, history, value), state_at(machine, history, value + 1))
            self.equal(is_rest_paper(machine, history, value, [pair for pair in paper if pair != start]), False)

    def test_tuples_more(self):
        rng = random.Random(75)
        results = set()
        for machine, history, value, paper in self.told():
            states = all_end_states(machine)
            for _ in range(4):
                more = (rng.choice(states), rng.choice(states))
                if rng.random() < 0.3:
                    more = (more[0], more[0])
                steps = steps_from(machine, *more)
                for added in ([more], closed(steps, steps, [more])):
                    expected = is_paper(machine, history, value, paper + added)
                    self.equal(is_rest_paper(machine, history, value, paper + added), expected)
                    results.add((len(added) > 1, expected))
        self.assertEqual(results, {(False, False), (False, True), (True, False), (True, True)})

    def test_needed_values(self):
        # All tuples of states that are reached side by side are listed, but the outputs are not equal.
        for machine in (recent(3, 1), line(2), best(2)):
            history = [("put", (5,))]
            self.equal([rest_paper(machine, history, 5), needed(machine, history)], [None, [5]])
            steps = reached_steps(machine)
            pairs = closed(steps, steps, [(state_at(machine, history, 5), state_at(machine, history, 6))])
            self.equal(is_rest_paper(machine, history, 5, pairs), False)
            self.equal(is_rest_paper(machine, history, 5, [(a, b) for a in steps for b in steps]), False)

    def test_values_of_other_kinds(self):
        machine = recent(2, 1)
        mode = machine.first
        low = (mode, (BOTTOM,))
        paper = rest_paper(machine, [], 4)
        wrong = [None, True, 0, "", low, (low, low, low), (low,), [low, low], ([mode, (BOTTOM,)], low),
                 (low, (mode, [BOTTOM])), (low, (mode, ())), (low, (mode, (BOTTOM, TOP))), (("other", (BOTTOM,)), low),
                 (low, ("other", (BOTTOM,))), ((None, (BOTTOM,)), low), {low: low}, (low, None)]
        wrong = wrong + [((mode, (end,)), low) for end in NOT_ENDS] + [(low, (mode, (end,))) for end in NOT_ENDS]
        for value in NOT_LISTS + [machine, low[0], dict.fromkeys(paper), set(paper), []]:
            self.equal(is_rest_paper(machine, [], 4, value), False)
        for pair in wrong:
            for value in (paper + [pair], [pair] + paper, (pair,)):
                self.equal(is_rest_paper(machine, [], 4, value), False)
        self.equal(is_rest_paper(machine, [], 4, paper), True)


class Interchangeable(Case):

    def look(self, one, history, other, following):
        """Ask for the right answer about two histories; tell whether they are interchangeable."""
        parted = least_ticks(reached_steps(one), reached_steps(other), unlike)
        levels = levels_of(one, history) + levels_of(other, following)
        ticks = [parted.get((state_at(one, history, level), state_at(other, following, level))) for level in levels]
        ticks = min([number for number in ticks if number is not None], default=None)
        found = parting_future(one, history, other, following)
        self.equal(are_interchangeable(one, history, other, following), ticks is None)
        self.equal(found is None, ticks is None)
        if found is not None:
            self.equal(len(found), ticks)
            self.assertNotEqual(plain_run(one, history + found)[0][-1], plain_run(other, following + found)[0][-1])
            self.assertLessEqual({end for _, ends in found for end in ends}, {BOTTOM, TOP})
        return ticks is None

    def test_one_machine(self):
        rng = random.Random(76)
        met = set()
        for machine in sample():
            for _ in range(5):
                history, following = [some_history(rng, machine, rng.randint(0, 5)) for _ in range(2)]
                met.add(self.look(machine, history, machine, following))
            self.assertTrue(self.look(machine, history, machine, history))
            # The same values otherwise, and the same history with one value that is another one.
            self.look(machine, history, machine, history[::-1])
        self.assertEqual(met, {True, False})

    def test_two_machines(self):
        rng = random.Random(77)
        met = set()
        for machine in some_machines(77, 30):
            for other in (disguised(rng, machine), changed(rng, machine)):
                history = some_history(rng, machine, rng.randint(0, 6))
                met.add(self.look(machine, history, other, history))
                met.add(self.look(other, history, machine, some_history(rng, machine, 3)))
        self.assertEqual(met, {True, False})

    def test_what_follows_has_the_same_outputs(self):
        rng = random.Random(78)
        for machine in sample():
            for _ in range(6):
                history, following = [some_history(rng, machine, rng.randint(0, 4)) for _ in range(2)]
                if are_interchangeable(machine, history, machine, following):
                    ahead = some_history(rng, machine, 8)
                    self.equal(plain_run(machine, history + ahead)[0][len(history):],
                               plain_run(machine, following + ahead)[0][len(following):])

    def test_made_machines(self):
        three = recent(3, 1)
        put = [[("put", (value,)) for value in values] for values in ([9, 2], [1, 9, 2], [2, 9, 2], [9, 3], [2, 9], [9])]
        self.equal([are_interchangeable(three, put[0], three, other) for other in put],
                   [True, True, True, False, False, False])
        self.equal([len(parting_future(three, put[0], three, other)) for other in put[3:]], [2, 2, 2])
        self.equal(are_interchangeable(line(1), [("put", (4,))], ranked(1), [("put", (4,)), ("put", (9,))]), True)
        self.equal(parting_future(following=[("put", (5,))], other=pile(1), history=[("put", (4,))], one=line(1)),
                   [("take", (BOTTOM,))])
        self.equal(are_interchangeable(following=(), other=line(2), history=[], one=line(2)), True)
        self.equal(are_interchangeable(line(2), [], pile(2), []), False)


class Limits(Case):

    def test_just_96_end_states(self):
        for machine in (counter(4, 6), counter(5, 3)):
            history = [("go", (3,)), ("go", (4,))]
            self.equal([needed(machine, history), row_after(machine, history), call(machine, history, 3)], [[], (0,), None])
            self.equal(is_rest_paper(machine, history, 3, rest_paper(machine, history, 3)), True)
            self.equal(are_interchangeable(machine, history, counter(4, 6), []), True)
            self.equal(parting_future(counter(4, 6), [], machine, history), None)

    def test_more(self):
        small = left_counter(1, 1)
        for machine in (left_counter(4, 6), left_counter(5, 3)):
            for asked in (lambda: needed(machine, []), lambda: row_after(machine, [("go", (1,))]),
                          lambda: call(machine, [], 3), lambda: rest_paper(machine, [], 3),
                          lambda: is_rest_paper(machine, [], 3, None), lambda: is_rest_paper(machine, [], 3, []),
                          lambda: are_interchangeable(machine, [], small, []),
                          lambda: parting_future(small, [], machine, [])):
                self.fails(TooMany, {"kind": "states", "limit": 96}, asked)


class WrongInputs(Case):

    def test_values_that_are_no_machines(self):
        for value in NOT_MACHINES:
            for function in (needed, row_after):
                self.fails(InvalidMachine, {"value": value}, function, value, None)
            for function in (call, rest_paper):
                self.fails(InvalidMachine, {"value": value}, function, value, None, None)
            self.fails(InvalidMachine, {"value": value}, is_rest_paper, value, None, None, None)
            for function in (are_interchangeable, parting_future):
                self.fails(InvalidMachine, {"value": value}, function, value, None, None, None)
                self.fails(InvalidMachine, {"value": value}, function, record(), [], value, None)

    def test_histories(self):
        big = left_counter(4, 6)
        for machine, letter in ((record(), "put"), (big, "go")):
            right = [(letter, (3,)), (letter, (TOP,))]
            wrong = [None, letter, (letter, 3), (letter, [3]), (letter, ()), (letter, (3, 3)), [letter, (3,)],
                     (letter, (True,)), (letter, (None,)), ("other", (3,)), (None, (3,)), (letter, (3,), 3)]
            calls = [(needed, ()), (row_after, ()), (call, (None,)), (rest_paper, (None,)), (is_rest_paper, (None, None)),
                     (are_interchangeable, (None, None)), (parting_future, (None, None))]
            for function, rest in calls:
                for history in NOT_LISTS:
                    self.fails(InvalidHistory, {"position": None}, function, machine, history, *rest)
                for tick in wrong:
                    for position in range(3):
                        history = right[:position] + [tick] + right[position:] + [None]
                        self.fails(InvalidHistory, {"position": position}, function, machine, history, *rest)
            for function in (are_interchangeable, parting_future):
                for history in NOT_LISTS:
                    self.fails(InvalidHistory, {"position": None}, function, machine, right, two_inputs(), history)
                for tick in [None, "go", ("go", 3), ("go", [3, 3]), ("go", (3,)), ("go", (3, True)), ("put", (3, 3))]:
                    self.fails(InvalidHistory, {"position": 1}, function, machine, right, two_inputs(),
                               [("go", (1, 2)), tick])

    def test_integers(self):
        for machine in (record(), left_counter(4, 6)):
            for value in NOT_INTEGERS:
                self.fails(InvalidInteger, {"value": value}, call, machine, [], value)
                self.fails(InvalidInteger, {"value": value}, rest_paper, machine, [], value)
                self.fails(InvalidInteger, {"value": value}, is_rest_paper, machine, [], value, None)

    def test_other_shapes(self):
        for one, other in ((record(), recent(1, 1)), (best(1), best(2)), (two_inputs(), record()),
                           (left_counter(4, 6), record()), (left_counter(4, 6), counter(6, 2))):
            for function in (are_interchangeable, parting_future):
                self.fails(OtherShape, {}, function, one, [], other, [])
                self.fails(OtherShape, {}, function, other, [], one, [])


if __name__ == "__main__":
    unittest.main()
