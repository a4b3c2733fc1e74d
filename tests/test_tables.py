"""[60] and heldranks/tables.py of the interface."""

import itertools
import random
import unittest

from heldranks.charts import Chart
from heldranks.errors import (
    InvalidChart, InvalidClass, InvalidCount, InvalidEnds, InvalidHistory, InvalidSteps, TooMany, UnknownLetter)
from heldranks.makers import best, line, ranked, recent, record
from heldranks.runs import outputs_of
from heldranks.tables import Table
from tests.helpers import (
    BOTTOM, HUGE, NOT_COUNTS, NOT_ENDS, NOT_LISTS, NOT_NAMES, TOP, Case, some_end, some_history, some_machines,
    two_inputs, without_inputs)
from tests.search import NOT_MACHINES, followed, steps_of

LOW, HIGH = (BOTTOM,), (TOP,)


def right():
    """Return the steps of a table with two states, one letter, one input and one output."""
    return [{("put", LOW): (LOW, 0), ("put", HIGH): (HIGH, 1)}, {("put", LOW): (HIGH, 0), ("put", HIGH): (HIGH, 1)}]


def table(steps, inputs=1, outputs=1):
    return Table(steps, inputs=inputs, outputs=outputs)


def moves(letters, inputs):
    return [(letter, ends) for letter in letters for ends in itertools.product([BOTTOM, TOP], repeat=inputs)]


def some_steps(rng, states, letters, inputs, outputs):
    """Return the steps of a table by chance, with the keys of each dict in any sequence."""
    found = []
    for _ in range(states):
        keys = moves(letters, inputs)
        rng.shuffle(keys)
        found.append({key: (tuple(some_end(rng) for _ in range(outputs)), rng.randrange(states)) for key in keys})
    return found


class Parts(Case):

    def test_by_chance(self):
        rng = random.Random(101)
        for states, letters, inputs, outputs in itertools.product((1, 2, 5), ("a", "ab", "cab"), (0, 1, 2), (1, 2)):
            steps = some_steps(rng, states, letters, inputs, outputs)
            found = table(steps, inputs, outputs)
            self.equal([found.letters, found.inputs, found.outputs, len(found)],
                       [sorted(letters), inputs, outputs, states])
            self.equal(found.steps(), [{key: row[key] for key in sorted(row)} for row in steps])
            self.assertEqual(found, table(tuple(found.steps()), inputs, outputs))
            for state in range(states):
                for letter, ends in moves(letters, inputs):
                    self.equal(found.step(state, letter, ends), steps[state][letter, ends])
                    self.equal(found.step(ends=ends, letter=letter, state=state), steps[state][letter, ends])
            history = [rng.choice(moves(letters, inputs)) for _ in range(9)]
            self.equal(found.outputs_of(history), followed(steps, 0, history)[0])
            self.equal(found.outputs_of(history=tuple(history)), found.outputs_of(history))
            self.equal([found.outputs_of([]), found.outputs_of(())], [[], []])

    def test_what_is_changed_later(self):
        steps = right()
        found = table(steps)
        steps[0]["put", LOW] = (HIGH, 1)
        steps[1].clear()
        steps.append(None)
        found.steps().clear()
        found.steps()[0].clear()
        found.letters.clear()
        found.outputs_of([("put", LOW)]).clear()
        self.equal([found.steps(), found.letters, len(found)], [right(), ["put"], 2])
        self.assertEqual(found, table(right()))

    def test_arguments_stay_as_they_were(self):
        steps = right()
        steps[0] = {key: steps[0][key] for key in reversed(list(steps[0]))}
        keys = list(steps[0])
        Table(inputs=1, outputs=1, steps=steps)
        self.assertEqual(steps, right())
        self.equal(list(steps[0]), keys)

    def test_equality(self):
        rng = random.Random(102)
        one = table(right())
        turned = [{key: row[key] for key in reversed(list(row))} for row in right()]
        self.assertTrue(one == table(turned) and not one != table(turned))
        for state in (0, 1):
            for move in right()[0]:
                for step in ((HIGH, 0), (LOW, 0), (HIGH, 1), (LOW, 1)):
                    other = right()
                    other[state][move] = step
                    self.assertEqual(one == table(other), step == right()[state][move])
        self.assertNotEqual(one, table(right() + right()[:1]))
        named = [{("get", ends): row[letter, ends] for letter, ends in row} for row in right()]
        self.assertNotEqual(one, table(named))
        self.assertNotEqual(table(some_steps(rng, 1, "a", 0, 1), 0, 1), table(some_steps(rng, 1, "a", 0, 2), 0, 2))
        for value in (None, 0, 2, right(), "table", Chart.of_machine(record())):
            self.assertFalse(one == value)
            self.assertTrue(one != value)


class OfCharts(Case):

    def test_classes_are_the_states(self):
        many = 0
        rng = random.Random(103)
        for machine in some_machines(103, 40) + [record(), best(2), recent(3, 1), recent(3, 2), two_inputs(),
                                                 without_inputs()]:
            chart = Chart.of_machine(machine)
            if len(chart) > 5:
                self.fails(TooMany, {"kind": "classes", "limit": 5}, Table.of_chart, chart)
                continue
            many += 1
            found = Table.of_chart(chart=chart)
            self.equal([found.letters, found.inputs, found.outputs, len(found)],
                       [chart.letters, chart.inputs, chart.outputs, len(chart)])
            self.assertEqual(steps_of(found), steps_of(chart))
            history = some_history(rng, machine, 8, some_end)
            self.equal(found.outputs_of(history), outputs_of(machine, history))
        self.assertGreater(many, 15)

    def test_more_than_five_classes(self):
        for machine in (ranked(2), line(2), line(3)):
            chart = Chart.of_machine(machine)
            self.assertGreater(len(chart), 5)
            self.fails(TooMany, {"kind": "classes", "limit": 5}, Table.of_chart, chart)

    def test_values_that_are_no_charts(self):
        for value in NOT_MACHINES + [record(), Chart, "chart", table(right())]:
            self.fails(InvalidChart, {"value": value}, Table.of_chart, value)


class Steps(Case):

    def test_wrong_states_letters_and_ends(self):
        found = table(right())
        for state in NOT_COUNTS + [2, 3, HUGE]:
            self.fails(InvalidClass, {"value": state}, found.step, state, None, None)
        for letter in NOT_NAMES + ["get", 0]:
            self.fails(UnknownLetter, {"value": letter}, found.step, 1, letter, None)
        for ends in [None, True, TOP, "", [TOP], [], (), (TOP, TOP), {TOP: TOP}] + [(end,) for end in NOT_ENDS]:
            self.fails(InvalidEnds, {"value": ends}, found.step, 1, "put", ends)

    def test_wrong_end_histories(self):
        found = table(right())
        rights = [("put", HIGH), ("put", LOW)]
        for history in NOT_LISTS:
            self.fails(InvalidHistory, {"position": None}, found.outputs_of, history)
        wrong = [None, "put", ("put",), ["put", HIGH], ("put", TOP), ("put", [TOP]), ("put", ()), ("put", (TOP, TOP)),
                 ("put", HIGH, 0), ("get", HIGH), (None, HIGH), (["put"], HIGH)]
        for tick in wrong + [("put", (end,)) for end in NOT_ENDS]:
            for position in range(3):
                history = rights[:position] + [tick] + rights[position:] + [None]
                self.fails(InvalidHistory, {"position": position}, found.outputs_of, history)


class WrongTables(Case):

    def wrong_elements(self):
        """Return values that are no elements of a table with two states and one letter, one input and one output."""
        found = [None, True, 0, "put", [], (), {}, [("put", LOW)], set(), {None: (LOW, 0)}, {"put": (LOW, 0)}]
        for move in right()[0]:
            less = right()[0]
            del less[move]
            found.append(less)
        keys = [None, "put", ("put",), ("put", LOW, LOW), ("put", TOP), ("put", ()), ("put", (TOP, TOP)), (LOW, "put"),
                ("put", ("TOP",)), ("put", (1,)), ("put", (None,)), ("get", LOW), (None, LOW), ("Put", LOW), ("", LOW)]
        for key in keys:
            more, other = right()[0], right()[0]
            more[key] = (LOW, 0)
            del other["put", LOW]
            other[key] = (LOW, 0)
            found.extend([more, other])
        steps = [None, True, 0, (), (LOW,), (LOW, 0, 0), [LOW, 0], (0, LOW), (TOP, 0), ([TOP], 0), ((), 0), ((TOP, TOP), 0)]
        steps = steps + [((end,), 0) for end in NOT_ENDS] + [(LOW, state) for state in NOT_COUNTS + [2, 3, HUGE]]
        for step in steps:
            for move in right()[0]:
                other = right()[0]
                other[move] = step
                found.append(other)
        return found

    def test_first_wrong_element(self):
        for value in self.wrong_elements():
            self.fails(InvalidSteps, {"value": value}, table, [value, right()[1]])
            self.fails(InvalidSteps, {"value": value}, table, [right()[0], value])
            self.fails(InvalidSteps, {"value": value}, table, (value, None))

    def test_letters_are_those_of_the_first_element(self):
        both = right()[0]
        both.update({("get", ends): (LOW, 0) for ends in (LOW, HIGH)})
        self.equal(table([both, both]).letters, ["get", "put"])
        named = {("get", ends): (LOW, 0) for ends in (LOW, HIGH)}
        for first, second in ((both, right()[1]), (right()[0], both), (named, right()[1]), (right()[0], named)):
            self.fails(InvalidSteps, {"value": second}, table, [first, second])
        half = dict(both)
        del half["get", LOW]
        self.fails(InvalidSteps, {"value": half}, table, [half, half])

    def test_no_list_of_elements(self):
        for steps in NOT_LISTS + [[], (), right()[0], table(right())]:
            self.fails(InvalidSteps, {"value": steps}, table, steps)

    def test_numbers(self):
        for value in NOT_COUNTS:
            self.fails(InvalidCount, {"value": value}, table, None, value, None)
            self.fails(InvalidCount, {"value": value}, table, right(), value, 0)
            self.fails(InvalidCount, {"value": value}, table, right(), 1, value)
            self.fails(InvalidCount, {"value": value}, table, None, 0, value)
        self.fails(InvalidCount, {"value": 0}, table, right(), 1, 0)
        for inputs, outputs in ((0, 1), (2, 1), (1, 2), (HUGE, 1), (1, HUGE), (64, 1), (3, 3)):
            steps = right()
            self.fails(InvalidSteps, {"value": steps[0]}, table, steps, inputs, outputs)

    def test_limits(self):
        rng = random.Random(104)
        numbers = {"classes": 5, "letters": 3, "inputs": 2, "outputs": 2}
        words = ["a", "b", "c", "d"]
        for beyond in itertools.product((0, 1), repeat=4):
            states, letters, inputs, outputs = [number + more for number, more in zip(numbers.values(), beyond)]
            steps = some_steps(rng, states, words[:letters], inputs, outputs)
            if not any(beyond):
                self.equal(len(table(steps, inputs, outputs)), 5)
                continue
            kind = list(numbers)[beyond.index(1)]
            self.fails(TooMany, {"kind": kind, "limit": numbers[kind]}, table, steps, inputs, outputs)
            # What is wrong in the last element comes ahead of that.
            steps[-1]["a", (TOP,) * inputs] = ((TOP,) * outputs, states)
            self.fails(InvalidSteps, {"value": steps[-1]}, table, steps, inputs, outputs)

    def test_many_inputs_with_all_moves(self):
        steps = [{move: (LOW, 0) for move in moves("a", 6)}]
        self.fails(TooMany, {"kind": "inputs", "limit": 2}, table, steps, 6)
        del steps[0]["a", (TOP,) * 6]
        self.fails(InvalidSteps, {"value": steps[0]}, table, steps, 6)


if __name__ == "__main__":
    unittest.main()
