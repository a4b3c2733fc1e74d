"""[41], [42] and heldranks/charts.py of the interface."""

import random
import unittest

from heldranks.charts import Chart
from heldranks.errors import InvalidClass, InvalidEnds, InvalidHistory, InvalidMachine, TooMany, UnknownLetter
from heldranks.machines import Machine, Row
from heldranks.makers import best, line, pile, ranked, recent, record
from heldranks.pairs import are_alike
from heldranks.runs import outputs_of
from tests.helpers import (
    BOTTOM, HUGE, NOT_COUNTS, NOT_ENDS, NOT_LISTS, NOT_NAMES, TOP, Case, counter, left_counter, some_end, some_history,
    some_machines, two_inputs, without_inputs)
from tests.search import (
    NOT_MACHINES, above, changed, classes_as_met, disguised, first_of, followed, least_ticks, moves_of, reached_steps,
    steps_of, unlike)

NOT_CHARTS = NOT_MACHINES + [record(), Chart, "chart"]


def sample():
    return some_machines(61, 40) + [record(), line(3), pile(2), ranked(3), best(2), recent(3, 2), two_inputs(),
                                    without_inputs()]


class Parts(Case):

    def test_against_a_search(self):
        for machine in sample():
            chart, expected = Chart.of_machine(machine), classes_as_met(reached_steps(machine), first_of(machine))
            self.equal(len(chart), len(expected))
            self.equal([chart.letters, chart.inputs, chart.outputs],
                       [machine.letters, machine.inputs, machine.outputs])
            self.equal(chart.moves(), moves_of(machine))
            for number in range(len(chart)):
                for letter, ends in moves_of(machine):
                    outputs, behind = expected[number][letter, ends]
                    self.equal(chart.told(number, letter, ends), outputs)
                    self.equal(chart.next_class(number, letter, ends), behind)

    def test_as_they_are_met(self):
        chart = Chart.of_machine(machine=recent(3, 1))
        self.equal([[chart.next_class(k, "put", (end,)) for end in (BOTTOM, TOP)] for k in range(3)],
                   [[0, 1], [2, 1], [0, 1]])
        self.equal([chart.told(ends=(BOTTOM,), letter="put", number=k) for k in range(3)],
                   [(BOTTOM,), (TOP,), (TOP,)])
        self.equal(chart.next_class(ends=(TOP,), letter="put", number=2), 1)
        self.equal([len(Chart.of_machine(machine)) for machine in (recent(3, 1), best(2), record(), without_inputs())],
                   [3, 3, 2, 2])

    def test_new_each_time(self):
        chart = Chart.of_machine(record())
        chart.letters.clear()
        chart.moves().clear()
        chart.parted_by(0, 1).clear()
        chart.above_by(1, 0).clear()
        self.equal([chart.letters, len(chart.moves())], [["put", "reset"], 4])
        self.equal([len(chart.parted_by(0, 1)), len(chart.above_by(1, 0))], [1, 1])

    def test_after_histories(self):
        rng = random.Random(62)
        for machine in sample():
            chart = Chart.of_machine(machine)
            for ticks in (0, 1, 7):
                history = some_history(rng, machine, ticks, some_end)
                outputs, number = followed(steps_of(chart), 0, history)
                self.equal(chart.class_after(history), number)
                self.equal(chart.class_after(history=tuple(history)), number)
                self.equal(outputs, outputs_of(machine, history))


class Equality(Case):

    def test_alike_machines(self):
        rng = random.Random(63)
        met = set()
        for machine in some_machines(63, 50):
            for other in (disguised(rng, machine), changed(rng, machine)):
                same = are_alike(machine, other)
                met.add(same)
                self.assertEqual(Chart.of_machine(machine) == Chart.of_machine(other), same)
                self.assertEqual(Chart.of_machine(machine) != Chart.of_machine(other), not same)
        self.assertEqual(met, {True, False})

    def test_made_machines(self):
        self.assertEqual(Chart.of_machine(line(1)), Chart.of_machine(pile(1)))
        self.assertNotEqual(Chart.of_machine(line(2)), Chart.of_machine(pile(2)))
        self.assertNotEqual(Chart.of_machine(recent(2, 1)), Chart.of_machine(recent(2, 2)))

    def test_other_letters_and_other_kinds(self):
        chart = Chart.of_machine(record())
        rows = {("on", "set" if letter == "reset" else letter): row for (_, letter), row in record().rows().items()}
        rows = {(mode, letter): Row("on", row.registers, row.outputs) for (mode, letter), row in rows.items()}
        named = Machine(rows, inputs=1, outputs=1, first="on", begin=[BOTTOM])
        self.equal([len(Chart.of_machine(named)), Chart.of_machine(named).letters], [2, ["put", "set"]])
        for other in [Chart.of_machine(named), Chart.of_machine(best(1)), None, 2, "chart", record(), [], {}]:
            self.assertFalse(chart == other)
            self.assertTrue(chart != other)


class Classes(Case):

    def test_all_pairs(self):
        for machine in sample():
            chart = Chart.of_machine(machine)
            steps = steps_of(chart)
            parted, raised = least_ticks(steps, steps, unlike), least_ticks(steps, steps, above)
            for one in range(len(chart)):
                for other in range(len(chart)):
                    self.equal(chart.is_at_most(one, other), (one, other) not in raised)
                    for found, ticks, is_wrong in (
                            (chart.parted_by(one, other), parted.get((one, other)), unlike),
                            (chart.above_by(one, other), raised.get((one, other)), above)):
                        self.equal(found is None, ticks is None)
                        if found is not None:
                            self.equal(len(found), ticks)
                            outputs, others = followed(steps, one, found)[0], followed(steps, other, found)[0]
                            self.assertTrue(is_wrong(outputs[-1], others[-1]))

    def test_one_class(self):
        chart = Chart.of_machine(ranked(2))
        for number in range(len(chart)):
            self.equal([chart.parted_by(number, number), chart.above_by(number, number)], [None, None])
            self.equal(chart.is_at_most(one=number, other=number), True)

    def test_classes_that_are_above_one_another_in_turn(self):
        chart = Chart.of_machine(without_inputs())
        self.equal([chart.above_by(0, 1), chart.above_by(other=0, one=1)], [[("go", ())] * 2, [("go", ())]])
        self.equal([chart.is_at_most(0, 1), chart.is_at_most(1, 0)], [False, False])

    def test_repeated_queries(self):
        chart = Chart.of_machine(ranked(3))
        self.equal(chart.parted_by(one=1, other=2), chart.parted_by(1, 2))
        self.equal(chart.above_by(2, 1), chart.above_by(other=1, one=2))


class Limits(Case):

    def test_just_96_end_states(self):
        for machine in (counter(4, 6), counter(5, 3)):
            self.equal(len(Chart.of_machine(machine)), 1)
        wide = counter(5, 3)
        self.equal(Chart.of_machine(wide) == Chart.of_machine(counter(1, 1)), True)

    def test_more(self):
        for machine in (left_counter(4, 6), counter(6, 2)):
            self.fails(TooMany, {"kind": "states", "limit": 96}, Chart.of_machine, machine)


class WrongInputs(Case):

    def test_values_that_are_no_machines(self):
        for value in NOT_MACHINES:
            self.fails(InvalidMachine, {"value": value}, Chart.of_machine, value)

    def test_classes(self):
        for machine in (record(), ranked(2)):
            chart = Chart.of_machine(machine)
            for value in NOT_COUNTS + [len(chart), len(chart) + 1, HUGE]:
                for method in (chart.next_class, chart.told):
                    self.fails(InvalidClass, {"value": value}, method, value, None, None)
                for method in (chart.is_at_most, chart.parted_by, chart.above_by):
                    self.fails(InvalidClass, {"value": value}, method, value, 0)
                    self.fails(InvalidClass, {"value": value}, method, 0, value)
                    self.fails(InvalidClass, {"value": value}, method, value, "other")

    def test_letters_and_ends(self):
        chart, other = Chart.of_machine(record()), Chart.of_machine(two_inputs())
        for method in (chart.next_class, chart.told):
            for letter in NOT_NAMES + ["take", "has0", 0]:
                self.fails(UnknownLetter, {"value": letter}, method, 0, letter, None)
            for ends in [None, True, TOP, "", [TOP], [], (), (TOP, TOP), {TOP: TOP}] + [(end,) for end in NOT_ENDS]:
                self.fails(InvalidEnds, {"value": ends}, method, 1, "put", ends)
        for ends in ((TOP,), [TOP, TOP], (TOP, 1), (5, TOP), (TOP, TOP, TOP)):
            self.fails(InvalidEnds, {"value": ends}, other.told, 0, "go", ends)

    def test_end_histories(self):
        chart = Chart.of_machine(record())
        right = [("put", (TOP,)), ("reset", (BOTTOM,))]
        for history in NOT_LISTS:
            self.fails(InvalidHistory, {"position": None}, chart.class_after, history)
        wrong = [None, "put", ("put",), ["put", (TOP,)], ("put", TOP), ("put", [TOP]), ("put", ()), ("put", (TOP, TOP)),
                 ("put", (TOP,), 0), ("take", (TOP,)), (None, (TOP,)), (["put"], (TOP,))]
        for tick in wrong + [("put", (end,)) for end in NOT_ENDS]:
            for position in range(3):
                history = right[:position] + [tick] + right[position:] + [None]
                self.fails(InvalidHistory, {"position": position}, chart.class_after, history)


if __name__ == "__main__":
    unittest.main()
