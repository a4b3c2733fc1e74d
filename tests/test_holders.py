"""[51], [52] and heldranks/holders.py of the interface."""

import random
import unittest

from heldranks.charts import Chart
from heldranks.errors import (
    InvalidChart, InvalidHistory, InvalidMachine, InvalidValues, TooMany, UnknownLetter)
from heldranks.holders import Holder
from heldranks.makers import best, line, pile, ranked, recent, record
from heldranks.needed import needed, row_after
from tests.helpers import (
    BOTTOM, HUGE, NOT_LISTS, NOT_NAMES, NOT_VALUES, TOP, Case, counter, left_counter, plain_run, some_end, some_history,
    some_machines, some_value, two_inputs, without_inputs)
from tests.search import NOT_MACHINES, disguised, with_last

NOT_CHARTS = NOT_MACHINES + [record(), Chart, "chart"]
NOT_TICKS = [None, True, 0, "put", (), ("put",), ("put", 1), ("put", [1]), ["put", (1,)], ("put", (1,), 1), ("put", ()),
             ("put", (1, 2)), ((1,), "put"), ("take", (1,)), (None, (1,)), (["put"], (1,))]
NOT_TICKS = NOT_TICKS + [("put", (value,)) for value in NOT_VALUES]


def sample():
    made = [record(), line(3), pile(2), ranked(3), best(2), recent(3, 2), two_inputs(), without_inputs()]
    return some_machines(81, 40) + made + [with_last(machine) for machine in made]


class BesideMachines(Case):

    def look(self, holder, machine, history):
        """Ask that a holder holds just what is needed after a history."""
        self.equal(holder.cells, tuple(needed(machine, history)))
        self.equal(holder.row, row_after(machine, history))
        self.equal(len(holder), len(holder.cells))

    def test_tick_by_tick(self):
        rng = random.Random(81)
        for machine in sample():
            for value in (some_value, some_end, lambda rng: rng.choice([1, 2, 3, 4, 5, 9])):
                holder, history = Holder.of_machine(machine), some_history(rng, machine, 12, value)
                outputs = plain_run(machine, history)[0]
                self.look(holder, machine, [])
                for k, (letter, values) in enumerate(history):
                    self.equal(holder.do(letter, *values), outputs[k])
                    self.look(holder, machine, history[:k + 1])

    def test_any_machine_with_its_chart(self):
        rng = random.Random(82)
        for machine in some_machines(82, 20):
            chart = Chart.of_machine(machine)
            for other in (machine, disguised(rng, machine)):
                history = some_history(rng, other, 10)
                holder = Holder(chart)
                self.equal(holder.do_all(history), plain_run(other, history)[0])
                self.look(holder, other, history)

    def test_several_holders_of_one_chart(self):
        chart = Chart.of_machine(ranked(3))
        one, other = Holder(chart), Holder(chart)
        one.do("put", 4)
        other.do_all([("put", (8,)), ("put", (6,))])
        self.equal([one.cells, other.cells], [(4,), (8, 6)])
        self.equal([one.do("take", 0), other.do("take", 0), one.cells, other.cells], [(4,), (8,), (), (6,)])

    def test_before_the_first_tick(self):
        holder = Holder.of_machine(machine=record())
        self.equal([holder.cells, holder.row, len(holder)], [(), (0,), 0])
        self.assertEqual(holder.chart, Chart.of_machine(record()))
        self.assertEqual(Holder(chart=holder.chart), holder)

    def test_cuts(self):
        holder = Holder.of_machine(best(2))
        self.equal([holder.do("put", 5), holder.cells], [(5, BOTTOM), (5,)])
        # Equal values are one cut, and count twice all the same.
        self.equal([holder.do("put", 5), holder.cells, holder.row], [(5, 5), (5,), (0, 2)])
        self.equal([holder.do("put", HUGE), holder.cells], [(HUGE, 5), (HUGE, 5)])
        self.equal([holder.do("put", TOP), holder.cells], [(TOP, HUGE), (HUGE,)])
        self.equal([holder.do("put", BOTTOM), holder.cells], [(TOP, HUGE), (HUGE,)])
        self.equal([holder.do("put", TOP), holder.cells, len(holder)], [(TOP, TOP), (), 0])

    def test_document(self):
        holder = Holder.of_machine(recent(3, 1))
        self.equal([holder.do("put", 9), holder.do("put", 2), holder.cells, holder.do("put", 4), holder.cells],
                   [(9,), (9,), (9, 2), (9,), (4,)])

    def test_long_histories(self):
        history = [("put", (k * 7 - k * k,)) for k in range(200)]
        self.equal(Holder.of_machine(recent(3, 3)).do_all(history), plain_run(recent(3, 3), history)[0])


class Methods(Case):

    def test_all_at_once(self):
        rng = random.Random(83)
        for machine in sample()[:25]:
            one, other = Holder.of_machine(machine), Holder.of_machine(machine)
            history = some_history(rng, machine, 8)
            expected = [other.do(letter, *values) for letter, values in history]
            self.equal(one.do_all(history[:5]) + one.do_all(history=tuple(history[5:])), expected)
            self.assertEqual(one, other)
            self.equal([one.do_all([]), one.do_all(())], [[], []])
            self.assertEqual(one, other)

    def test_wrong_ticks_at_any_place(self):
        right = [("put", (3,)), ("put", (8,)), ("reset", (1,))]
        holder = Holder.of_machine(record())
        holder.do("put", 5)
        for history in NOT_LISTS:
            self.fails(InvalidHistory, {"position": None}, holder.do_all, history)
        for tick in NOT_TICKS:
            for position in range(4):
                history = right[:position] + [tick] + right[position:] + [None]
                self.fails(InvalidHistory, {"position": position}, holder.do_all, history)
                self.equal([holder.cells, holder.row], [(5,), (0, 1)])
        self.equal(holder.do_all(right), [(5,), (8,), (BOTTOM,)])

    def test_wrong_letters_and_values(self):
        holder = Holder.of_machine(record())
        holder.do("put", 5)
        for letter in NOT_NAMES + ["take", "has0", 0]:
            for values in ((), (1,), (None,), (1, 2)):
                self.fails(UnknownLetter, {"value": letter}, holder.do, letter, *values)
        for values in [(), (1, 2)] + [(value,) for value in NOT_VALUES]:
            self.fails(InvalidValues, {"value": values}, holder.do, "put", *values)
        self.equal([holder.cells, holder.row], [(5,), (0, 1)])
        other = Holder.of_machine(two_inputs())
        for values in [(), (1,), (1, 2, 3)] + [(value, 2) for value in NOT_VALUES] + [(2, value) for value in NOT_VALUES]:
            self.fails(InvalidValues, {"value": values}, other.do, "go", *values)
        self.equal(other.cells, ())

    def test_reset(self):
        for machine in (record(), ranked(3), without_inputs()):
            holder = Holder.of_machine(machine)
            for letter in (machine.letters[0], machine.letters[-1]):
                holder.do(letter, *[7] * machine.inputs)
                self.assertIsNone(holder.reset())
                self.equal([holder.cells, holder.row], [(), (0,)])
                self.assertEqual(holder, Holder.of_machine(machine))
                self.assertIsNone(holder.reset())

    def test_copies(self):
        holder = Holder.of_machine(ranked(2))
        holder.do_all([("put", (4,)), ("put", (8,))])
        twin = holder.copy()
        self.assertIsInstance(twin, Holder)
        self.equal([twin.cells, twin.row], [holder.cells, holder.row])
        self.assertEqual(twin, holder)
        self.equal([twin.do("take", 1), twin.cells, holder.cells], [(8,), (4,), (8, 4)])
        self.assertNotEqual(twin, holder)
        holder.reset()
        self.equal([twin.cells, twin.do("take", 1)], [(4,), (4,)])

    def test_equality(self):
        one, other = Holder.of_machine(line(1)), Holder.of_machine(pile(1))
        self.assertTrue(one == other and not one != other)
        one.do("put", 4)
        self.assertTrue(one != other and not one == other)
        other.do("put", 5)
        self.assertNotEqual(one, other)
        other.do_all([("take", (0,)), ("put", (4,))])
        self.assertEqual(one, other)
        # The same row with other cells, and the same cells with another row.
        three, more = Holder.of_machine(recent(3, 1)), Holder.of_machine(recent(3, 1))
        three.do("put", 4)
        more.do_all([("put", (4,)), ("put", (BOTTOM,))])
        self.equal([three.cells, more.cells, three.row == more.row], [(4,), (4,), False])
        self.assertNotEqual(three, more)
        # The same cells and the same row with another chart.
        self.assertNotEqual(Holder.of_machine(recent(2, 1)), Holder.of_machine(recent(2, 2)))
        for value in (None, 0, 1, (4,), [4], "holder", one.chart, line(1)):
            self.assertFalse(one == value)
            self.assertTrue(one != value)

    def test_which_values_are_cells(self):
        holder = Holder.of_machine(ranked(3))
        holder.do_all([("put", (1,)), ("put", (0,)), ("put", (TOP,))])
        self.equal(holder.cells, (1, 0))
        self.equal([0 in holder, 1 in holder, 2 in holder, -1 in holder], [True, True, False, False])
        for value in NOT_VALUES + [BOTTOM, TOP, (1, 0), (1,), {1}, holder]:
            self.equal([value in holder, value not in holder], [False, True])
        holder.reset()
        self.equal([0 in holder, 1 in holder], [False, False])

    def test_what_was_told_stays(self):
        holder = Holder.of_machine(ranked(2))
        holder.do("put", 4)
        cells, row = holder.cells, holder.row
        holder.do("put", 9)
        self.equal([cells, len(row), holder.cells], [(4,), 2, (9, 4)])


class Limits(Case):

    def test_just_96_end_states(self):
        for machine in (counter(4, 6), counter(5, 3)):
            self.equal(Holder.of_machine(machine).do_all([("go", (3,)), ("go", (4,))]), [(3,), (4,)])

    def test_more(self):
        for machine in (left_counter(4, 6), counter(6, 2)):
            self.fails(TooMany, {"kind": "states", "limit": 96}, Holder.of_machine, machine)


class WrongInputs(Case):

    def test_values_that_are_no_charts(self):
        for value in NOT_CHARTS:
            self.fails(InvalidChart, {"value": value}, Holder, value)

    def test_values_that_are_no_machines(self):
        for value in NOT_MACHINES + [Chart.of_machine(record())]:
            self.fails(InvalidMachine, {"value": value}, Holder.of_machine, value)


if __name__ == "__main__":
    unittest.main()
