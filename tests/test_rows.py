"""[53] and heldranks/rows.py of the interface."""

import itertools
import random
import unittest

from heldranks.charts import Chart
from heldranks.errors import InvalidChart, InvalidClass, InvalidCount, TooMany
from heldranks.holders import Holder
from heldranks.machines import Machine, Row
from heldranks.makers import best, line, pile, ranked, recent, record
from heldranks.needed import needed, row_after
from heldranks.rows import (
    is_rows_paper, most_history, most_needed, most_ticks, rows_from, rows_of, rows_paper)
from heldranks.terms import End, Place, kth
from tests.helpers import (
    BOTTOM, HUGE, NOT_COUNTS, NOT_LISTS, TOP, Case, at, some_history, some_machines, two_inputs, without_inputs)
from tests.search import NOT_MACHINES

NOT_CHARTS = NOT_MACHINES + [record(), Chart, "chart"]


def sample():
    """Return charts with not too many rows."""
    found = [Chart.of_machine(machine) for machine in some_machines(91, 60)]
    found = [chart for chart in found if len(chart) <= 12]
    made = [record(), line(2), pile(2), ranked(3), best(2), recent(3, 2), two_inputs(), without_inputs(), countdown()]
    return found + [Chart.of_machine(machine) for machine in made]


def ordered(rows):
    return sorted(rows, key=lambda row: (len(row), row))


def ticked(chart, row, letter, values, cells):
    """Return the row that a tick makes of a row with these cells, by looking at all levels."""
    found = []
    for level in range(4 * len(cells) + 4, -1, -1):
        number = row[len([cell for cell in cells if cell >= level])]
        behind = chart.next_class(number, letter, tuple(at(value, level) for value in values))
        if not found or found[-1] != behind:
            found.append(behind)
    return tuple(found)


def made_from(chart, row):
    """Return the set of the rows that ticks make of a row."""
    cells = [4 * k for k in range(len(row) - 1, 0, -1)]
    values = [BOTTOM, TOP] + [value for value in range(1, 4 * len(row)) if value < 4 or value - 1 not in cells]
    return {ticked(chart, row, letter, chosen, cells)
            for letter in chart.letters for chosen in itertools.product(values, repeat=chart.inputs)}


def reached(chart, most=10000):
    """Return a dict from the rows that ticks lead to, to the least number of ticks."""
    found, waiting = {(0,): 0}, [(0,)]
    for row in waiting:
        for behind in made_from(chart, row):
            if behind not in found and len(found) < most:
                found[behind] = found[row] + 1
                waiting.append(behind)
    return found


def is_row(chart, row):
    return all(a != b and chart.is_at_most(a, b) for a, b in zip(row, row[1:]))


def all_rows(chart, most):
    """Return all rising tuples of at most so many classes."""
    return [row for many in range(1, most + 1) for row in itertools.product(range(len(chart)), repeat=many)
            if is_row(chart, row)]


def closure(chart, rows):
    """Return the list of these rows and all that ticks make of them."""
    found, waiting = [], list(rows)
    while waiting:
        row = waiting.pop()
        if row not in found:
            found.append(row)
            waiting.extend(made_from(chart, row))
    return found


def countdown():
    """Return a machine with twelve modes, each of which tells TOP once more than the next one."""
    rows = {("m%d" % k, "go"): Row("m%d" % max(k - 1, 0), [], [End(TOP if k else BOTTOM)]) for k in range(12)}
    return Machine(rows, inputs=0, outputs=1, first="m11")


def slow_start(many):
    """Return a machine that tells TOP so many times, and then the third greatest of the last five values."""
    looked = [Place("x0")] + [Place(f"r{k}") for k in range(4)]
    rows = {("on", "put"): Row("on", looked[:-1], [kth(3, *looked)])}
    for k in range(many):
        rows[f"wait{k}", "put"] = Row(f"wait{k - 1}" if k else "on", [End(BOTTOM)] * 4, [End(TOP)])
    return Machine(rows, inputs=1, outputs=1, first=f"wait{many - 1}" if many else "on", begin=[BOTTOM] * 4)


def delay(many):
    """Return a machine that tells each value so many ticks later."""
    looked = [Place("x0")] + [Place(f"r{k}") for k in range(many)]
    rows = {("on", "put"): Row("on", looked[:-1], [looked[-1]])}
    return Machine(rows, inputs=1, outputs=1, first="on", begin=[BOTTOM] * many)


class Rows(Case):

    def test_against_ticks(self):
        for chart in sample():
            self.equal(rows_of(chart), ordered(reached(chart)))

    def test_rows_of_histories(self):
        rng = random.Random(92)
        for machine in [record(), line(2), pile(2), ranked(3), best(2), recent(3, 2), two_inputs()]:
            rows = rows_of(Chart.of_machine(machine))
            for _ in range(30):
                self.assertIn(row_after(machine, some_history(rng, machine, rng.randint(0, 8))), rows)

    def test_in_order(self):
        chart = Chart.of_machine(recent(3, 1))
        self.equal(rows_of(chart), [(0,), (1,), (2,), (0, 1), (0, 2), (2, 1), (0, 2, 1)])
        self.equal(rows_of(chart=Chart.of_machine(without_inputs())), [(0,), (1,)])
        self.equal(rows_of(Chart.of_machine(countdown())), [(k,) for k in range(12)])
        rows_of(chart).clear()
        self.equal(len(rows_of(chart)), 7)

    def test_just_200_and_more(self):
        machine = slow_start(5)
        chart = Chart.of_machine(machine)
        self.equal(len(reached(chart)), 200)
        self.equal(rows_of(chart), ordered(reached(chart)))
        self.equal([most_needed(chart), most_ticks(chart), len(most_history(chart))], [4, 9, 9])
        self.equal(len(needed(machine, most_history(chart))), 4)
        self.equal(is_rows_paper(chart, 4, rows_paper(chart)), True)

    def test_more_than_200(self):
        for machine in (slow_start(6), slow_start(7), delay(4), delay(5)):
            chart = Chart.of_machine(machine)
            self.assertEqual(len(reached(chart, 201)), 201)
            for function in (rows_of, most_needed, most_ticks, most_history, rows_paper):
                self.fails(TooMany, {"kind": "rows", "limit": 200}, function, chart)
            self.equal(rows_from(chart, (0,)), ordered(made_from(chart, (0,))))
            self.equal([is_rows_paper(chart, 9, [(0,)]), is_rows_paper(chart, 9, None)], [False, False])
        # More rows than there may be make no error of a paper; all that come in shift are listed.
        chart = Chart.of_machine(delay(4))
        paper = list(reached(chart))
        self.equal([len(paper) > 200, is_rows_paper(chart, 4, paper), is_rows_paper(chart, 3, paper)], [True, True, False])
        self.equal(is_rows_paper(chart, 4, paper[:100] + paper[101:]), False)


class Most(Case):

    def test_against_ticks(self):
        met = set()
        for chart in sample():
            ticks = reached(chart)
            most = max(len(row) for row in ticks) - 1
            self.equal(most_needed(chart=chart), most)
            self.equal(most_ticks(chart=chart), min(ticks[row] for row in ticks if len(row) == most + 1))
            met.add(most)
        self.assertLessEqual({0, 1, 2, 3}, met)

    def test_histories(self):
        machines = [machine for machine in some_machines(91, 60) if len(Chart.of_machine(machine)) <= 12]
        machines += [record(), line(3), pile(3), ranked(3), best(2), recent(3, 1), two_inputs(), without_inputs(),
                     countdown(), slow_start(3)]
        for machine in machines:
            chart = Chart.of_machine(machine)
            history = most_history(chart)
            self.assertIsInstance(history, list)
            self.equal(len(history), most_ticks(chart))
            self.equal(len(needed(machine, history)), most_needed(chart))
            holder = Holder(chart)
            holder.do_all(history)
            self.equal(len(holder), most_needed(chart))
            self.equal(most_history(chart=chart), history)

    def test_made_machines(self):
        self.equal([[most_needed(Chart.of_machine(make(many))) for many in (1, 2, 3)] for make in (line, pile, ranked)],
                   [[1, 2, 3]] * 3)
        self.equal([most_ticks(Chart.of_machine(machine)) for machine in (ranked(3), best(2), record(), slow_start(2))],
                   [3, 2, 1, 6])
        self.equal([most_needed(Chart.of_machine(machine)) for machine in (recent(1, 1), recent(3, 1), recent(3, 3))],
                   [0, 2, 2])
        self.equal([most_ticks(Chart.of_machine(recent(1, 1))), most_history(Chart.of_machine(recent(1, 1)))], [0, []])


class RowsFrom(Case):

    def test_rows_that_come(self):
        for chart in sample():
            for row in list(reached(chart))[:12]:
                self.equal(rows_from(chart, row), ordered(made_from(chart, row)))
                self.equal(rows_from(row=row, chart=chart), rows_from(chart, row))

    def test_rows_that_no_history_has(self):
        many = 0
        for chart in sample():
            if chart.inputs < 2:
                others = [row for row in all_rows(chart, 3) if row not in rows_of(chart)]
                many += len(others)
                for row in others[:8]:
                    self.equal(rows_from(chart, row), ordered(made_from(chart, row)))
        self.assertGreater(many, 20)

    def test_long_rows(self):
        chart = Chart.of_machine(countdown())
        row = tuple(range(11, -1, -1))
        self.equal(rows_from(chart, row), [row[:-1]])
        self.fails(InvalidClass, {"value": row[::-1]}, rows_from, chart, row[::-1])
        self.equal(rows_from(chart, row[::3]), [(11, 9, 6, 3)])

    def test_two_inputs_at_one_place_or_apart(self):
        chart = Chart.of_machine(two_inputs())
        for row in rows_of(chart):
            self.equal(rows_from(chart, row), ordered(made_from(chart, row)))

    def test_values_that_are_none(self):
        for machine in (recent(3, 1), ranked(2), without_inputs(), slow_start(7)):
            chart = Chart.of_machine(machine)
            rows = [(a, b) for a in range(len(chart)) for b in range(len(chart)) if a != b]
            falling = [row for row in rows if not chart.is_at_most(*row)]
            self.assertTrue(falling)
            wrong = falling + [row + (row[1],) for row in rows] + [(0, *row) for row in falling]
            wrong = wrong + [(0, 0), (1, 1), (), [0], [], None, True, 0, "0", {0: 0}, ((0,),), (None,), ("0",), (0, None)]
            wrong = wrong + [(value,) for value in NOT_COUNTS + [len(chart), len(chart) + 1, HUGE]]
            for value in wrong:
                self.fails(InvalidClass, {"value": value}, rows_from, chart, value)


class Papers(Case):

    def test_told(self):
        rng = random.Random(94)
        for chart in sample():
            paper = rows_paper(chart)
            most = most_needed(chart)
            self.assertIsInstance(paper, list)
            self.assertLessEqual(max(len(row) for row in paper), most + 1)
            self.equal([is_rows_paper(chart, many, paper) for many in range(most + 3)], [False] * most + [True] * 3)
            rng.shuffle(paper)
            self.equal(is_rows_paper(value=tuple(paper), many=most, chart=chart), True)
            self.equal(is_rows_paper(chart, most, paper + paper), True)
            self.equal(is_rows_paper(chart, HUGE, paper), True)

    def test_a_row_left_out(self):
        for chart in sample():
            paper, most = rows_paper(chart), most_needed(chart)
            for k in range(min(8, len(paper))):
                less = paper[:k] + paper[k + 1:]
                expected = (0,) in less and all(made_from(chart, row) <= set(less) for row in less)
                self.equal(is_rows_paper(chart, most, less), expected)
            self.equal([is_rows_paper(chart, most, [row for row in paper if row != (0,)]),
                        is_rows_paper(chart, most, [])], [False, False])

    def test_further_rows(self):
        met = set()
        for chart in sample():
            if chart.inputs == 2:
                continue
            paper, most = rows_of(chart), most_needed(chart)
            for row in [row for row in all_rows(chart, 3) if row not in paper][:6]:
                added = closure(chart, [row])
                for more in ([row], added):
                    whole = paper + more
                    expected = all(made_from(chart, row) <= set(whole) for row in whole)
                    for many in (most, most + 2):
                        fits = expected and max(len(row) for row in whole) <= many + 1
                        self.equal(is_rows_paper(chart, many, whole), fits)
                        met.add((len(more) > 1, fits))
        self.assertEqual(met, {(False, False), (False, True), (True, False), (True, True)})

    def test_rows_that_do_not_rise(self):
        chart = Chart.of_machine(recent(3, 1))
        paper = rows_paper(chart)
        for row in [(1, 0), (0, 0), (0, 1, 1), (0, 1, 2), (), [0], [0, 1], (True,), (False,), (0, True), (3,), (-1,),
                    None, 0, "0", ("0",), ((0,),), {0: 1}]:
            for value in (paper + [row], [row] + paper):
                self.equal(is_rows_paper(chart, 2, value), False)
                self.equal(is_rows_paper(chart, 9, value), False)
        self.equal(is_rows_paper(chart, 2, paper), True)
        for value in NOT_LISTS + [chart, dict.fromkeys(paper), set(paper), (0,), [(False,)] + paper[1:]]:
            self.equal(is_rows_paper(chart, 2, value), False)
        self.equal(paper, rows_of(chart))

    def test_numbers_that_are_no_count(self):
        for machine in (record(), slow_start(7)):
            chart = Chart.of_machine(machine)
            for many in NOT_COUNTS:
                self.fails(InvalidCount, {"value": many}, is_rows_paper, chart, many, None)


class WrongCharts(Case):

    def test_each_function(self):
        for value in NOT_CHARTS:
            for function in (rows_of, most_needed, most_ticks, most_history, rows_paper):
                self.fails(InvalidChart, {"value": value}, function, value)
            self.fails(InvalidChart, {"value": value}, is_rows_paper, value, None, None)
            self.fails(InvalidChart, {"value": value}, rows_from, value, None)

    def test_document(self):
        self.equal([most_needed(Chart.of_machine(ranked(3))), len(rows_of(Chart.of_machine(recent(3, 1))))], [3, 7])


if __name__ == "__main__":
    unittest.main()
