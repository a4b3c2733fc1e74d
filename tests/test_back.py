"""[61], [62], [63], [64] and heldranks/back.py of the interface."""

import itertools
import random
import unittest

from heldranks.back import (
    falling, is_machine_of, is_rising, is_rising_paper, machine_of, merged, rising_paper)
from heldranks.charts import Chart
from heldranks.ends import end_states
from heldranks.errors import InvalidMachine, InvalidTable, NotRising, TooMany
from heldranks.machines import Machine, Row
from heldranks.makers import best, line, recent, record
from heldranks.runs import outputs_of
from heldranks.tables import Table
from heldranks.terms import End
from tests.helpers import (
    BOTTOM, HUGE, NOT_COUNTS, NOT_LISTS, TOP, Case, at, counter, left_counter, some_end, some_history, some_machines,
    two_inputs, without_inputs)
from tests.search import (
    NOT_MACHINES, above, changed, classes_as_met, disguised, first_of, least_ticks, moves_of, reached_steps, steps_of,
    under, unlike)

NOT_TABLES = NOT_MACHINES + [record(), Chart.of_machine(record()), Table, "table"]
ABOVE = {"kind": "sets", "limit": 12}


def made(steps, inputs, outputs):
    """Return the Table of a dict of steps."""
    return Table([steps[k] for k in sorted(steps)], inputs=inputs, outputs=outputs)


def any_table(rng):
    """Return a table by chance."""
    states, inputs, outputs = rng.randint(1, 5), rng.randint(0, 2), rng.randint(1, 2)
    letters = "abc"[:rng.randint(1, 3)]
    moves = [(letter, ends) for letter in letters for ends in itertools.product([BOTTOM, TOP], repeat=inputs)]
    steps = {k: {move: (tuple(some_end(rng) for _ in range(outputs)), rng.randrange(states)) for move in moves}
             for k in range(states)}
    return made(steps, inputs, outputs)


def rising_numbers(rng, least, most):
    """Return five rising numbers up to the most, of which none is below the least one at its place."""
    found, number = [], 0
    for low in least:
        number = max(number, low)
        number = rng.randint(number, most) if rng.random() < 0.5 else number
        found.append(number)
    return found


def chain(rng):
    """Return a rising table of five states, of which each one is at most the next one, in another sequence."""
    names = list(range(5))
    rng.shuffle(names)
    steps = {k: {} for k in range(5)}
    for letter in "abc"[:rng.randint(2, 3)]:
        low = rising_numbers(rng, [0] * 5, 4)
        told = rng.randint(0, 6)
        for end, behind, first in ((BOTTOM, low, told), (TOP, rising_numbers(rng, low, 4), rng.randint(0, told))):
            for k in range(5):
                steps[names[k]][letter, (end,)] = ((TOP if k >= first else BOTTOM,), names[behind[k]])
    return made(steps, 1, 1)


def spoilt(rng, table):
    """Return a table in which one step is another one."""
    steps = steps_of(table)
    row = steps[rng.randrange(len(table))]
    move = rng.choice(sorted(row))
    if rng.random() < 0.5:
        row[move] = (row[move][0], rng.randrange(len(table)))
    else:
        row[move] = (tuple(some_end(rng) for _ in row[move][0]), row[move][1])
    return made(steps, table.inputs, table.outputs)


def late_falling(ticks):
    """Return a table of four states that falls at the last one of some ticks, with the same outputs before."""
    steps = {k: {("go", (end,)): ((BOTTOM,), min(k + 1, 3)) for end in (BOTTOM, TOP)} for k in range(4)}
    # The way of TOP ends in state 2, in which nothing is told; that of BOTTOM ends in state 3.
    steps[0]["go", (TOP,)] = ((BOTTOM,), 4)
    steps[4] = {("go", (end,)): ((BOTTOM,), 4) for end in (BOTTOM, TOP)}
    for end in (BOTTOM, TOP):
        steps[ticks - 1]["go", (end,)] = ((TOP,), 3)
    return made(steps, 1, 1)


def sample():
    rng = random.Random(111)
    found = [any_table(rng) for _ in range(60)] + [chain(rng) for _ in range(40)]
    charts = [Chart.of_machine(machine) for machine in some_machines(111, 40) + [record(), best(2), recent(3, 1),
                                                                                   recent(3, 2), line(1), two_inputs()]]
    tables = [Table.of_chart(chart) for chart in charts if len(chart) <= 5]
    return found + tables + [spoilt(rng, table) for table in tables + found[60:]] + [late_falling(k) for k in (2, 3, 4)]


def higher_moves(move):
    """Return the moves with the same letter whose ENDS are those of a move, or above them."""
    return [(move[0], ends) for ends in itertools.product([BOTTOM, TOP], repeat=len(move[1])) if under(move[1], ends)]


def rising_ticks(steps):
    """Return for all pairs of states the least number of ticks until they fall, if there is one, by rounds."""
    pairs = list(itertools.product(steps, repeat=2))
    doubles = [(low, high) for low in steps[0] for high in higher_moves(low)]
    found = {}
    for ticks in range(1, len(pairs) + 2):
        new = []
        for one, other in pairs:
            both = [(steps[one][low], steps[other][high]) for low, high in doubles]
            if (one, other) in found:
                continue
            if any(above(a[0], b[0]) for a, b in both) or any((a[1], b[1]) in found for a, b in both):
                new.append((one, other))
        found.update({pair: ticks for pair in new})
    return found


def sets_of(table):
    """Return how many sets a table has."""
    steps = steps_of(merged(table))
    found = [frozenset([0])]
    for states in found:
        for letter in table.letters:
            behind = frozenset(steps[state][move][1] for state in states for move in steps[state] if move[0] == letter)
            if behind not in found:
                found.append(behind)
    return len(found)


class Rising(Case):

    def test_against_a_search(self):
        met = set()
        for table in sample():
            ticks = rising_ticks(steps_of(table)).get((0, 0))
            found = falling(table)
            self.equal(is_rising(table), ticks is None)
            self.equal(found is None, ticks is None)
            met.add(ticks)
            if found is not None:
                self.look(table, found, ticks)
        self.assertLessEqual({None, 1, 2, 3, 4}, met)

    def look(self, table, found, ticks):
        """Ask that a table is falling at a tuple of two end histories of so many ticks."""
        low, high = found
        self.equal([found.__class__, low.__class__, high.__class__], [tuple, list, list])
        self.equal([len(low), len(high)], [ticks, ticks])
        self.equal([letter for letter, _ in low], [letter for letter, _ in high])
        self.assertTrue(all(under(a[1], b[1]) for a, b in zip(low, high)))
        self.assertTrue(above(table.outputs_of(low)[-1], table.outputs_of(high)[-1]))

    def test_at_the_first_tick_and_late(self):
        at_once = made({0: {("go", (BOTTOM,)): ((TOP,), 0), ("go", (TOP,)): ((BOTTOM,), 0)}}, 1, 1)
        self.equal(falling(at_once), ([("go", (BOTTOM,))], [("go", (TOP,))]))
        for ticks in (2, 3, 4):
            self.look(late_falling(ticks), falling(table=late_falling(ticks)), ticks)
            self.equal([is_rising(table=late_falling(ticks)), rising_paper(late_falling(ticks))], [False, None])

    def test_states_that_are_not_reached_are_no_matter(self):
        steps = {0: {("go", (BOTTOM,)): ((BOTTOM,), 0), ("go", (TOP,)): ((TOP,), 0)},
                 1: {("go", (BOTTOM,)): ((TOP,), 0), ("go", (TOP,)): ((BOTTOM,), 0)}}
        self.equal([is_rising(made(steps, 1, 1)), falling(made(steps, 1, 1))], [True, None])

    def test_charts_of_machines_are_rising(self):
        for machine in some_machines(112, 60):
            chart = Chart.of_machine(machine)
            if len(chart) <= 5:
                self.equal(is_rising(Table.of_chart(chart)), True)

    def test_other_letters_are_not_compared(self):
        steps = {0: {("a", ()): ((TOP,), 0), ("b", ()): ((BOTTOM,), 0)}}
        self.equal(is_rising(made(steps, 0, 1)), True)

    def test_repeated_queries(self):
        table = late_falling(3)
        falling(table)[0].clear()
        self.equal(len(falling(table)[0]), 3)
        self.equal(falling(table), falling(table=table))


class Papers(Case):

    def is_paper(self, table, value):
        steps, pairs = steps_of(table), set(value)
        return (0, 0) in pairs and all(
            under(steps[one][low][0], steps[other][high][0]) and (steps[one][low][1], steps[other][high][1]) in pairs
            for one, other in pairs for low in moves_of(table) for high in higher_moves(low))

    def test_told_and_spoilt(self):
        told = 0
        for table in sample():
            paper = rising_paper(table=table)
            self.equal(paper is None, not is_rising(table))
            if paper is None:
                self.equal([is_rising_paper(table, [(0, 0)]), is_rising_paper(
                    table, list(itertools.product(range(len(table)), repeat=2)))], [False, False])
                continue
            told += 1
            self.assertIsInstance(paper, list)
            self.assertTrue(self.is_paper(table, paper))
            self.equal(is_rising_paper(table, paper), True)
            self.equal(is_rising_paper(value=tuple(paper[::-1]), table=table), True)
            self.equal(is_rising_paper(table, paper + paper), True)
            for k in range(len(paper)):
                less = paper[:k] + paper[k + 1:]
                self.equal(is_rising_paper(table, less), self.is_paper(table, less))
            for more in itertools.product(range(len(table)), repeat=2):
                self.equal(is_rising_paper(table, paper + [more]), self.is_paper(table, paper + [more]))
            self.equal(is_rising_paper(table, [pair for pair in paper if pair != (0, 0)]), False)
        self.assertGreater(told, 60)

    def test_further_tuples_that_are_closed(self):
        steps = {0: {("go", ()): ((BOTTOM,), 0)}, 1: {("go", ()): ((TOP,), 2)}, 2: {("go", ()): ((TOP,), 1)}}
        table = made(steps, 0, 1)
        for more, expected in (([], True), ([(1, 2)], False), ([(1, 2), (2, 1)], True), ([(0, 1)], False),
                               ([(0, 1), (0, 2)], True), ([(1, 0)], False), ([(1, 1), (2, 2)], True)):
            self.equal([is_rising_paper(table, [(0, 0)] + more), is_rising_paper(table, more + [(0, 0)])], [expected] * 2)

    def test_values_of_other_kinds(self):
        table = Table.of_chart(Chart.of_machine(record()))
        paper = rising_paper(table)
        for value in NOT_LISTS + [[], (), table, dict.fromkeys(paper), set(paper), (0, 0), [(False, False)] + paper[1:]]:
            self.equal(is_rising_paper(table, value), False)
        wrong = [None, True, 0, "", "00", (0,), (0, 0, 0), [0, 0], {0: 0}, ((0,), (0,))]
        wrong = wrong + [(0, state) for state in NOT_COUNTS + [2, HUGE]] + [(state, 0) for state in NOT_COUNTS + [2, HUGE]]
        for pair in wrong:
            for value in (paper + [pair], [pair] + paper):
                self.equal(is_rising_paper(table, value), False)
        before = list(paper)
        self.equal([is_rising_paper(table, paper), paper], [True, before])
        paper.clear()
        self.equal(rising_paper(table), before)


class Merged(Case):

    def test_against_a_search(self):
        sizes = set()
        for table in sample():
            expected = classes_as_met(steps_of(table), 0)
            found = merged(table)
            self.assertIsInstance(found, Table)
            self.equal([found.steps(), found.inputs, found.outputs], [expected, table.inputs, table.outputs])
            self.assertEqual(merged(table=found), found)
            sizes.add((len(table), len(found)))
        self.assertLessEqual({(5, 5), (5, 4), (5, 1), (2, 2), (1, 1)}, sizes)

    def test_equal_exactly_for_the_same_outputs(self):
        rng = random.Random(113)
        met = set()
        for table in sample():
            names = list(range(len(table)))
            rng.shuffle(names)
            names[names.index(0)], names[0] = names[0], 0
            turned = {names[k]: {move: (outputs, names[behind]) for move, (outputs, behind) in row.items()}
                      for k, row in steps_of(table).items()}
            for other in (made(turned, table.inputs, table.outputs), spoilt(rng, table)):
                same = (0, 0) not in least_ticks(steps_of(table), steps_of(other), unlike)
                met.add(same)
                self.assertEqual(merged(table) == merged(other), same)
        self.assertEqual(met, {True, False})

    def test_copies_and_states_that_part_late(self):
        def row(output, behind):
            return {("go", ()): ((output,), behind)}
        # The states 1 and 3 are copies, and 4 is not reached.
        copies = made({0: row(BOTTOM, 1), 1: row(TOP, 2), 2: row(BOTTOM, 3), 3: row(TOP, 0), 4: row(TOP, 4)}, 0, 1)
        self.equal(merged(copies).steps(), [row(BOTTOM, 1), row(TOP, 0)])
        late = made({0: row(TOP, 1), 1: row(TOP, 2), 2: row(TOP, 3), 3: row(TOP, 4), 4: row(BOTTOM, 4)}, 0, 1)
        self.equal(merged(late).steps(), late.steps())
        self.equal(merged(made({0: row(TOP, 0)}, 0, 1)).steps(), [row(TOP, 0)])

    def test_charts_are_merged_already(self):
        for machine in (record(), best(2), recent(3, 2), two_inputs()):
            table = Table.of_chart(Chart.of_machine(machine))
            self.assertEqual(merged(table), table)


class Machines(Case):

    def test_machines_of_rising_tables(self):
        rng = random.Random(114)
        sets = set()
        for table in sample() + [chain(rng) for _ in range(150)]:
            many = sets_of(table)
            if (0, 0) in rising_ticks(steps_of(table)):
                self.fails(NotRising, {}, machine_of, table)
            elif many > 12:
                self.fails(TooMany, ABOVE, machine_of, table)
            else:
                machine = machine_of(table=table)
                self.look(rng, table, machine)
                self.equal(is_machine_of(table, machine), True)
                self.assertEqual(Chart.of_machine(machine), Chart.of_machine(machine_of(table)))
            sets.add((many, is_rising(table)))
        self.assertLessEqual({(12, True), (13, True), (1, True), (7, True)}, sets)
        # What is falling comes ahead of too many sets.
        self.assertTrue([many for many, rises in sets if many > 12 and not rises])

    def look(self, rng, table, machine):
        """Ask that a machine has the letters, inputs and outputs of a table, and its outputs level by level."""
        self.equal([machine.letters, machine.inputs, machine.outputs], [table.letters, table.inputs, table.outputs])
        self.assertLessEqual(len(end_states(machine)), 96)
        parted = least_ticks(steps_of(table), reached_steps(machine), unlike)
        self.assertNotIn((0, first_of(machine)), parted)
        history = some_history(rng, machine, 8)
        outputs = outputs_of(machine, history)
        for level in {value for _, values in history for value in values if value not in (BOTTOM, TOP)} | {0, 50}:
            expected = table.outputs_of([(letter, tuple(at(value, level) for value in values))
                                         for letter, values in history])
            self.equal([tuple(at(value, level) for value in told) for told in outputs], expected)

    def test_tables_of_charts(self):
        for machine in (record(), best(2), best(1), recent(3, 1), recent(3, 2), line(1), two_inputs(), without_inputs()):
            table = Table.of_chart(Chart.of_machine(machine))
            self.equal(is_machine_of(machine=machine, table=table), True)
            self.assertEqual(Chart.of_machine(machine_of(table)), Chart.of_machine(machine))

    def test_is_machine_of(self):
        rng = random.Random(115)
        met = set()
        for machine in some_machines(115, 60):
            chart = Chart.of_machine(machine)
            if len(chart) > 5:
                continue
            table = Table.of_chart(chart)
            for other in (machine, disguised(rng, machine), changed(rng, machine)):
                same = (0, first_of(other)) not in least_ticks(steps_of(table), reached_steps(other), unlike)
                self.equal(is_machine_of(table, other), same)
                met.add(same)
        self.assertEqual(met, {True, False})

    def test_other_shapes(self):
        for table in sample()[:40]:
            for machine in (record(), two_inputs(), without_inputs(), best(2), counter(2, 2)):
                if (table.letters, table.inputs, table.outputs) != (machine.letters, machine.inputs, machine.outputs):
                    self.equal(is_machine_of(table, machine), False)
        one, other = Table.of_chart(Chart.of_machine(best(1))), Table.of_chart(Chart.of_machine(best(2)))
        self.equal([is_machine_of(one, best(2)), is_machine_of(other, best(1)), is_machine_of(one, record())],
                   [False, False, False])

    def test_other_numbers_of_inputs_and_outputs(self):
        def low(inputs, outputs):
            row = Row("on", [], [End(BOTTOM)] * outputs)
            return Machine({("on", "go"): row}, inputs=inputs, outputs=outputs, first="on")
        shapes = [(inputs, outputs) for inputs in (0, 1, 2) for outputs in (1, 2)]
        for one in shapes:
            table = Table.of_chart(Chart.of_machine(low(*one)))
            for other in shapes:
                self.equal(is_machine_of(table, low(*other)), one == other)

    def test_limits_of_machines(self):
        table = Table.of_chart(Chart.of_machine(counter(1, 1)))
        self.equal([is_machine_of(table, counter(4, 6)), is_machine_of(table, counter(5, 3))], [True, True])
        for machine in (left_counter(4, 6), counter(4, 7), counter(6, 2)):
            self.fails(TooMany, {"kind": "states", "limit": 96}, is_machine_of, table, machine)


class WrongInputs(Case):

    def test_values_that_are_no_tables(self):
        for value in NOT_TABLES:
            for function in (merged, is_rising, falling, rising_paper, machine_of):
                self.fails(InvalidTable, {"value": value}, function, value)
            self.fails(InvalidTable, {"value": value}, is_rising_paper, value, None)
            self.fails(InvalidTable, {"value": value}, is_machine_of, value, None)

    def test_values_that_are_no_machines(self):
        table = late_falling(2)
        for value in NOT_MACHINES + [table]:
            self.fails(InvalidMachine, {"value": value}, is_machine_of, table, value)


if __name__ == "__main__":
    unittest.main()
