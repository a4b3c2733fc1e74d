"""What the document promises over the whole program: [2], [4], and that all ways to one answer give the same."""

import random
import unittest

from heldranks.ages import age_of, greatest_age, memory
from heldranks.back import machine_of
from heldranks.charts import Chart
from heldranks.desk import Desk
from heldranks.forgetting import past_ticks
from heldranks.holders import Holder
from heldranks.idle import idle_inputs, idle_letters
from heldranks.judge import certificate_of, is_certificate
from heldranks.late import is_late_by
from heldranks.machines import Machine, Row
from heldranks.makers import best, line, pile, ranked, recent, record
from heldranks.needed import needed, row_after
from heldranks.nests import far, far_outputs, far_ticks
from heldranks.pairs import are_alike
from heldranks.rows import most_needed, rows_of
from heldranks.runs import Run, each_output, history_at, outputs_of, state_after
from heldranks.tables import Table
from heldranks.texts import machine_text, read_machine
from heldranks.values import at_level
from tests.helpers import Case, plain_run, some_history, some_machines, two_inputs, without_inputs
from tests.search import disguised, reached_steps


def sample():
    made = [record(), line(2), pile(2), ranked(3), best(2), recent(3, 2), two_inputs(), without_inputs()]
    return [machine for machine in some_machines(1221, 24) + made if len(reached_steps(machine)) <= 96]


def each_mode_twice(machine):
    """Return the machine with two modes in the place of each one, of which a row leads from one to the other."""
    rows = {}
    for (mode, letter), row in machine.rows().items():
        rows["a" + mode, letter] = Row("b" + row.mode, row.registers, row.outputs)
        rows["b" + mode, letter] = Row("a" + row.mode, row.registers, row.outputs)
    return Machine(rows, inputs=machine.inputs, outputs=machine.outputs, first="a" + machine.first, begin=machine.begin)


def twins(rng, machine):
    """Return machines that come of a machine without a change."""
    found = [read_machine(machine_text(machine))]
    if len(machine.modes) <= 6 and 2 * len(reached_steps(machine)) <= 96:
        found.append(each_mode_twice(machine))
    if machine.registers < 5 and len(machine.modes) < 12 and len(reached_steps(machine)) <= 24:
        found.append(disguised(rng, machine))
    chart = Chart.of_machine(machine)
    if len(chart) <= 5:
        found.append(machine_of(Table.of_chart(chart)))
    return found


class Ways(Case):

    def test_one_history_in_many_ways(self):
        rng = random.Random(1222)
        for machine in sample():
            for _ in range(4):
                history = some_history(rng, machine, rng.randint(1, 9))
                expected, states = plain_run(machine, history)
                self.check_runs(machine, history, expected)
                self.check_nests(machine, history, expected)
                self.check_levels(machine, history, expected)
                again = read_machine(machine_text(machine))
                self.equal(outputs_of(again, history), expected)
                self.equal(state_after(again, history).registers, states[-1][1])

    def check_runs(self, machine, history, expected):
        run, holder = Run(machine), Holder.of_machine(machine)
        self.equal(outputs_of(machine, history), expected)
        self.equal(list(each_output(machine, tuple(history))), expected)
        self.equal([run.do(letter, *values) for letter, values in history], expected)
        self.equal([holder.do(letter, *values) for letter, values in history], expected)
        self.equal([list(holder.cells), holder.row], [needed(machine, history), row_after(machine, history)])
        self.equal(Run(machine).do_all(history), expected)
        self.equal(Holder.of_machine(read_machine(machine_text(machine))).do_all(history), expected)

    def check_nests(self, machine, history, expected):
        self.equal(far_outputs(machine, history), expected[-1])
        nest = [([([tick], 1)], 1) for tick in history]
        self.equal([far_outputs(machine, nest), far_ticks(nest)], [expected[-1], len(history)])
        self.equal(far(machine, nest).registers, state_after(machine, history).registers)
        self.equal(far_outputs(machine, [(history, 3)]), outputs_of(machine, history * 3)[-1])

    def check_levels(self, machine, history, expected):
        levels = {value + more for _, values in history for value in values if isinstance(value, int) for more in (0, 1)}
        chart = Chart.of_machine(machine)
        for level in levels | {0}:
            ends = history_at(history, level)
            taken = [tuple(at_level(value, level) for value in outputs) for outputs in expected]
            self.equal(outputs_of(machine, ends), taken)
            self.equal(chart.told(chart.class_after(ends[:-1]), *ends[-1]), taken[-1])
            self.equal(state_after(machine, history).at_level(level), state_after(machine, ends).at_level(level))

    def test_at_a_desk(self):
        rng = random.Random(1223)
        for words, machine in (("record", record()), ("line 2", line(2)), ("ranked 3", ranked(3)), ("recent 3 2", recent(3, 2)),
                               ("best 2", best(2))):
            desk = Desk()
            desk.do_all([f"make m {words}", "history h"])
            history = some_history(rng, machine, 8)
            for letter, values in history:
                desk.do(" ".join(["tick h", letter, *[str(value) for value in values]]))
            self.equal(desk.do("run m h"), " ".join(str(value) for value in outputs_of(machine, history)[-1]))
            cells = needed(machine, history)
            self.equal(desk.do("needed m h"), " ".join(str(value) for value in cells) if cells else "-")


class Twins(Case):

    def test_equal_in_all_that_is_asked(self):
        rng = random.Random(1224)
        many = 0
        for machine in sample():
            for twin in twins(rng, machine):
                many += 1
                self.assertTrue(are_alike(machine, twin))
                chart = Chart.of_machine(machine)
                self.assertTrue(chart == Chart.of_machine(twin))
                self.equal([greatest_age(twin), memory(twin), past_ticks(twin)],
                           [greatest_age(machine), memory(machine), past_ticks(machine)])
                self.equal([age_of(twin, letter, k) for letter in twin.letters for k in range(twin.inputs)],
                           [age_of(machine, letter, k) for letter in machine.letters for k in range(machine.inputs)])
                self.equal([idle_inputs(twin), idle_letters(twin)], [idle_inputs(machine), idle_letters(machine)])
                self.equal([is_late_by(twin, machine, k) for k in (1, 2, 3)], [is_late_by(machine, twin, k) for k in (1, 2, 3)])
                for _ in range(3):
                    history = some_history(rng, machine, 6)
                    self.equal([needed(twin, history), row_after(twin, history)],
                               [needed(machine, history), row_after(machine, history)])
                    self.equal(outputs_of(twin, history), outputs_of(machine, history))
                claim = ("alike", twin, machine)
                self.equal(is_certificate(claim, certificate_of(claim)), True)
        self.assertGreater(many, 60)

    def test_most_needed(self):
        rng = random.Random(1225)
        for machine in (record(), line(2), ranked(2), best(2), recent(3, 1)):
            for twin in twins(rng, machine):
                charts = [Chart.of_machine(machine), Chart.of_machine(twin)]
                self.equal(most_needed(charts[0]), most_needed(charts[1]))
                self.equal(rows_of(charts[0]), rows_of(charts[1]))


if __name__ == "__main__":
    unittest.main()
