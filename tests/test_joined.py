"""[90] and heldranks/joined.py of the interface."""

import random
import unittest

from heldranks.charts import Chart
from heldranks.errors import InvalidCount, InvalidEnd, InvalidMachine, OtherShape, TooMany
from heldranks.joined import after, beside, looped
from heldranks.machines import Machine, Row
from heldranks.makers import best, line, recent, record
from heldranks.terms import End, Greater, Lesser, Place
from tests.helpers import (
    BOTTOM, NOT_COUNTS, NOT_ENDS, TOP, Case, counter, left_counter, plain_run, some_history, some_machine, two_inputs,
    without_inputs)
from tests.search import NOT_MACHINES, classes_as_met, disguised, first_of, reached_steps


def parts_of(machine):
    """Return all that can be seen of a machine."""
    return (sorted((pair, row.mode, [repr(term) for term in row.registers], [repr(term) for term in row.outputs])
                   for pair, row in machine.rows().items()), machine.inputs, machine.outputs, machine.first, machine.begin)


def run_after(one, other, history):
    """Return the outputs of a machine that is given the outputs of another one."""
    told = plain_run(one, history)[0]
    return plain_run(other, [(tick[0], outputs) for tick, outputs in zip(history, told)])[0]


def run_beside(one, other, history):
    return [a + b for a, b in zip(plain_run(one, history)[0], plain_run(other, history)[0])]


def run_looped(machine, output, number, end, history):
    """Return the outputs of a machine that is given back an output, tick by tick."""
    found, ticks, last = [], [], end
    for letter, values in history:
        ticks.append((letter, values[:number] + (last,) + values[number:]))
        found.append(plain_run(machine, ticks)[0][-1])
        last = found[-1][output]
    return found


def ring(modes, letters=("go",), outputs=1):
    """Return a machine without inputs and registers that goes round so many modes and tells TOP in the first one."""
    rows = {}
    for k in range(modes):
        for letter in letters:
            rows[f"m{k}", letter] = Row(f"m{(k + 1) % modes}", [], [End(TOP if k == 0 else BOTTOM)] * outputs)
    return Machine(rows, inputs=0, outputs=outputs, first="m0")


def passing(modes, registers=0, outputs=1):
    """Return a machine that goes round so many modes, passes its input on and keeps the last values put in."""
    rows = {}
    kept = [Place("x0")] + [Place(f"r{k}") for k in range(registers)]
    for k in range(modes):
        rows[f"m{k}", "go"] = Row(f"m{(k + 1) % modes}", kept[:registers], [Place("x0")] * outputs)
    return Machine(rows, inputs=1, outputs=outputs, first="m0", begin=[BOTTOM] * registers)


def pairs_of_machines(seed, is_fitting):
    """Return pairs of machines with the same letters that fit, and do not need too much together."""
    rng = random.Random(seed)
    found = []
    while len(found) < 60:
        letters, k = rng.randint(1, 3), len(found)
        one = some_machine(rng, rng.randint(0, 2), rng.randint(0, 3), rng.randint(1, 2), 1 + k % 3, letters)
        other = some_machine(rng, rng.randint(0, 2), rng.randint(0, 3), rng.randint(1, 2), 1 + k % 4, letters)
        if is_fitting(one, other):
            found.append((one, other))
    return found


class Joined(Case):

    def check_alike(self, one, other):
        """Ask for equal charts, found by rounds of the test's own, where there are not too many end states."""
        steps, others = reached_steps(one), reached_steps(other)
        if max(len(steps), len(others)) <= 40:
            self.assertEqual(classes_as_met(steps, first_of(one)), classes_as_met(others, first_of(other)))

    def check_runs(self, rng, joined, expected):
        for _ in range(8):
            history = some_history(rng, joined, rng.randint(0, 9))
            self.equal(plain_run(joined, history)[0], expected(history))

    def test_after(self):
        rng = random.Random(621)
        for one, other in pairs_of_machines(622, lambda a, b: a.outputs == b.inputs):
            before = (parts_of(one), parts_of(other))
            joined = after(one, other)
            self.assertIs(joined.__class__, Machine)
            self.equal((joined.letters, joined.inputs, joined.outputs), (one.letters, one.inputs, other.outputs))
            self.equal(joined.registers, one.registers + other.registers)
            self.check_runs(rng, joined, lambda history: run_after(one, other, history))
            self.assertEqual((parts_of(one), parts_of(other)), before)
            self.assertEqual(parts_of(after(other=other, one=one)), parts_of(joined))

    def test_beside(self):
        rng = random.Random(623)
        for one, other in pairs_of_machines(624, lambda a, b: a.inputs == b.inputs and a.outputs + b.outputs == 2):
            before = (parts_of(one), parts_of(other))
            joined = beside(one, other)
            self.equal((joined.letters, joined.inputs, joined.outputs), (one.letters, one.inputs, 2))
            self.equal(joined.registers, one.registers + other.registers)
            self.check_runs(rng, joined, lambda history: run_beside(one, other, history))
            self.assertEqual((parts_of(one), parts_of(other)), before)
            self.assertEqual(parts_of(beside(other=other, one=one)), parts_of(joined))

    def test_looped(self):
        rng = random.Random(625)
        for k in range(60):
            machine = some_machine(rng, 1 + k % 2, rng.randint(0, 5), rng.randint(1, 2), 1 + k % 4, 1 + k % 3)
            before = parts_of(machine)
            for output in range(machine.outputs):
                for number in range(machine.inputs):
                    end = rng.choice([BOTTOM, TOP])
                    joined = looped(machine, output, number, end)
                    self.equal((joined.letters, joined.inputs, joined.outputs),
                               (machine.letters, machine.inputs - 1, machine.outputs))
                    self.equal(joined.registers, machine.registers + 1)
                    self.check_runs(rng, joined,
                                    lambda history: run_looped(machine, output, number, end, history))
                    self.assertEqual(parts_of(looped(end=end, number=number, output=output, machine=machine)),
                                     parts_of(joined))
            self.assertEqual(parts_of(machine), before)

    def test_one_machine_twice(self):
        rng = random.Random(626)
        for machine in (record(), recent(2, 1), recent(3, 2), best(1), passing(3, 2)):
            self.check_runs(rng, after(machine, machine), lambda history: run_after(machine, machine, history))
            self.check_runs(rng, beside(machine, machine), lambda history: run_beside(machine, machine, history))
            history = some_history(rng, machine, 9)
            self.equal([row[0] for row in plain_run(beside(machine, machine), history)[0]],
                       [row[1] for row in plain_run(beside(machine, machine), history)[0]])
        both = looped(looped(two_inputs(), 0, 0, TOP), 1, 0, BOTTOM)
        self.equal((both.inputs, both.registers), (0, 3))
        self.check_runs(rng, both, lambda history: plain_run(both, history)[0])

    def test_document(self):
        both = after(recent(2, 1), recent(2, 2))
        self.equal(plain_run(both, [("put", (3,)), ("put", (1,)), ("put", (2,))])[0], [(BOTTOM,), (3,), (2,)])

    def test_joined_in_either_way(self):
        a, b, c = recent(2, 1), recent(2, 2), best(1)
        self.check_alike(after(after(a, b), c), after(a, after(b, c)))
        self.equal(Chart.of_machine(after(after(a, b), c)) == Chart.of_machine(after(a, after(b, c))), True)
        rng = random.Random(627)
        for one, other in pairs_of_machines(628, lambda x, y: x.outputs == y.inputs)[:20]:
            self.check_alike(after(one, other), after(disguised(rng, one) if one.registers < 3 else one, other))
        # Beside one another and then after one machine is as after it and then beside one another.
        self.check_alike(after(a, beside(b, c)), beside(after(a, b), after(a, c)))
        # An input that was given back can be given back after a machine that stands behind as well.
        first = two_inputs()
        self.check_alike(after(looped(first, 1, 0, TOP), first), looped_behind(first))

    def test_terms_do_not_grow_without_end(self):
        low, high = Place("x0") & Place("x1"), Place("x0") | Place("x1")
        rows = {("on", "go"): Row("on", [], [low | (high & Place("x0")), high & (low | Place("x1"))])}
        machine = Machine(rows, inputs=2, outputs=2, first="on")
        joined = machine
        for _ in range(40):
            joined = after(joined, machine)
        row = joined.row_at(joined.first, "go")
        self.assertLess(sum(len(str(term)) for term in row.outputs), 200)
        self.equal(plain_run(joined, [("go", (3, 8))])[0], [(3, 8)])

    def test_ends_and_great_integers(self):
        machine = after(recent(2, 1), best(2))
        great = 10 ** 60 - 1
        history = [("put", (value,)) for value in (BOTTOM, -great, great, TOP, great, 0)]
        self.equal(plain_run(machine, history)[0], run_after(recent(2, 1), best(2), history))
        self.equal(plain_run(machine, history)[0][-1], (TOP, TOP))


def looped_behind(machine):
    """Return the machine looped by its second output and its first input, and behind it the machine once more."""
    one = looped(machine, 1, 0, TOP)
    rows = {}
    moved = {f"r{k}": Place(f"r{k + one.registers}") for k in range(machine.registers)}
    for (mode, letter), row in one.rows().items():
        beyond = machine.row_at(machine.first, letter)
        given = {**moved, "x0": Greater(row.outputs[0], End(BOTTOM)), "x1": Lesser(row.outputs[1], End(TOP))}
        rows[mode, letter] = Row(mode, list(row.registers) + [term.put(given) for term in beyond.registers],
                                 [term.put(given) for term in beyond.outputs])
    return Machine(rows, inputs=one.inputs, outputs=2, first=one.first, begin=list(one.begin) + list(machine.begin))


class Limits(Case):

    def test_modes(self):
        # Of twelve and four modes, only those pairs are reached that have the same rest by four.
        for function in (after, beside):
            self.equal(len(function(passing(12), passing(4)).modes), 12)
            self.equal(len(function(passing(3), passing(4)).modes), 12)
            self.equal(len(function(passing(12), passing(12)).modes), 12)
            for one, other in ((passing(5), passing(3)), (passing(12), passing(5)), (passing(7), passing(2))):
                self.fails(TooMany, {"kind": "modes", "limit": 12}, function, one, other)
        self.equal(len(looped(passing(12), 0, 0, TOP).modes), 12)
        self.equal(len(beside(ring(6), ring(4)).modes), 12)
        self.fails(TooMany, {"kind": "modes", "limit": 12}, beside, ring(12), ring(8))

    def test_registers(self):
        for function in (after, beside):
            for one, other in ((0, 6), (6, 0), (3, 3), (5, 1)):
                self.equal(function(passing(1, one), passing(2, other)).registers, 6)
            for one, other in ((1, 6), (6, 1), (4, 3), (6, 6)):
                self.fails(TooMany, {"kind": "registers", "limit": 6}, function, passing(1, one), passing(2, other))
        self.equal(looped(passing(1, 5), 0, 0, TOP).registers, 6)
        self.fails(TooMany, {"kind": "registers", "limit": 6}, looped, passing(1, 6), 0, 0, TOP)

    def test_outputs(self):
        self.equal([beside(passing(1), passing(2)).outputs, after(passing(1), passing(2, 0, 2)).outputs], [2, 2])
        for one, other in ((1, 2), (2, 1), (2, 2)):
            self.fails(TooMany, {"kind": "outputs", "limit": 2}, beside, passing(1, 0, one), passing(2, 0, other))

    def test_in_sequence(self):
        self.fails(TooMany, {"kind": "modes", "limit": 12}, beside, passing(5, 6, 2), passing(3, 6, 2))
        self.fails(TooMany, {"kind": "registers", "limit": 6}, beside, passing(3, 6, 2), passing(3, 6, 2))
        self.fails(TooMany, {"kind": "modes", "limit": 12}, after, passing(5, 6), passing(3, 6))

    def test_more_than_96_end_states_are_no_error(self):
        for machine in (left_counter(4, 6), counter(6, 2)):
            self.equal(after(machine, counter(0, 1) if machine.letters == ["go"] else left_counter(0, 1)).registers,
                       machine.registers)
        self.equal(looped(left_counter(4, 6), 0, 0, TOP).inputs, 0)
        self.equal(beside(counter(3, 4), counter(3, 4)).registers, 6)

    def test_letters_stay(self):
        joined = after(line(1), line(1))
        self.equal(joined.letters, ["put", "rest", "take"])
        self.equal(beside(ring(2, ("a", "b", "c")), ring(3, ("c", "a", "b"))).letters, ["a", "b", "c"])


class WrongInputs(Case):

    def test_machines(self):
        for value in NOT_MACHINES:
            for function in (after, beside):
                self.fails(InvalidMachine, {"value": value}, function, value, None)
                self.fails(InvalidMachine, {"value": value}, function, record(), value)
            self.fails(InvalidMachine, {"value": value}, looped, value, None, None, None)

    def test_other_shapes(self):
        self.fails(OtherShape, {}, after, record(), best(1))
        self.fails(OtherShape, {}, beside, record(), best(1))
        for one, other in ((best(2), best(1)), (best(1), passing(1)), (two_inputs(), without_inputs()),
                           (without_inputs(), without_inputs()), (ring(2), ring(2)), (ring(2, outputs=2), passing(1))):
            self.fails(OtherShape, {}, after, one, other)
        for one, other in ((two_inputs(), without_inputs()), (passing(1), ring(2)), (best(1), passing(1))):
            self.fails(OtherShape, {}, beside, one, other)
        # What does not fit is told ahead of what is too much.
        self.fails(OtherShape, {}, after, passing(5, 6, 2), passing(3, 6))
        self.fails(OtherShape, {}, beside, passing(5, 6, 2), ring(3))
        # Machines of other shapes fit where only these numbers are the same.
        self.equal(after(ring(2, outputs=2), ring_with_inputs()).inputs, 0)
        self.equal(beside(passing(2), passing(2, 3)).inputs, 1)

    def test_parameters_of_a_loop(self):
        for machine in (record(), two_inputs(), passing(1, 6)):
            for value in NOT_COUNTS + [machine.outputs, machine.outputs + 1]:
                self.fails(InvalidCount, {"value": value}, looped, machine, value, None, None)
            for value in NOT_COUNTS + [machine.inputs, machine.inputs + 1]:
                self.fails(InvalidCount, {"value": value}, looped, machine, 0, value, None)
            for value in NOT_ENDS:
                self.fails(InvalidEnd, {"value": value}, looped, machine, 0, 0, value)
        self.fails(InvalidCount, {"value": 0}, looped, without_inputs(), 0, 0, TOP)


def ring_with_inputs():
    """Return a machine with two inputs that tells the greater one, with the letter of a ring."""
    return Machine({("on", "go"): Row("on", [], [Place("x0") | Place("x1")])}, inputs=2, outputs=1, first="on")


if __name__ == "__main__":
    unittest.main()
