"""[34] and heldranks/idle.py of the interface."""

import random
import unittest

from heldranks.errors import InvalidCount, InvalidMachine, TooMany, UnknownLetter
from heldranks.idle import idle_inputs, idle_letters, idle_registers, input_matters, letter_matters, register_matters
from heldranks.machines import Machine, Row
from heldranks.makers import best, line, pile, ranked, recent, record
from heldranks.terms import End, Place, kth
from tests.helpers import (
    BOTTOM, HUGE, NOT_COUNTS, NOT_NAMES, TOP, Case, counter, left_counter, plain_run, some_history, some_machines,
    some_value, two_inputs, value_of, without_inputs)
from tests.search import (
    NOT_MACHINES, first_of, followed, least_ticks, moves_of, reached_steps, steps_from, unlike)


def flipped(state, number):
    """Return an end state with the other END in a register."""
    mode, registers = state
    other = {TOP: BOTTOM, BOTTOM: TOP}[registers[number]]
    return (mode, registers[:number] + (other,) + registers[number + 1:])


def parted(machine, pairs):
    """Tell whether the states of some pair are told apart by something that follows."""
    ones = steps_from(machine, *[pair[0] for pair in pairs])
    others = steps_from(machine, *[pair[1] for pair in pairs])
    found = least_ticks(ones, others, unlike)
    return any(pair in found for pair in pairs)


def register_is_idle(machine, number):
    return not parted(machine, [(state, flipped(state, number)) for state in reached_steps(machine)])


def flips(machine, letter, number):
    """Return tuples of both steps at two moves that differ in this input only."""
    found = []
    for steps in reached_steps(machine).values():
        for move in moves_of(machine):
            if move[0] == letter and move[1][number] == TOP:
                low = (letter, move[1][:number] + (BOTTOM,) + move[1][number + 1:])
                found.append((steps[move], steps[low]))
    return found


def input_is_idle(machine, letter, number):
    both = flips(machine, letter, number)
    if any(high[0] != low[0] for high, low in both):
        return False
    return not parted(machine, [(high[1], low[1]) for high, low in both])


def letter_is_idle(machine, letter):
    pairs = []
    for state, steps in reached_steps(machine).items():
        pairs.extend((steps[move][1], state) for move in moves_of(machine) if move[0] == letter)
    return not parted(machine, pairs)


def run_from(machine, mode, registers, history):
    """Return the outputs of ticks from a mode and some registers on."""
    outputs = []
    for letter, values in history:
        given = {f"r{k}": value for k, value in enumerate(registers)}
        given.update({f"x{k}": value for k, value in enumerate(values)})
        row = machine.rows()[mode, letter]
        outputs.append(tuple(value_of(term, given) for term in row.outputs))
        mode, registers = row.mode, tuple(value_of(term, given) for term in row.registers)
    return outputs


def sample():
    """Return machines by chance, made ones, and those of which a register is idle in a special way."""
    return some_machines(51, 40) + [record(), line(2), pile(3), ranked(2), best(2), recent(3, 2), two_inputs(),
                                    without_inputs(), passed_on(), asked_together(), copied()]


def passed_on():
    """Return a machine that passes values on from r0 to r1 and r2, and asks none of them but r3."""
    rows = {("on", "go"): Row("on", [Place("x0"), Place("r0"), Place("r1") | Place("r2"), Place("x1")],
                              [Place("r3") | Place("x0")]),
            ("on", "rest"): Row("on", [Place(f"r{k}") for k in range(4)], [End(BOTTOM)])}
    return Machine(rows, inputs=2, outputs=1, first="on", begin=[BOTTOM, TOP, BOTTOM, TOP])


def asked_together():
    """Return a machine that asks r0 together with r1, which is TOP at letter open only, and r2 with BOTTOM."""
    rows = {("on", "open"): Row("on", [Place("x0"), End(TOP), Place("x0")], [Place("r0") & Place("r1")]),
            ("on", "shut"): Row("on", [Place("x0"), End(BOTTOM), Place("x0")], [Place("r2") & End(BOTTOM)])}
    return Machine(rows, inputs=1, outputs=1, first="on", begin=[BOTTOM] * 3)


def copied():
    """Return a machine that keeps a value three times and tells the second greatest of them."""
    places = [Place("r0"), Place("r1"), Place("r2")]
    rows = {("on", "put"): Row("on", [Place("x0")] * 3, [kth(2, *places)])}
    return Machine(rows, inputs=1, outputs=1, first="on", begin=[BOTTOM] * 3)


class Registers(Case):

    def test_against_a_search(self):
        idle = 0
        for machine in sample():
            expected = [k for k in range(machine.registers) if register_is_idle(machine, k)]
            self.equal(idle_registers(machine), expected)
            idle += len(expected)
            for number in range(machine.registers):
                shown = register_matters(machine, number)
                self.equal(shown is None, number in expected)
                if shown is not None:
                    self.look(machine, number, shown)
        self.assertGreaterEqual(idle, 10)

    def look(self, machine, number, shown):
        """Ask that what is told shows that a register matters."""
        past, ahead = shown
        self.equal([shown.__class__, past.__class__, ahead.__class__], [tuple, list, list])
        self.assertTrue(ahead)
        state = followed(reached_steps(machine), first_of(machine), past)[1]
        other = flipped(state, number)
        outputs = followed(steps_from(machine, state), state, ahead)[0]
        self.assertNotEqual(outputs[-1], followed(steps_from(machine, other), other, ahead)[0][-1])
        self.equal(plain_run(machine, past + ahead)[0][-1], outputs[-1])

    def test_other_values_are_of_no_effect(self):
        rng = random.Random(52)
        for machine in sample():
            for number in idle_registers(machine):
                for _ in range(6):
                    past, ahead = some_history(rng, machine, 4), some_history(rng, machine, 6)
                    mode, registers = plain_run(machine, past)[1][-1]
                    other = registers[:number] + (some_value(rng),) + registers[number + 1:]
                    self.equal(run_from(machine, mode, registers, ahead), run_from(machine, mode, other, ahead))

    def test_special_ways(self):
        self.equal(idle_registers(passed_on()), [0, 1, 2])
        self.equal(idle_registers(asked_together()), [2])
        self.equal(idle_registers(copied()), [0, 1, 2])
        self.equal(idle_registers(machine=line(3)), [])
        self.equal(idle_registers(without_inputs()), [])

    def test_a_register_that_matters_in_one_mode(self):
        rows = {("off", "go"): Row("on", [Place("r0")], [End(BOTTOM)]),
                ("on", "go"): Row("end", [End(TOP)], [Place("r0")]),
                ("end", "go"): Row("end", [End(TOP)], [End(TOP)])}
        machine = Machine(rows, inputs=0, outputs=1, first="off", begin=[TOP])
        self.equal(idle_registers(machine), [])
        self.look(machine, 0, register_matters(machine, 0))
        for first in ("on", "end"):
            other = Machine(rows, inputs=0, outputs=1, first=first, begin=[TOP])
            self.equal(idle_registers(other), [0] if first == "end" else [])


class Inputs(Case):

    def test_against_a_search(self):
        idle = 0
        for machine in sample():
            pairs = [(letter, k) for letter in machine.letters for k in range(machine.inputs)]
            expected = [pair for pair in pairs if input_is_idle(machine, *pair)]
            self.equal(idle_inputs(machine), expected)
            idle += len(expected)
            for letter, number in pairs:
                shown = input_matters(machine, letter, number)
                self.equal(shown is None, (letter, number) in expected)
                if shown is not None:
                    self.look(machine, letter, number, shown)
        self.assertGreaterEqual(idle, 10)

    def look(self, machine, letter, number, shown):
        """Ask that what is told shows that an input of a letter matters."""
        one, other = shown
        self.equal([shown.__class__, one.__class__, other.__class__], [tuple, list, list])
        self.equal(len(one), len(other))
        unequal = [(a, b) for a, b in zip(one, other) if a != b]
        self.equal(len(unequal), 1)
        (first, values), (second, others) = unequal[0]
        self.equal([first, second], [letter, letter])
        self.equal([k for k in range(machine.inputs) if values[k] != others[k]], [number])
        self.assertNotEqual(plain_run(machine, one)[0][-1], plain_run(machine, other)[0][-1])

    def test_other_values_are_of_no_effect(self):
        rng = random.Random(53)
        for machine in sample():
            for letter, number in idle_inputs(machine):
                for _ in range(6):
                    history = some_history(rng, machine, 8)
                    at = [k for k, tick in enumerate(history) if tick[0] == letter]
                    if at:
                        k = rng.choice(at)
                        values = list(history[k][1])
                        values[number] = some_value(rng)
                        changed = history[:k] + [(letter, tuple(values))] + history[k + 1:]
                        self.equal(plain_run(machine, changed)[0], plain_run(machine, history)[0])

    def test_inputs_that_stand_in_no_term(self):
        self.equal(idle_inputs(line(2)), [("rest", 0), ("take", 0)])
        self.equal(idle_inputs(record()), [("reset", 0)])
        self.equal(idle_inputs(machine=recent(1, 1)), [])
        self.equal(idle_inputs(two_inputs()), [("tell", 0), ("tell", 1)])
        self.equal(idle_inputs(without_inputs()), [])
        # What was put in at shut is asked only together with BOTTOM.
        self.equal(idle_inputs(asked_together()), [("shut", 0)])
        self.equal(idle_inputs(passed_on()), [("rest", 0), ("rest", 1)])


class Letters(Case):

    def test_against_a_search(self):
        idle = 0
        for machine in sample():
            expected = [letter for letter in machine.letters if letter_is_idle(machine, letter)]
            self.equal(idle_letters(machine), expected)
            idle += len(expected)
            for letter in machine.letters:
                shown = letter_matters(machine, letter)
                self.equal(shown is None, letter in expected)
                if shown is not None:
                    self.look(machine, letter, shown)
        self.assertGreaterEqual(idle, 10)

    def look(self, machine, letter, shown):
        """Ask that what is told shows that a letter matters."""
        history, position = shown
        self.equal([shown.__class__, history.__class__, position.__class__], [tuple, list, int])
        self.equal(history[position][0], letter)
        self.assertTrue(0 <= position < len(history) - 1)
        left = history[:position] + history[position + 1:]
        self.assertNotEqual(plain_run(machine, history)[0][-1], plain_run(machine, left)[0][-1])

    def test_leaving_it_out_is_of_no_effect(self):
        rng = random.Random(54)
        for machine in sample():
            for letter in idle_letters(machine):
                for _ in range(6):
                    history = some_history(rng, machine, 8)
                    outputs = plain_run(machine, history)[0]
                    for k in [k for k, tick in enumerate(history) if tick[0] == letter]:
                        left = plain_run(machine, history[:k] + history[k + 1:])[0]
                        self.equal(left, outputs[:k] + outputs[k + 1:])

    def test_letters_that_keep_mode_and_registers(self):
        for machine in (line(2), pile(3), ranked(1)):
            self.equal(idle_letters(machine), ["rest"])
        self.equal(idle_letters(passed_on()), ["rest"])
        self.equal(idle_letters(machine=record()), [])
        self.equal(idle_letters(two_inputs()), ["tell"])
        self.equal(idle_letters(without_inputs()), [])
        # Whatever was put in before counts no more behind a tick, and so nothing is told without one.
        self.equal(idle_letters(recent(1, 1)), ["put"])


class Answers(Case):

    def test_names_and_repeated_queries(self):
        machine = line(2)
        self.equal(register_matters(number=1, machine=machine), register_matters(machine, 1))
        self.equal(input_matters(number=0, letter="put", machine=machine), input_matters(machine, "put", 0))
        self.equal(letter_matters(letter="take", machine=machine), letter_matters(machine, "take"))
        for function in (idle_registers, idle_inputs, idle_letters):
            function(machine).append(None)
            self.equal(function(machine), function(machine=machine))
        for shown in (register_matters(machine, 1)[1], input_matters(machine, "put", 0)[0], letter_matters(machine, "put")[0]):
            shown.clear()
        self.assertTrue(register_matters(machine, 1)[1])
        self.assertTrue(input_matters(machine, "put", 0)[0])
        self.assertTrue(letter_matters(machine, "put")[0])

    def test_just_96_end_states(self):
        for machine in (counter(4, 6), counter(5, 3)):
            self.equal(idle_registers(machine), list(range(machine.registers)))
            self.equal([idle_inputs(machine), idle_letters(machine)], [[], ["go"]])
            self.equal([register_matters(machine, 0), letter_matters(machine, "go")], [None, None])
            self.assertIsNotNone(input_matters(machine, "go", 0))


class WrongInputs(Case):

    def test_values_that_are_no_machines(self):
        for value in NOT_MACHINES:
            for function in (idle_registers, idle_inputs, idle_letters):
                self.fails(InvalidMachine, {"value": value}, function, value)
            self.fails(InvalidMachine, {"value": value}, register_matters, value, None)
            self.fails(InvalidMachine, {"value": value}, input_matters, value, None, None)
            self.fails(InvalidMachine, {"value": value}, letter_matters, value, None)

    def test_numbers(self):
        for machine in (record(), line(3), without_inputs(), left_counter(4, 6)):
            for number in NOT_COUNTS + [machine.registers, machine.registers + 1, HUGE]:
                self.fails(InvalidCount, {"value": number}, register_matters, machine, number)
            for number in NOT_COUNTS + [machine.inputs, HUGE]:
                self.fails(InvalidCount, {"value": number}, input_matters, machine, machine.letters[0], number)

    def test_letters(self):
        for machine in (record(), left_counter(4, 6)):
            for letter in NOT_NAMES + ["putt", "has0", "m0", 0]:
                self.fails(UnknownLetter, {"value": letter}, letter_matters, machine, letter)
                self.fails(UnknownLetter, {"value": letter}, input_matters, machine, letter, None)

    def test_too_many_end_states(self):
        for machine in (left_counter(4, 6), counter(6, 2)):
            for call in (lambda: idle_registers(machine), lambda: idle_inputs(machine), lambda: idle_letters(machine),
                         lambda: register_matters(machine, 0), lambda: input_matters(machine, "go", 0),
                         lambda: letter_matters(machine, "go")):
                self.fails(TooMany, {"kind": "states", "limit": 96}, call)


if __name__ == "__main__":
    unittest.main()
