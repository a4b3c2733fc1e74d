"""[22], [23] and heldranks/runs.py of the interface."""

import random
import unittest

from heldranks.errors import (
    InvalidHistory, InvalidInteger, InvalidMachine, InvalidValues, NothingToUndo, UnknownLetter)
from heldranks.makers import ranked, recent, record
from heldranks.runs import Run, State, each_output, history_at, outputs_of, state_after
from tests.helpers import (
    BOTTOM, HUGE, NOT_INTEGERS, NOT_LISTS, NOT_NAMES, NOT_VALUES, TOP, Case, at, plain_run, some_history,
    some_machines, two_inputs, without_inputs)

NOT_MACHINES = [None, True, 0, "machine", [], (), {}, Run]
# Each of these is no tick of a machine with the letters put and reset and one input.
NOT_TICKS = [None, True, 0, "put", "ab", (), ("put",), ("put", 1), ("put", [1]), ["put", (1,)], ("put", (1,), 1),
             ("put", ()), ("put", (1, 2)), ((1,), "put"), ("put", "a"), ("put", None), ("put", {1: 1}),
             {"put": (1,), "reset": (1,)}]
NOT_TICKS = NOT_TICKS + [("put", (value,)) for value in NOT_VALUES]
NOT_TICKS = NOT_TICKS + [(letter, (1,)) for letter in NOT_NAMES + ["take", "pu", "has0", 0]]


def read(state):
    """Return what a State tells, as the model tells it."""
    return (state.mode, state.registers)


class Outputs(Case):

    def test_against_the_model(self):
        rng = random.Random(21)
        for machine in some_machines(21, 60):
            history = some_history(rng, machine, rng.randint(0, 15))
            outputs, states = plain_run(machine, history)
            self.equal(outputs_of(machine, history), outputs)
            self.equal(outputs_of(machine, tuple(history)), outputs)
            self.equal(list(each_output(machine, history)), outputs)
            self.equal(read(state_after(machine, history)), states[-1])
            self.equal(read(state_after(machine, tuple(history))), states[-1])

    def test_before_the_first_tick(self):
        for machine in some_machines(22, 20):
            for history in ([], ()):
                self.equal(outputs_of(machine, history), [])
                self.equal(list(each_output(machine, history)), [])
                self.equal(read(state_after(machine, history)), (machine.first, machine.begin))

    def test_registers_as_they_were_before_the_tick(self):
        machine = two_inputs()
        history = [("go", (4, 9)), ("tell", (20, 30)), ("go", (HUGE, TOP)), ("tell", (BOTTOM, 1))]
        self.equal(outputs_of(machine, history), [(4, 9), (9, TOP), (HUGE, TOP), (TOP, TOP)])
        self.equal(outputs_of(history=history, machine=machine)[1], (9, TOP))

    def test_without_inputs(self):
        self.equal(outputs_of(without_inputs(), [("go", ())] * 3), [(BOTTOM,), (TOP,), (BOTTOM,)])
        self.equal(read(state_after(without_inputs(), [("go", ())])), ("odd", ()))

    def test_long_histories(self):
        history = [("put", (k % 7,)) for k in range(200)]
        self.equal(outputs_of(recent(1, 1), history), [(k % 7,) for k in range(200)])

    def test_what_is_passed_and_returned_stays_apart(self):
        history = [("put", (3,)), ("put", (1,))]
        outputs_of(record(), history).append((9,))
        self.equal(history, [("put", (3,)), ("put", (1,))])
        self.equal(outputs_of(record(), history), [(3,), (3,)])


class Wrong(Case):

    def ask(self, error, told, machine, history):
        self.fails(error, told, outputs_of, machine, history)
        self.fails(error, told, state_after, machine, history)
        self.fails(error, told, lambda: next(each_output(machine, history)))
        self.fails(error, told, lambda: list(each_output(machine, history)))

    def test_machines(self):
        for machine in NOT_MACHINES:
            for history in ([], None, [None]):
                self.ask(InvalidMachine, {"value": machine}, machine, history)
            self.fails(InvalidMachine, {"value": machine}, Run, machine)

    def test_histories(self):
        for history in NOT_LISTS:
            self.ask(InvalidHistory, {"position": None}, record(), history)

    def test_the_position_of_the_first_wrong_tick(self):
        right = [("put", (3,)), ("reset", (TOP,)), ("put", (-HUGE,))]
        self.equal(outputs_of(record(), right), [(3,), (BOTTOM,), (-HUGE,)])
        for tick in NOT_TICKS:
            with self.subTest(tick=tick):
                for position in range(4):
                    history = right[:position] + [tick] + right[position:] + [None]
                    self.ask(InvalidHistory, {"position": position}, record(), history)
                    self.ask(InvalidHistory, {"position": position}, record(), tuple(history))

    def test_numbers_of_values(self):
        for machine, inputs in ((without_inputs(), 0), (record(), 1), (two_inputs(), 2)):
            letter = machine.letters[0]
            for many in range(4):
                history = [(letter, (1,) * many)]
                if many == inputs:
                    self.equal(len(outputs_of(machine, history)), 1)
                else:
                    self.ask(InvalidHistory, {"position": 0}, machine, history)


class Generators(Case):

    def test_one_after_the_other(self):
        found = each_output(machine=record(), history=[("put", (3,)), ("put", (5,))])
        self.equal([next(found), next(found), next(found, None)], [(3,), (5,), None])

    def test_two_by_turns(self):
        one = each_output(recent(2, 1), [("put", (k,)) for k in (5, 1, 2)])
        other = each_output(recent(2, 2), [("put", (k,)) for k in (7, 8, 9)])
        found = [next(one), next(other), next(one), next(one), next(other), next(other)]
        self.equal(found, [(5,), (BOTTOM,), (5,), (2,), (7,), (8,)])

    def test_two_of_one_history(self):
        machine, history = record(), [("put", (5,)), ("reset", (1,)), ("put", (2,))]
        found = [told for pair in zip(each_output(machine, history), each_output(machine, history)) for told in pair]
        self.equal(found, [(5,), (5,), (BOTTOM,), (BOTTOM,), (2,), (2,)])

    def test_a_list_that_is_changed_behind_the_first_output(self):
        history = [("put", (5,)), ("put", (6,))]
        found = each_output(record(), history)
        told = [next(found)]
        history.append(None)
        history[1] = None
        self.equal(told + list(found), [(5,), (6,)])


class States(Case):

    def test_levels(self):
        self.equal(state_after(recent(3, 1), [("put", (2,)), ("put", (9,))]).levels(), [9, 2])
        self.equal(state_after(recent(3, 1), [("put", (2,)), ("put", (2,))]).levels(), [2])
        self.equal(state_after(recent(3, 1), [("put", (TOP,)), ("put", (-HUGE,))]).levels(), [-HUGE])
        self.equal(state_after(recent(3, 1), []).levels(), [])
        self.equal(state_after(without_inputs(), []).levels(), [])

    def test_levels_are_new_lists(self):
        state = state_after(record(), [("put", (2,))])
        state.levels().append(1)
        self.equal(state.levels(), [2])

    def test_at_a_level(self):
        state = state_after(recent(3, 1), [("put", (2,)), ("put", (9,))])
        self.equal(state.registers, (9, 2))
        for level, ends in ((10, (BOTTOM, BOTTOM)), (9, (TOP, BOTTOM)), (3, (TOP, BOTTOM)), (2, (TOP, TOP)),
                            (-HUGE, (TOP, TOP)), (HUGE + 1, (BOTTOM, BOTTOM))):
            self.equal(state.at_level(level), (state.mode, ends))
        self.equal(state.at_level(level=9), (state.mode, (TOP, BOTTOM)))

    def test_ends_at_levels(self):
        state = state_after(recent(3, 1), [("put", (TOP,))])
        self.equal(state.at_level(HUGE), (state.mode, (TOP, BOTTOM)))
        self.equal(state.at_level(-HUGE), (state.mode, (TOP, BOTTOM)))

    def test_wrong_levels(self):
        state = state_after(recent(3, 1), [("put", (TOP,))])
        for level in NOT_INTEGERS:
            self.fails(InvalidInteger, {"value": level}, state.at_level, level)

    def test_equality(self):
        machine = ranked(2)
        three = state_after(machine, [("put", (3,))])
        self.assertIsInstance(three, State)
        self.assertEqual(three, state_after(ranked(2), [("put", (3,)), ("rest", (8,))]))
        self.assertFalse(three != state_after(ranked(2), [("put", (3,))]))
        others = [state_after(machine, [("put", (4,))]), state_after(machine, [("put", (3,)), ("put", (BOTTOM,))]),
                  read(three), None, "has1", 3]
        for other in others:
            self.assertFalse(three == other)
            self.assertTrue(three != other)

    def test_equal_registers_in_other_modes(self):
        machine = ranked(2)
        one, other = state_after(machine, []), state_after(machine, [("put", (BOTTOM,))])
        self.equal(one.registers, other.registers)
        self.assertNotEqual(one, other)


class HistoryAt(Case):

    def test_around_a_value(self):
        history = [("put", (5, TOP)), ("reset", (BOTTOM, 6)), ("x", ())]
        self.equal(history_at(history, 5), [("put", (TOP, TOP)), ("reset", (BOTTOM, TOP)), ("x", ())])
        self.equal(history_at(history, 6), [("put", (BOTTOM, TOP)), ("reset", (BOTTOM, TOP)), ("x", ())])
        self.equal(history_at(tuple(history), 7), [("put", (BOTTOM, TOP)), ("reset", (BOTTOM, BOTTOM)), ("x", ())])
        self.equal([history_at([], 0), history_at((), 0)], [[], []])
        self.equal(history_at(level=1, history=[("a", (1,))]), [("a", (TOP,))])

    def test_ticks_of_any_machine(self):
        self.equal(history_at([("abcdefg8", (1, 2, 3, TOP))], 2), [("abcdefg8", (BOTTOM, TOP, TOP, TOP))])

    def test_what_is_passed_stays(self):
        history = [("put", (5,))]
        history_at(history, 5).append(1)
        self.equal(history, [("put", (5,))])

    def test_wrong_histories(self):
        for history in NOT_LISTS:
            self.fails(InvalidHistory, {"position": None}, history_at, history, None)
        wrong = [None, True, "ab", (), ("put",), ("put", 1), ("put", [1]), ["put", (1,)], ("put", (1,), 1), ("put", "a"),
                 ((1,), "put")]
        wrong = wrong + [("put", (3, value)) for value in NOT_VALUES] + [(letter, (1,)) for letter in NOT_NAMES]
        for tick in wrong:
            with self.subTest(tick=tick):
                self.fails(InvalidHistory, {"position": 0}, history_at, [tick, None], None)
                self.fails(InvalidHistory, {"position": 2}, history_at, [("a", ()), ("b", (1,)), tick, 7], 0)

    def test_wrong_levels(self):
        for level in NOT_INTEGERS:
            self.fails(InvalidInteger, {"value": level}, history_at, [("a", (1,))], level)
            self.fails(InvalidInteger, {"value": level}, history_at, [], level)

    def test_outputs_and_states_at_all_levels(self):
        rng = random.Random(23)
        for machine in some_machines(23, 40):
            history = some_history(rng, machine, rng.randint(0, 12))
            outputs, state = outputs_of(machine, history), state_after(machine, history)
            for level in sorted({value + d for value in (-HUGE, -1, 0, 2, 3, HUGE - 2, HUGE) for d in (0, 1)}):
                ends = history_at(history, level)
                self.equal(ends, [(letter, tuple(at(value, level) for value in values)) for letter, values in history])
                self.equal(outputs_of(machine, ends), [tuple(at(value, level) for value in told) for told in outputs])
                self.equal(read(state_after(machine, ends)), state.at_level(level))


class Runs(Case):

    def look(self, run, machine, history):
        """Ask for a Run that is just behind this history."""
        self.assertIs(run.machine, machine)
        self.equal(run.ticks, len(history))
        self.equal(run.history(), list(history))
        self.equal(read(run.state), plain_run(machine, history)[1][-1])
        self.assertEqual(run.state, state_after(machine, history))

    def test_ticks(self):
        rng = random.Random(24)
        for machine in some_machines(24, 20):
            run, history = Run(machine=machine), some_history(rng, machine, 8)
            outputs = plain_run(machine, history)[0]
            for k, (letter, values) in enumerate(history):
                self.look(run, machine, history[:k])
                self.equal(run.do(letter, *values), outputs[k])
            self.look(run, machine, history)

    def test_undo(self):
        rng = random.Random(25)
        machine = ranked(3)
        run, history = Run(machine), []
        for _ in range(300):
            if rng.random() < 0.45 and history:
                self.assertIsNone(run.undo())
                history.pop()
            else:
                letter, values = some_history(rng, machine, 1)[0]
                history.append((letter, values))
                self.equal(run.do(letter, *values), plain_run(machine, history)[0][-1])
            self.look(run, machine, history)

    def test_undoing_more_than_there_is(self):
        run = Run(record())
        for _ in range(2):
            self.fails(NothingToUndo, {}, run.undo)
            run.do("put", 4)
            run.do_all([("put", (9,)), ("reset", (9,))])
            for _ in range(3):
                run.undo()
            self.fails(NothingToUndo, {}, run.undo)
            self.equal([run.ticks, run.history(), run.state.registers], [0, [], (BOTTOM,)])

    def test_all_at_once(self):
        rng = random.Random(26)
        for machine in some_machines(26, 20):
            run, history = Run(machine), some_history(rng, machine, 9)
            outputs = plain_run(machine, history)[0]
            self.equal(run.do_all(history[:4]), outputs[:4])
            self.equal(run.tried(history[4:]), outputs[4:])
            self.look(run, machine, history[:4])
            self.equal(run.do_all(history=tuple(history[4:])), outputs[4:])
            self.look(run, machine, history)
            self.equal([run.do_all([]), run.tried(()), run.tried(history=[])], [[], [], []])
            self.look(run, machine, history)

    def test_a_run_of_its_own_history(self):
        run = Run(record())
        run.do("put", 3)
        run.do_all(run.history())
        self.look(run, run.machine, [("put", (3,)), ("put", (3,))])

    def test_wrong_ticks_at_any_place(self):
        right = [("put", (3,)), ("put", (8,)), ("reset", (1,))]
        machine = record()
        run = Run(machine)
        run.do("put", 5)
        before = run.state
        for method in (run.do_all, run.tried):
            for history in NOT_LISTS:
                self.fails(InvalidHistory, {"position": None}, method, history)
            for tick in NOT_TICKS:
                for position in range(4):
                    history = right[:position] + [tick] + right[position:] + [None]
                    self.fails(InvalidHistory, {"position": position}, method, history)
                    self.look(run, machine, [("put", (5,))])
        self.assertEqual(run.state, before)
        run.undo()
        self.look(run, machine, [])

    def test_wrong_letters_ahead_of_wrong_values(self):
        machine = record()
        run = Run(machine)
        for letter in NOT_NAMES + ["take", "has0", 0]:
            for values in ((), (1,), (None,), (1, 2)):
                self.fails(UnknownLetter, {"value": letter}, run.do, letter, *values)
        self.look(run, machine, [])

    def test_wrong_values(self):
        for machine, wrong in ((without_inputs(), [(1,), (1, 2)]), (record(), [(), (1, 2), (None,)]),
                               (two_inputs(), [(), (1,), (1, 2, 3), (1, None), (True, 2)])):
            run = Run(machine)
            for values in wrong:
                self.fails(InvalidValues, {"value": values}, run.do, machine.letters[0], *values)
            self.look(run, machine, [])
        run = Run(two_inputs())
        for value in NOT_VALUES:
            self.fails(InvalidValues, {"value": (value, 2)}, run.do, "go", value, 2)
            self.fails(InvalidValues, {"value": (2, value)}, run.do, "go", 2, value)
        self.equal(run.ticks, 0)

    def test_copies(self):
        machine = ranked(2)
        run = Run(machine)
        run.do("put", 4)
        run.do("put", 8)
        twin = run.copy()
        self.assertIsInstance(twin, Run)
        self.look(twin, machine, [("put", (4,)), ("put", (8,))])
        twin.undo()
        self.equal([twin.do("rest", 1), twin.do("take", 1)], [(BOTTOM,), (4,)])
        self.look(run, machine, [("put", (4,)), ("put", (8,))])
        self.equal(run.do("take", 0), (8,))
        self.look(twin, machine, [("put", (4,)), ("rest", (1,)), ("take", (1,))])
        for _ in range(3):
            twin.undo()
        self.fails(NothingToUndo, {}, twin.undo)
        self.equal(run.ticks, 3)

    def test_states_that_were_told_stay(self):
        run = Run(record())
        run.do("put", 4)
        before = run.state
        run.do("put", 9)
        self.equal([before.registers, run.state.registers], [(4,), (9,)])
        run.undo()
        run.undo()
        self.equal([before.registers, run.state.registers], [(4,), (BOTTOM,)])

    def test_lists_that_are_passed_and_returned_stay_apart(self):
        run, history = Run(record()), [("put", (4,))]
        run.do_all(history)
        history.append(("put", (5,)))
        run.history().clear()
        run.tried([("put", (1,))]).clear()
        self.look(run, run.machine, [("put", (4,))])


class Examples(Case):

    def test_of_the_document(self):
        self.equal(outputs_of(recent(3, 2), [("put", (5,)), ("put", (9,)), ("put", (2,)), ("put", (7,))]),
                   [(BOTTOM,), (5,), (5,), (7,)])
        run = Run(ranked(2))
        self.equal([run.do("put", 4), run.do("put", 8), run.do("put", 6), run.do("take", 0), run.ticks],
                   [(BOTTOM,), (BOTTOM,), (BOTTOM,), (8,), 4])


if __name__ == "__main__":
    unittest.main()
