"""[31] and heldranks/ends.py of the interface."""

import itertools
import random
import unittest

from heldranks.ends import end_states, end_step, moves
from heldranks.errors import InvalidEnds, InvalidEndState, InvalidMachine, TooMany, UnknownLetter
from heldranks.makers import best, line, ranked, recent, record
from heldranks.runs import outputs_of, state_after
from tests.helpers import (
    BOTTOM, NOT_ENDS, NOT_NAMES, TOP, Case, counter, left_counter, plain_run, some_machines, two_inputs, value_of,
    without_inputs)


def moves_of(machine):
    """Return all moves of a machine, in order."""
    return [(letter, ends) for letter in sorted(machine.letters)
            for ends in itertools.product([BOTTOM, TOP], repeat=machine.inputs)]


def reached(machine):
    """Return the sorted list of all states that end histories lead to, each history grown from one before."""
    found = {(machine.first, machine.begin): []}
    waiting = [[]]
    while waiting:
        history = waiting.pop()
        for move in moves_of(machine):
            state = plain_run(machine, history + [move])[1][-1]
            if state not in found:
                found[state] = history + [move]
                waiting.append(history + [move])
    return sorted(found)


class Moves(Case):

    def test_in_order(self):
        self.equal(moves(record()), [("put", (BOTTOM,)), ("put", (TOP,)), ("reset", (BOTTOM,)), ("reset", (TOP,))])
        self.equal(moves(without_inputs()), [("go", ())])
        self.equal(moves(two_inputs())[:4],
                   [("go", (BOTTOM, BOTTOM)), ("go", (BOTTOM, TOP)), ("go", (TOP, BOTTOM)), ("go", (TOP, TOP))])
        for machine in some_machines(31, 12):
            self.equal(moves(machine=machine), moves_of(machine))

    def test_new_each_time(self):
        machine = record()
        moves(machine).clear()
        self.equal(len(moves(machine)), 4)

    def test_more_than_96_end_states_are_no_matter(self):
        self.equal(moves(counter(6, 2)), [("go", (BOTTOM,)), ("go", (TOP,))])


class EndStates(Case):

    def test_against_the_model(self):
        for machine in some_machines(32, 40):
            self.equal(end_states(machine), reached(machine))

    def test_made_machines(self):
        self.equal(end_states(recent(2, 1)), [(recent(2, 1).first, (BOTTOM,)), (recent(2, 1).first, (TOP,))])
        self.equal(end_states(best(2)), reached(best(2)))
        self.equal(len(end_states(machine=best(2))), 3)
        for machine in (line(3), ranked(3)):
            self.equal(end_states(machine), reached(machine))

    def test_new_each_time(self):
        machine = record()
        end_states(machine).clear()
        self.equal(len(end_states(machine)), 2)

    def test_without_inputs(self):
        self.equal(end_states(without_inputs()), [("even", ()), ("odd", ())])

    def test_96_and_more(self):
        # Each mode has all sixteen, or all thirty-two, states of its registers.
        self.equal(len(end_states(counter(4, 6))), 96)
        self.equal(len(end_states(counter(5, 3))), 96)
        for machine in (counter(4, 7), counter(6, 2), counter(5, 4)):
            self.fails(TooMany, {"kind": "states", "limit": 96}, end_states, machine)

    def test_just_above_96(self):
        # One more mode, in which all registers are BOTTOM for ever, has one end state.
        self.equal(len(end_states(left_counter(4, 5))), 81)
        self.fails(TooMany, {"kind": "states", "limit": 96}, end_states, left_counter(4, 6))


class EndStep(Case):

    def test_against_runs(self):
        for machine in some_machines(33, 20):
            histories = [[]] + [[move] for move in moves_of(machine)]
            for history in histories:
                state = state_after(machine, history)
                for letter, ends in moves_of(machine):
                    further = history + [(letter, ends)]
                    behind = state_after(machine, further)
                    self.equal(end_step(machine, (state.mode, state.registers), letter, ends),
                               (outputs_of(machine, further)[-1], (behind.mode, behind.registers)))

    def test_states_that_are_not_reached(self):
        rng = random.Random(34)
        for machine in some_machines(34, 30):
            for _ in range(10):
                state = (rng.choice(machine.modes), tuple(rng.choice([BOTTOM, TOP]) for _ in machine.begin))
                letter, ends = rng.choice(moves_of(machine))
                given = {f"r{k}": end for k, end in enumerate(state[1])}
                given.update({f"x{k}": end for k, end in enumerate(ends)})
                row = machine.row_at(state[0], letter)
                expected = (tuple(value_of(term, given) for term in row.outputs),
                            (row.mode, tuple(value_of(term, given) for term in row.registers)))
                self.equal(end_step(machine, state, letter, ends), expected)
        mode = best(2).first
        self.assertNotIn((mode, (BOTTOM, TOP)), end_states(best(2)))
        self.equal(end_step(best(2), (mode, (BOTTOM, TOP)), "put", (TOP,)), ((TOP, TOP), (mode, (TOP, TOP))))

    def test_by_name_and_beyond_96(self):
        self.equal(end_step(ends=(TOP,), letter="go", state=("m1", (BOTTOM,) * 6), machine=counter(6, 2)),
                   ((TOP,), ("m0", (TOP,) + (BOTTOM,) * 5)))

    def test_wrong_states(self):
        machine = ranked(2)
        self.equal(end_step(machine, ("has1", (TOP, BOTTOM)), "rest", (TOP,))[0], (BOTTOM,))
        wrong = [None, True, 0, "has1", "ab", (), ("has1",), ["has1", (TOP, BOTTOM)], ("has1", [TOP, BOTTOM]),
                 ("has1", (TOP, BOTTOM), 0), ("has1", ()), ("has1", (TOP,)), ("has1", (TOP, TOP, TOP)),
                 ((TOP, BOTTOM), "has1"), ("has1", None), ("has1", "ab"), {"has1": (TOP, TOP)}]
        wrong = wrong + [("has1", (TOP, end)) for end in NOT_ENDS]
        wrong = wrong + [(mode, (TOP, TOP)) for mode in NOT_NAMES + ["has9", "put", 0]]
        for state in wrong:
            with self.subTest(state=state):
                self.fails(InvalidEndState, {"value": state}, end_step, machine, state, None, None)

    def test_wrong_letters(self):
        state = (record().first, (TOP,))
        for letter in NOT_NAMES + ["take", state[0], 0]:
            self.fails(UnknownLetter, {"value": letter}, end_step, record(), state, letter, None)

    def test_wrong_ends(self):
        state = (record().first, (TOP,))
        for ends in [None, True, TOP, "", [TOP], [], (), (TOP, TOP), {TOP: TOP}] + [(end,) for end in NOT_ENDS]:
            self.fails(InvalidEnds, {"value": ends}, end_step, record(), state, "put", ends)
        for ends in ((TOP,), [TOP, TOP], (TOP, 1), (5, TOP), (TOP, TOP, TOP)):
            self.fails(InvalidEnds, {"value": ends}, end_step, two_inputs(), ("on", (TOP,)), "go", ends)
        self.fails(InvalidEnds, {"value": (TOP,)}, end_step, without_inputs(), ("odd", ()), "go", (TOP,))


class WrongMachines(Case):

    def test_each_function(self):
        for machine in (None, True, 0, "record", [], {}, (record(),)):
            self.fails(InvalidMachine, {"value": machine}, moves, machine)
            self.fails(InvalidMachine, {"value": machine}, end_states, machine)
            self.fails(InvalidMachine, {"value": machine}, end_step, machine, None, None, None)


if __name__ == "__main__":
    unittest.main()
