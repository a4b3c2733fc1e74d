"""[91] and heldranks/nests.py of the interface."""

import random
import unittest

from heldranks.errors import InvalidMachine, InvalidNest
from heldranks.joined import after
from heldranks.machines import Machine, Row
from heldranks.makers import best, line, pile, ranked, recent, record
from heldranks.nests import far, far_outputs, far_ticks
from heldranks.runs import State
from heldranks.terms import Place
from tests.helpers import (
    BOTTOM, HUGE, NOT_COUNTS, NOT_LISTS, NOT_NAMES, NOT_VALUES, TOP, Case, counter, plain_run, some_history,
    some_machines, two_inputs, without_inputs)
from tests.search import NOT_MACHINES

MOST = 10 ** 18


def written_out(nest):
    """Return the history for which a nest stands."""
    found = []
    for part in nest:
        if isinstance(part[0], str):
            found.append(part)
        else:
            found.extend(written_out(part[0]) * part[1])
    return found


def some_nest(rng, machine, deep, most):
    """Return a nest of at most this depth, with parts that are repeated up to so many times."""
    found = []
    for _ in range(rng.randint(0, 4)):
        if deep > 1 and rng.random() < 0.5:
            found.append((some_nest(rng, machine, deep - 1, most), rng.randint(0, most)))
        else:
            found.extend(some_history(rng, machine, 1))
    return found if rng.random() < 0.7 else tuple(found)


def reckoned(machine, nest):
    """Return the state behind a nest and its last outputs, with tables of what each part makes of all states.

    What a part makes of a state is squared again and again: for two times, four times, and so on.
    """
    def step(nest, state):
        outputs = None
        for part in nest:
            if isinstance(part[0], str):
                state, told = one_tick(machine, state, part)
            else:
                state, told = many_times(part[0], part[1], state)
            outputs = told if told is not None else outputs
        return state, outputs

    def many_times(nest, times, state):
        # A table from the states that can come to those behind 1, 2, 4, .. times; it grows as they are met.
        tables = [{}]

        def behind(level, state):
            while len(tables) <= level:
                tables.append({})
            if state not in tables[level]:
                if level == 0:
                    tables[0][state] = step(nest, state)
                else:
                    half = behind(level - 1, state)
                    tables[level][state] = behind(level - 1, half[0])
            return tables[level][state]

        outputs = None
        for level in range(times.bit_length()):
            if times >> level & 1:
                state, outputs = behind(level, state)
        return state, outputs

    return step(nest, (machine.first, machine.begin))


def one_tick(machine, state, tick):
    """Return the state behind a tick, and its outputs."""
    rows = machine.rows()
    twin = Machine(rows, inputs=machine.inputs, outputs=machine.outputs, first=state[0], begin=[BOTTOM] * len(state[1]))
    row = twin.row_at(state[0], tick[0])
    given = {f"r{k}": value for k, value in enumerate(state[1])}
    given.update({f"x{k}": value for k, value in enumerate(tick[1])})
    return (row.mode, tuple(term.at(given) for term in row.registers)), tuple(term.at(given) for term in row.outputs)


def turning():
    """Return a machine that turns two and three registers round, and puts a value in at another letter."""
    places = [Place(f"r{k}") for k in range(5)]
    rows = {("on", "turn"): Row("off", [places[1], places[0], places[3], places[4], places[2]], [places[0], places[2]]),
            ("on", "put"): Row("on", [Place("x0")] + places[1:2] + [Place("x0")] + places[3:], [places[1], places[3]]),
            ("off", "turn"): Row("on", places, [places[4], places[1]]),
            ("off", "put"): Row("off", places, [places[1], Place("x0")])}
    return Machine(rows, inputs=1, outputs=2, first="on", begin=[BOTTOM, TOP, BOTTOM, TOP, BOTTOM])


def sample():
    made = [record(), line(2), pile(3), ranked(2), best(2), recent(3, 2), two_inputs(), without_inputs(), turning()]
    return some_machines(721, 24) + made


class Nests(Case):

    def check(self, machine, nest, state, outputs):
        self.equal((far(machine, nest).mode, far(machine, nest).registers), state)
        self.equal(far_outputs(machine, nest), outputs)
        self.equal(far_outputs(nest=nest, machine=machine), outputs)
        self.assertTrue(far(nest=nest, machine=machine) == far(machine, nest))

    def test_against_histories_that_are_written_out(self):
        rng = random.Random(722)
        depths = set()
        for machine in sample():
            for deep in (1, 2, 3):
                for _ in range(8):
                    nest = some_nest(rng, machine, deep, 4)
                    history = written_out(nest)
                    told, states = plain_run(machine, history)
                    self.check(machine, nest, states[-1], told[-1] if told else None)
                    self.equal(far_ticks(nest), len(history))
                    depths.add(deep)
        self.assertEqual(depths, {1, 2, 3})

    def test_many_times_as_written_out(self):
        rng = random.Random(723)
        for machine in sample():
            for times in (0, 1, 2, 30, 59, 60, 61):
                part = some_history(rng, machine, 3)
                nest = some_history(rng, machine, 1) + [(part, times), ([], times)] + some_history(rng, machine, times & 1)
                history = written_out(nest)
                told, states = plain_run(machine, history)
                self.check(machine, nest, states[-1], told[-1])

    def test_as_many_times_as_there_can_be(self):
        rng = random.Random(724)
        for machine in sample():
            for _ in range(6):
                nest = some_nest(rng, machine, 2, 2)
                inner = [(some_history(rng, machine, 2) + [(some_history(rng, machine, 2), MOST - rng.randint(0, 9))],
                          MOST - rng.randint(0, 9))]
                for whole in ([(list(nest)[:2], MOST)], [*nest, *inner], [*inner, *nest], inner):
                    state, outputs = reckoned(machine, whole)
                    self.check(machine, whole, state, outputs)

    def test_turns(self):
        machine = turning()
        start = [("put", (4,)), ("turn", (0,)), ("turn", (0,)), ("put", (7,))]
        twelve = [("turn", (0,))] * 12
        once = plain_run(machine, start + twelve)
        self.check(machine, start + [(twelve, MOST)], once[1][-1], once[0][-1])
        for more in range(12):
            told = plain_run(machine, start + [("turn", (0,))] * (12 + more))
            times = 10 ** 17 * 12 + more if 10 ** 17 * 12 + more <= MOST else 12 * (MOST // 12 - 1) + more
            self.check(machine, start + [([("turn", (0,))], times)], told[1][-1], told[0][-1])

    def test_document(self):
        both = after(recent(2, 1), recent(2, 2))
        self.equal(far_outputs(both, [([("put", (4,))], 10 ** 12)]), (4,))

    def test_without_ticks(self):
        for machine in (record(), turning(), without_inputs()):
            first = (machine.first, machine.begin)
            tick = some_history(random.Random(1), machine, 1)
            for nest in ([], (), [([], 0)], [([], MOST)], [(tick, 0)], [([(tick, 0), ((), 5)], MOST)],
                         (((((), MOST),), 3),)):
                self.check(machine, nest, first, None)
                self.equal(far_ticks(nest), 0)
            # What has no tick tells nothing: the last outputs are those of the tick before.
            told = plain_run(machine, tick)
            self.check(machine, [*tick, ([], MOST), (tick, 0)], told[1][-1], told[0][-1])

    def test_ticks(self):
        put = ("put", (4,))
        self.equal([far_ticks([put, put]), far_ticks([([put], MOST)]), far_ticks([([([put, put], MOST)], MOST), put])],
                   [2, MOST, 2 * MOST ** 2 + 1])
        self.equal(far_ticks(nest=[("other", ()), ("x", (TOP, 3, BOTTOM)), ([("go", (HUGE,))], 7)]), 9)

    def test_states(self):
        found = far(line(2), [([("put", (4,))], MOST)])
        self.assertIs(found.__class__, State)
        self.equal([found.levels(), found.at_level(4) == found.at_level(1)], [[4], True])

    def test_arguments_stay(self):
        part = [("put", (4,))]
        nest = [(part, 3), ("put", (5,))]
        first = far_outputs(best(1), nest)
        far(best(1), nest)
        far_ticks(nest)
        self.equal(nest, [([("put", (4,))], 3), ("put", (5,))])
        self.equal([far_outputs(recent(1, 1), nest), far_outputs(best(1), nest)], [(5,), first])

    def test_more_than_96_end_states(self):
        nest = [([("go", (TOP,)), ("go", (5,))], MOST)]
        self.equal(far_outputs(counter(6, 12), nest), (5,))
        self.equal(far(counter(6, 12), nest).registers, (5, TOP, 5, TOP, 5, TOP))


def looks_like_a_nest(part):
    """Tell whether something would be a nest that is repeated, whatever is inside: three deep inside, it is too deep."""
    return isinstance(part, tuple) and len(part) == 2 and isinstance(part[0], (list, tuple))


class WrongInputs(Case):

    def refused(self, machine, nest, position):
        self.fails(InvalidNest, {"position": position}, far, machine, nest)
        self.fails(InvalidNest, {"position": position}, far_outputs, machine, nest)

    def test_machines(self):
        for value in NOT_MACHINES:
            self.fails(InvalidMachine, {"value": value}, far, value, None)
            self.fails(InvalidMachine, {"value": value}, far_outputs, value, None)

    def test_no_lists(self):
        for value in NOT_LISTS + [record()]:
            self.refused(best(1), value, None)
            self.fails(InvalidNest, {"position": None}, far_ticks, value)

    def test_too_deep(self):
        put = ("put", (4,))
        three = [([([put], 2)], 2)]
        self.equal([far_outputs(best(1), three), far_ticks(three)], [(4,), 4])
        for inner in ([put], [], ()):
            for times in (0, 1, MOST, MOST + 1, -1, True, None, "x"):
                four = [([([(inner, times)], times)], times)]
                for nest in (four, [put] + four, tuple(four), four + [("other", ())], [None, 5] + four):
                    self.refused(best(1), nest, None)
                    self.fails(InvalidNest, {"position": None}, far_ticks, nest)

    def test_times(self):
        put = ("put", (4,))
        for times in NOT_COUNTS + [MOST + 1, HUGE]:
            for wrong in (([put], times), ([([put], times)], 1), ([([put], 1), ([], times)], 0)):
                for at in range(3):
                    nest = [put] * at + [wrong, ("other", 5)]
                    self.refused(best(1), nest, at)
                    self.fails(InvalidNest, {"position": at}, far_ticks, nest)

    def test_ticks_of_the_machine(self):
        put = ("put", (4,))
        wrong = [None, 0, "put", (), ("put",), ("put", 4), ("put", (4,), 1), ["put", (4,)], ("put", [4]), ("put", ()),
                 ("put", (4, 5)), ("other", (4,)), [put], ([put],), ([put], 1, 1), [[put], 1], ({}, 1), ("", (4,))]
        wrong += [("put", (value,)) for value in NOT_VALUES] + [(name, (4,)) for name in NOT_NAMES]
        for part in wrong:
            for at in range(3):
                self.refused(best(1), [put] * at + [part, None], at)
                self.refused(best(1), [put] * at + [([put, part], 2), None], at)
                self.refused(best(1), [([], 0)] * at + [([put, ((part, put), 0)], MOST), None],
                             None if looks_like_a_nest(part) else at)

    def test_any_ticks(self):
        put = ("put", (4,))
        wrong = [None, 0, "put", (), ("put",), ("put", 4), ("put", (4,), 1), ["put", (4,)], ("put", [4]), ([put],),
                 ([put], 1, 1), [[put], 1], ({}, 1)]
        wrong += [("put", (value,)) for value in NOT_VALUES] + [(name, (4,)) for name in NOT_NAMES]
        for part in wrong:
            for at in range(3):
                self.fails(InvalidNest, {"position": at}, far_ticks, [put] * at + [part, None])
                position = None if looks_like_a_nest(part) else at
                self.fails(InvalidNest, {"position": position}, far_ticks, [put] * at + [([put, ([part], 0)], 2), None])


if __name__ == "__main__":
    unittest.main()
