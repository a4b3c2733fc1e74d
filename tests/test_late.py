"""[76] and heldranks/late.py of the interface."""

import itertools
import random
import unittest

from heldranks.errors import InvalidCount, InvalidMachine, OtherShape, TooMany
from heldranks.late import is_late_by, is_late_paper, late_paper, late_parting
from heldranks.machines import Machine, Row
from heldranks.makers import best, line, recent, record
from heldranks.terms import End, Place
from tests.helpers import (
    BOTTOM, HUGE, NOT_INTEGERS, NOT_LISTS, TOP, Case, counter, left_counter, plain_run, some_history, some_machine,
    two_inputs, without_inputs)
from tests.search import NOT_MACHINES, all_end_states, changed, first_of, moves_of, reached_steps, steps_from

NOT_LATE = NOT_INTEGERS + [0, -1, 4, 5, HUGE]


def handed_on(machine, many, begin=BOTTOM):
    """Return the machine with its outputs handed on through so many further registers each."""
    rows, registers = {}, machine.registers
    for pair, row in machine.rows().items():
        kept, told = list(row.registers), []
        for output, term in enumerate(row.outputs):
            own = [Place(f"r{registers + output * many + k}") for k in range(many)]
            kept.extend([term] + own[:-1])
            told.append(own[-1])
        rows[pair] = Row(row.mode, kept, told)
    return Machine(rows, inputs=machine.inputs, outputs=machine.outputs, first=machine.first,
                   begin=list(machine.begin) + [begin] * (many * machine.outputs))


def sample():
    """Return machines with room for further registers, and for how many ticks they can be handed on."""
    rng = random.Random(321)
    made = [(record(), 3), (line(1), 3), (line(2), 2), (recent(2, 1), 3), (recent(3, 2), 3), (best(1), 3), (best(2), 2),
            (two_inputs(), 2), (without_inputs(), 3)]
    for k in range(30):
        outputs = 1 + k % 2
        many = 1 + k % (3 if outputs == 1 else 2)
        made.append((some_machine(rng, k % 3, k % 3, outputs, 1 + k % 3, 1 + k % 2), many))
    return [(machine, many) for machine, many in made if len(reached_steps(handed_on(machine, many))) <= 96]


def least_late(one, other, many):
    """Return the least number of ticks at the last of which the first machine is not late by so many, or None.

    All that can be met after so many ticks is looked at, one number of ticks after the other.
    """
    ones, others = reached_steps(one), reached_steps(other)
    here, ticks, known = {(first_of(one), first_of(other), ())}, 0, set()
    while here - known:
        known |= here
        ticks += 1
        behind = set()
        for state, across, queue in here:
            for move in ones[state]:
                if len(queue) == many and ones[state][move][0] != queue[0]:
                    return ticks
                longer = (*queue, others[across][move][0])
                behind.add((ones[state][move][1], others[across][move][1], longer[-many:]))
        here = behind
    return None


def is_paper(one, other, many, paper):
    """Tell whether a list of tuples (end state, end state, queue) is a late paper, by steps of the test's own."""
    found = set(paper)
    if (first_of(one), first_of(other), ()) not in found:
        return False
    ones, others = steps_from(one, *[triple[0] for triple in found]), steps_from(other, *[t[1] for t in found])
    for state, across, queue in found:
        for move in moves_of(one):
            outputs, ahead = ones[state][move]
            told, beyond = others[across][move]
            if len(queue) == many and queue[0] != outputs:
                return False
            if (ahead, beyond, (*queue, told)[-many:]) not in found:
                return False
    return True


def pairs():
    """Return tuples (machine, machine, number): late ones, and the same with one row otherwise or for other numbers."""
    rng = random.Random(322)
    found = []
    for machine, many in sample():
        late = handed_on(machine, many, rng.choice([BOTTOM, TOP]))
        found.append((late, machine, many))
        found.extend([(changed(rng, late), machine, many) for _ in range(3)])
        found.extend([(late, machine, other) for other in (1, 2, 3) if other != many])
        found.append((machine, machine, rng.randint(1, 3)))
    return [row for row in found if len(reached_steps(row[0])) <= 96]


class Late(Case):

    def test_outputs_that_are_handed_on(self):
        rng = random.Random(323)
        for machine, most in sample():
            for many in range(1, most + 1):
                late = handed_on(machine, many, rng.choice([BOTTOM, TOP]))
                self.equal(is_late_by(late, machine, many), True)
                self.equal(is_late_by(many=many, other=machine, one=late), True)
                self.equal(late_parting(late, machine, many), None)
                history = some_history(rng, machine, 12)
                self.equal(plain_run(late, history)[0][many:], plain_run(machine, history)[0][:12 - many])

    def test_against_a_search(self):
        met = set()
        for one, other, many in pairs():
            least = least_late(one, other, many)
            self.equal(is_late_by(one, other, many), least is None)
            found = late_parting(one, other, many)
            self.equal(None if found is None else len(found), least)
            self.equal(late_paper(one, other, many) is None, least is not None)
            if found is not None:
                self.assertIs(found.__class__, list)
                told = plain_run(one, found)[0][-1]
                self.assertNotEqual(told, plain_run(other, found)[0][-1 - many])
                self.assertTrue(all(end in (BOTTOM, TOP) for _, ends in found for end in ends))
            met.add(None if least is None else least - many)
        self.assertLessEqual({None, 1, 2, 3}, met)

    def test_a_machine_that_always_tells_the_same(self):
        rows = {("on", "put"): Row("on", [], [End(TOP)])}
        same = Machine(rows, inputs=1, outputs=1, first="on")
        self.equal([is_late_by(same, same, many) for many in (1, 2, 3)], [True] * 3)
        self.equal([late_parting(recent(1, 1), same, many)[-1] for many in (1, 2, 3)], [("put", (BOTTOM,))] * 3)

    def test_the_first_ticks_may_be_any(self):
        # A tick that is told late is looked at from the second one on.
        machine = recent(1, 1)
        for begin in (BOTTOM, TOP):
            self.equal([is_late_by(handed_on(machine, many, begin), machine, many) for many in (1, 2, 3)], [True] * 3)
        self.equal(len(late_parting(machine, machine, 3)), 4)


class Papers(Case):

    def told(self):
        found = [(one, other, many, late_paper(one, other, many)) for one, other, many in pairs()]
        return [row for row in found if row[3] is not None]

    def test_told(self):
        many_met = set()
        for one, other, many, paper in self.told():
            self.assertTrue(is_paper(one, other, many, paper))
            self.equal(paper.__class__, list)
            self.equal(is_late_paper(one, other, many, paper), True)
            # Other sequences and tuples that stand twice are right as well.
            turned = tuple(reversed(paper)) + tuple(paper[:3])
            self.equal(is_late_paper(value=turned, many=many, other=other, one=one), True)
            many_met.add(many)
        self.assertEqual(many_met, {1, 2, 3})

    def test_a_tuple_left_out(self):
        for one, other, many, paper in self.told():
            for k in range(min(len(paper), 8)):
                self.equal(is_late_paper(one, other, many, paper[:k] + paper[k + 1:]), False)

    def test_another_tuple_more(self):
        rng = random.Random(324)
        met = set()
        for one, other, many, paper in self.told():
            states, others = all_end_states(one), all_end_states(other)
            told = list(itertools.product([BOTTOM, TOP], repeat=other.outputs))
            for _ in range(6):
                queue = tuple(rng.choice(told) for _ in range(rng.randint(0, many)))
                more = paper + [(rng.choice(states), rng.choice(others), queue)]
                expected = is_paper(one, other, many, more)
                met.add(expected)
                self.equal(is_late_paper(one, other, many, more), expected)
        self.assertEqual(met, {True, False})

    def test_for_other_machines_and_numbers(self):
        for one, other, many, paper in self.told()[:20]:
            for number in (1, 2, 3):
                if all(len(queue) <= number for _, _, queue in paper):
                    self.equal(is_late_paper(one, other, number, paper), is_paper(one, other, number, paper))
                else:
                    self.equal(is_late_paper(one, other, number, paper), False)

    def test_a_queue_too_long(self):
        machine = recent(1, 1)
        late = handed_on(machine, 1)
        paper = late_paper(late, machine, 1)
        here, there = first_of(late), first_of(machine)
        longer = (here, there, ((BOTTOM,), (BOTTOM,)))
        self.equal(is_late_paper(late, machine, 1, paper), True)
        self.equal(is_late_paper(late, machine, 1, paper + [longer]), False)

    def test_values_of_other_kinds(self):
        machine = recent(1, 1)
        late = handed_on(machine, 2)
        paper = late_paper(late, machine, 2)
        here, there, queue = paper[-1]
        self.assertEqual(len(queue), 2)
        others = [None, 0, "", (), (here, there), [here, there, queue], (here, there, queue, queue),
                  (here, there, list(queue)), (here, there, None), (here, there, (queue[0], [BOTTOM])),
                  (here, there, (BOTTOM,)), (here, there, (queue[0], (BOTTOM, BOTTOM))), (here, there, ((True,),)),
                  (here, there, ((0,),)), (here, there, ((),)), (there, here, queue), (here, None, queue),
                  ([*here], there, queue), ((here[0], [BOTTOM, BOTTOM]), there, queue), (("other", here[1]), there, queue),
                  ((here[0], (BOTTOM,)), there, queue), ((here[0], (BOTTOM, 1)), there, queue)]
        for value in others:
            self.equal(is_late_paper(late, machine, 2, paper + [value]), False)
            self.equal(is_late_paper(late, machine, 2, [value] + paper), False)
        for value in NOT_LISTS + [[], (), machine, dict.fromkeys(paper), set(paper)]:
            self.equal(is_late_paper(late, machine, 2, value), False)
        self.equal(is_late_paper(late, machine, 2, paper), True)

    def test_nothing_is_accepted_for_machines_that_are_not_late(self):
        for one, other, many in pairs():
            if least_late(one, other, many) is not None:
                known = [(first_of(one), first_of(other), ())]
                told = [(BOTTOM,) * other.outputs, (TOP,) * other.outputs]
                for state, across in itertools.product(list(reached_steps(one))[:6], list(reached_steps(other))[:6]):
                    for size in range(many + 1):
                        known.extend([(state, across, queue) for queue in itertools.product(told, repeat=size)])
                self.equal(is_late_paper(one, other, many, known), False)
                self.equal(is_late_paper(one, other, many, []), False)

    def test_repeated_queries(self):
        late = handed_on(record(), 1)
        paper = late_paper(late, record(), 1)
        before = list(paper)
        self.equal(late_paper(late, record(), 2), None)
        is_late_paper(late, record(), 1, paper)
        self.equal(paper, before)
        paper.clear()
        self.equal(late_paper(many=1, other=record(), one=late), before)
        found = late_parting(record(), record(), 2)
        again = list(found)
        found.clear()
        self.equal(late_parting(record(), record(), 2), again)


class WrongInputs(Case):

    CALLS = [(is_late_by, ()), (late_parting, ()), (late_paper, ()), (is_late_paper, (None,))]

    def test_machines_and_numbers(self):
        for function, rest in self.CALLS:
            for value in NOT_MACHINES:
                self.fails(InvalidMachine, {"value": value}, function, value, None, 0, *rest)
                self.fails(InvalidMachine, {"value": value}, function, record(), value, 0, *rest)
            for many in NOT_LATE:
                for other in (record(), recent(1, 1), left_counter(4, 6)):
                    self.fails(InvalidCount, {"value": many}, function, record(), other, many, *rest)

    def test_other_shapes_ahead_of_too_many(self):
        for function, rest in self.CALLS:
            for one, other in ((record(), recent(1, 1)), (recent(1, 1), best(2)), (left_counter(4, 6), record()),
                               (record(), left_counter(4, 6)), (without_inputs(), two_inputs())):
                self.fails(OtherShape, {}, function, one, other, 1, *rest)
            for one, other in ((left_counter(4, 6), left_counter(4, 6)), (counter(6, 2), counter(1, 1)),
                               (counter(1, 1), counter(6, 2))):
                self.fails(TooMany, {"kind": "states", "limit": 96}, function, one, other, 3, *rest)

    def test_just_96_end_states(self):
        for one, other in ((counter(4, 6), counter(5, 3)), (counter(5, 3), counter(4, 6))):
            self.equal(is_late_by(one, other, 1), False)
            self.equal(len(late_parting(one, other, 2)), 3)
            self.equal(is_late_paper(one, other, 1, late_paper(one, other, 1)), False)


if __name__ == "__main__":
    unittest.main()
