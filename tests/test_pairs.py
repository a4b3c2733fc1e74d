"""[31], [32], [33] and heldranks/pairs.py of the interface."""

import random
import unittest

from heldranks.errors import InvalidMachine, OtherShape, TooMany
from heldranks.machines import Machine, Row
from heldranks.makers import best, line, pile, ranked, recent, record
from heldranks.pairs import (
    alike_paper, are_alike, at_most_paper, excess, has_one_shape, is_alike_paper, is_at_most, is_at_most_paper, parting)
from heldranks.runs import outputs_of
from heldranks.terms import End, Place
from tests.helpers import (
    BOTTOM, NOT_ENDS, NOT_LISTS, TOP, Case, counter, height, left_counter, plain_run, some_history, some_machines,
    two_inputs, without_inputs)
from tests.search import (
    NOT_MACHINES, above, all_end_states, changed, closed, disguised, first_of, least_ticks, lowered, reached_steps,
    steps_from, unlike)

OF_TWO = [are_alike, is_at_most, parting, excess, alike_paper, at_most_paper]
OF_PAPERS = [is_alike_paper, is_at_most_paper]
# Machines with just 96 and with 97 reached end states.
JUST_96 = counter(4, 6)
JUST_97 = left_counter(4, 6)


def some_pairs(seed, many):
    """Return tuples of two machines: some that are alike, some that are below, and some that are changed a little."""
    rng = random.Random(seed)
    found = []
    for machine in some_machines(seed, many):
        found.append((machine, rng.choice([disguised, changed, lowered, changed])(rng, machine)))
    return found


class Shapes(Case):

    def test_what_counts(self):
        self.equal(has_one_shape(record(), record()), True)
        self.equal(has_one_shape(one=line(1), other=ranked(3)), True)
        self.equal(has_one_shape(recent(1, 1), recent(3, 2)), True)
        for one, other in ((record(), recent(1, 1)), (best(1), best(2)), (without_inputs(), counter(1, 1))):
            self.equal([has_one_shape(one, other), has_one_shape(other, one)], [False, False])

    def test_each_part(self):
        def made(letters, inputs, outputs):
            rows = {("on", letter): Row("on", [], [End(TOP)] * outputs) for letter in letters}
            return Machine(rows, inputs=inputs, outputs=outputs, first="on")
        first = made("ab", 1, 1)
        self.equal([has_one_shape(first, made(letters, inputs, outputs)) for letters, inputs, outputs in (
            ("ba", 1, 1), ("a", 1, 1), ("ac", 1, 1), ("abc", 1, 1), ("ab", 0, 1), ("ab", 2, 1), ("ab", 1, 2))],
            [True] + [False] * 6)

    def test_more_than_96_end_states_are_no_matter(self):
        self.equal([has_one_shape(JUST_97, JUST_97), has_one_shape(counter(6, 2), record())], [True, False])


class Alike(Case):

    def test_against_a_search(self):
        for one, other in some_pairs(41, 60):
            for first, second in ((one, other), (other, one), (one, one)):
                firsts, seconds = reached_steps(first), reached_steps(second)
                for found, tell, is_wrong in ((parting(first, second), are_alike, unlike),
                                              (excess(first, second), is_at_most, above)):
                    start = (first_of(first), first_of(second))
                    ticks = least_ticks(firsts, seconds, is_wrong).get(start)
                    self.equal(tell(first, second), ticks is None)
                    if ticks is None:
                        self.assertIsNone(found)
                    else:
                        self.assertIsInstance(found, list)
                        self.equal(len(found), ticks)
                        outputs, others = outputs_of(first, found), outputs_of(second, found)
                        self.assertTrue(is_wrong(outputs[-1], others[-1]))

    def test_all_kinds_are_met(self):
        kinds = {(are_alike(*both), is_at_most(*both), is_at_most(*both[::-1])) for both in some_pairs(41, 60)}
        self.assertEqual(kinds, {(True, True, True), (False, True, False), (False, False, True), (False, False, False)})

    def test_alike_for_all_histories(self):
        rng = random.Random(42)
        for machine in some_machines(42, 30):
            other = disguised(rng, machine)
            self.equal([are_alike(machine, other), are_alike(other, machine)], [True, True])
            self.equal([is_at_most(machine, other), is_at_most(other, machine)], [True, True])
            for _ in range(5):
                history = some_history(rng, machine, 12)
                self.equal(plain_run(machine, history)[0], plain_run(other, history)[0])

    def test_at_most_for_all_histories(self):
        rng = random.Random(43)
        for one, other in some_pairs(43, 60):
            if is_at_most(one, other):
                for _ in range(5):
                    history = some_history(rng, one, 10)
                    for first, second in zip(plain_run(one, history)[0], plain_run(other, history)[0]):
                        self.assertTrue(all(height(a) <= height(b) for a, b in zip(first, second)))

    def test_made_machines(self):
        self.equal([are_alike(line(1), pile(1)), are_alike(line(1), ranked(1)), are_alike(best(1), recent(3, 1))],
                   [True, True, False])
        self.equal([len(parting(line(2), pile(2))), len(parting(best(1), recent(3, 1)))], [3, 4])
        self.equal([is_at_most(recent(3, 2), recent(3, 1)), is_at_most(recent(3, 1), recent(3, 2))], [True, False])
        self.equal([is_at_most(recent(2, 1), recent(3, 1)), is_at_most(line(2), ranked(2))], [True, False])
        self.equal(excess(recent(3, 1), recent(2, 1))[0], ("put", (TOP,)))
        self.equal(len(excess(recent(3, 1), recent(2, 1))), 3)
        self.equal(parting(recent(2, 1), recent(2, 2)), [("put", (TOP,))])

    def test_without_inputs(self):
        machine = without_inputs()
        rows = {("even", "go"): Row("odd", [], [End(TOP)]), ("odd", "go"): Row("odd", [], [End(TOP)])}
        other = Machine(rows, inputs=0, outputs=1, first="odd")
        self.equal([parting(machine, other), excess(other, machine)], [[("go", ())], [("go", ())]])
        self.equal([is_at_most(machine, other), parting(machine, machine)], [True, None])

    def test_first_ends_and_first_modes_count(self):
        rows = {("on", "go"): Row("on", [Place("r0")], [Place("r0")])}
        high, low = [Machine(rows, inputs=1, outputs=1, first="on", begin=[end]) for end in (TOP, BOTTOM)]
        self.equal([are_alike(high, low), is_at_most(low, high), is_at_most(high, low)], [False, True, False])

    def test_names_and_repeated_queries(self):
        one, other = recent(3, 1), recent(3, 2)
        for function in OF_TWO:
            self.equal(function(one=one, other=other), function(one, other))
            self.equal(function(one, other), function(one, other))
        parting(one, other).clear()
        self.equal(len(parting(one, other)), 1)

    def test_document(self):
        self.equal([are_alike(recent(2, 1), recent(2, 2)), is_at_most(recent(2, 2), recent(2, 1))], [False, True])


def is_paper(one, other, value, is_wrong):
    """Tell whether a list of pairs of end states is a paper, by the steps of the test's own."""
    pairs = set(value)
    ones = steps_from(one, *[pair[0] for pair in pairs])
    others = steps_from(other, *[pair[1] for pair in pairs])
    if (first_of(one), first_of(other)) not in pairs:
        return False
    for here, there in pairs:
        for move in ones[here]:
            (outputs, ahead), (told, across) = ones[here][move], others[there][move]
            if is_wrong(outputs, told) or (ahead, across) not in pairs:
                return False
    return True


class Papers(Case):

    def told(self):
        """Return tuples (check, one, other, paper, what is wrong) of papers that were told."""
        found = []
        for one, other in some_pairs(44, 40):
            for tell, check, is_wrong, make in ((are_alike, is_alike_paper, unlike, alike_paper),
                                                (is_at_most, is_at_most_paper, above, at_most_paper)):
                for first, second in ((one, other), (other, one)):
                    paper = make(first, second)
                    self.equal(paper is None, not tell(first, second))
                    if paper is not None:
                        found.append((check, first, second, paper, is_wrong))
        return found

    def test_told(self):
        told = self.told()
        self.assertGreater(len(told), 40)
        for check, one, other, paper, is_wrong in told:
            self.assertIsInstance(paper, list)
            self.assertTrue(is_paper(one, other, paper, is_wrong))
            self.equal([check(one, other, paper), check(one=one, other=other, value=tuple(paper[::-1]))], [True, True])
            self.equal(check(one, other, paper + paper[:2]), True)

    def test_a_pair_less(self):
        for check, one, other, paper, is_wrong in self.told():
            for k in range(min(6, len(paper))):
                less = paper[:k] + paper[k + 1:]
                self.equal(check(one, other, less), is_paper(one, other, less, is_wrong))
            without_first = [pair for pair in paper if pair != (first_of(one), first_of(other))]
            self.equal([check(one, other, without_first), check(one, other, [])], [False, False])

    def test_pairs_more(self):
        rng = random.Random(45)
        results = set()
        for check, one, other, paper, is_wrong in self.told():
            for _ in range(4):
                more = (rng.choice(all_end_states(one)), rng.choice(all_end_states(other)))
                ones, others = steps_from(one, more[0]), steps_from(other, more[1])
                for added in ([more], closed(ones, others, [more])):
                    expected = is_paper(one, other, paper + added, is_wrong)
                    self.equal(check(one, other, paper + added), expected)
                    self.equal(check(one, other, added + paper), expected)
                    results.add((len(added) > 1, expected))
        self.assertEqual(results, {(False, False), (False, True), (True, False), (True, True)})

    def test_states_that_are_not_reached(self):
        # Of best(2), no end history leads to a register below the other one.
        machine = best(2)
        state = (machine.first, (BOTTOM, TOP))
        added = closed(steps_from(machine, state), steps_from(machine, state), [(state, state)])
        self.equal(is_alike_paper(machine, machine, alike_paper(machine, machine) + added), True)
        self.equal(is_alike_paper(machine, machine, alike_paper(machine, machine) + [(state, state)]), True)
        low = (machine.first, (BOTTOM, BOTTOM))
        self.equal(is_alike_paper(machine, machine, alike_paper(machine, machine) + [(state, low)]), False)

    def test_a_paper_for_at_most_is_none_for_alike(self):
        one, other = recent(3, 2), recent(3, 1)
        paper = at_most_paper(one, other)
        self.equal([is_at_most_paper(one, other, paper), is_alike_paper(one, other, paper)], [True, False])
        turned = [(pair[1], pair[0]) for pair in paper]
        self.equal(is_at_most_paper(other, one, turned), False)
        for check in OF_PAPERS:
            self.equal(check(line(2), line(2), alike_paper(line(2), line(2))), True)

    def test_values_of_other_kinds(self):
        machine = recent(2, 1)
        paper = alike_paper(machine, machine)
        mode = machine.first
        self.equal(sorted(paper), [((mode, (BOTTOM,)),) * 2, ((mode, (TOP,)),) * 2])
        low = (mode, (BOTTOM,))
        wrong = [None, True, 0, "", low, (low, low, low), (low,), [low, low], ([mode, (BOTTOM,)], low),
                 (low, (mode, [BOTTOM])), (low, (mode, BOTTOM)), (low, (mode, ())), (low, (mode, (BOTTOM, TOP))),
                 (("other", (BOTTOM,)), low), (low, ("other", (BOTTOM,))), ((None, (BOTTOM,)), low), {low: low},
                 ((mode, (BOTTOM,), 0), low), (low, None), (None, low), (([mode], (BOTTOM,)), low)]
        wrong = wrong + [((mode, (end,)), low) for end in NOT_ENDS] + [(low, (mode, (end,))) for end in NOT_ENDS]
        for check in OF_PAPERS:
            for value in NOT_LISTS + [machine, low[0], dict.fromkeys(paper), set(paper)]:
                self.equal(check(machine, machine, value), False)
            for pair in wrong:
                for value in (paper + [pair], [pair] + paper, (pair,), [pair]):
                    self.equal(check(machine, machine, value), False)
            self.equal([check(machine, machine, paper), check(machine, machine, tuple(paper))], [True, True])

    def test_lists_stay_as_they_were(self):
        machine = ranked(2)
        paper = alike_paper(machine, machine)
        before = list(paper)
        is_alike_paper(machine, machine, paper)
        self.equal(paper, before)
        paper.clear()
        self.equal(alike_paper(machine, machine), before)


class Limits(Case):

    def test_just_96(self):
        other = counter(5, 3)
        self.equal([are_alike(JUST_96, other), is_at_most(JUST_96, other)], [True, True])
        self.equal([parting(JUST_96, other), excess(JUST_96, other)], [None, None])
        self.equal(is_alike_paper(JUST_96, other, alike_paper(JUST_96, other)), True)
        self.equal(is_at_most_paper(JUST_96, other, at_most_paper(JUST_96, other)), True)

    def test_more(self):
        small = left_counter(1, 2)
        for one, other in ((JUST_97, small), (small, JUST_97), (JUST_97, JUST_97), (counter(6, 2), JUST_96),
                           (JUST_96, counter(4, 7))):
            for function in OF_TWO:
                self.fails(TooMany, {"kind": "states", "limit": 96}, function, one, other)
            for function in OF_PAPERS:
                for value in (None, [], [(first_of(one), first_of(other))]):
                    self.fails(TooMany, {"kind": "states", "limit": 96}, function, one, other, value)


class WrongInputs(Case):

    def test_values_that_are_no_machines(self):
        for value in NOT_MACHINES:
            for function in OF_TWO + [has_one_shape]:
                for other in (record(), JUST_97, None):
                    self.fails(InvalidMachine, {"value": value}, function, value, other)
                self.fails(InvalidMachine, {"value": value}, function, JUST_97, value)
            for function in OF_PAPERS:
                self.fails(InvalidMachine, {"value": value}, function, value, "other", None)
                self.fails(InvalidMachine, {"value": value}, function, record(), value, None)

    def test_other_shapes(self):
        for one, other in ((record(), recent(1, 1)), (best(1), best(2)), (two_inputs(), record()),
                           (without_inputs(), counter(1, 1)), (JUST_97, record()), (best(1), counter(6, 2)),
                           (JUST_97, counter(6, 2))):
            for function in OF_TWO:
                self.fails(OtherShape, {}, function, one, other)
                self.fails(OtherShape, {}, function, other, one)
            for function in OF_PAPERS:
                self.fails(OtherShape, {}, function, one, other, None)
                self.fails(OtherShape, {}, function, other, one, [])


if __name__ == "__main__":
    unittest.main()
