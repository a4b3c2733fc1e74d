"""[75] and heldranks/forgetting.py of the interface."""

import itertools
import random
import unittest

from heldranks.errors import InvalidCount, InvalidMachine, TooMany, UnknownLetter
from heldranks.forgetting import forgets, is_remembered, is_still_apart, past_ticks, remembered, still_apart
from heldranks.machines import Machine, Row
from heldranks.makers import best, line, pile, ranked, recent, record
from heldranks.terms import End, Place
from tests.helpers import (
    BOTTOM, HUGE, NOT_COUNTS, NOT_ENDS, NOT_LISTS, NOT_NAMES, TOP, Case, counter, left_counter, plain_run, some_end,
    some_history, some_machines, some_value, two_inputs, without_inputs)
from tests.search import NOT_MACHINES, classes_as_met, disguised, first_of, moves_of, reached_steps

NO_BOUND = "no bound"


def delay(many):
    """Return a machine that tells each value so many ticks later."""
    looked = [Place("x0")] + [Place(f"r{k}") for k in range(many)]
    return Machine({("on", "put"): Row("on", looked[:-1], [looked[-1]])}, inputs=1, outputs=1, first="on",
                   begin=[BOTTOM] * many)


def reset_by(many):
    """Return a machine that remembers a value until the letter clear was done so many times in sequence."""
    rows = {}
    for k in range(many):
        rows[f"m{k}", "put"] = Row("m0", [Place("r0") | Place("x0")], [Place("r0")])
        kept = Place("r0") if k < many - 1 else End(BOTTOM)
        rows[f"m{k}", "clear"] = Row(f"m{(k + 1) % many}", [kept], [Place("r0")])
    return Machine(rows, inputs=1, outputs=1, first="m0", begin=[BOTTOM])


def two_letters():
    """Return a machine that tells one of two registers, which the letters a and b give new values."""
    rows = {("on", "a"): Row("on", [Place("x0"), Place("r1")], [Place("r1")]),
            ("on", "b"): Row("on", [Place("r0"), Place("x0")], [Place("r0")])}
    return Machine(rows, inputs=1, outputs=1, first="on", begin=[BOTTOM, TOP])


def sample():
    made = [record(), line(1), line(2), pile(2), ranked(2), best(1), best(2), recent(1, 1), recent(3, 2), two_inputs(),
            without_inputs(), reset_by(1), reset_by(3), two_letters(), delay(2), delay(3), delay(4)]
    return some_machines(221, 40) + made


class Walk:
    """What pairs of unlike classes lead to, found from the classes that the tests search for by themselves."""

    def __init__(self, machine):
        self.steps = classes_as_met(reached_steps(machine), first_of(machine))
        self.moves = moves_of(machine)
        self.pairs = set(itertools.combinations(range(len(self.steps)), 2))

    def behind(self, pairs, moves):
        """Return the unlike pairs to which these moves lead from some pairs."""
        found = {tuple(sorted((self.steps[one][move][1], self.steps[other][move][1])))
                 for one, other in pairs for move in moves}
        return found & self.pairs

    def past(self):
        pairs, ticks = self.pairs, 0
        while pairs:
            behind = self.behind(pairs, self.moves)
            if behind == pairs:
                return NO_BOUND
            pairs, ticks = behind, ticks + 1
        return ticks

    def are_forgotten(self, letters):
        pairs = self.pairs
        for letter in letters:
            pairs = self.behind(pairs, [move for move in self.moves if move[0] == letter])
        return not pairs


def shows(machine, one, other, ticks, behind):
    """Tell whether two end histories, each followed by ticks and what is behind, have unlike outputs at the end."""
    told = [plain_run(machine, [*history, *ticks, *behind])[0] for history in (one, other)]
    return len(behind) > 0 and told[0][-1] != told[1][-1]


def are_ends(history):
    return all(end in (BOTTOM, TOP) for _, values in history for end in values)


class Past(Case):

    def test_against_a_walk(self):
        met = set()
        for machine in sample():
            expected = Walk(machine).past()
            self.equal(past_ticks(machine), expected)
            met.add(expected)
        self.assertLessEqual({0, 1, 2, 3, 4, NO_BOUND}, met)

    def test_machines(self):
        self.equal([past_ticks(delay(many)) for many in range(7)], list(range(7)))
        self.equal([past_ticks(recent(many, 1)) for many in (1, 2, 3)], [0, 1, 2])
        self.equal([past_ticks(machine) for machine in (record(), line(1), pile(3), ranked(2), best(1), best(2))],
                   [NO_BOUND] * 6)

    def test_modes_that_are_remembered_for_ever(self):
        # There is no value at all, but the modes go on by turns.
        self.equal(past_ticks(machine=without_inputs()), NO_BOUND)
        rows = {("start", "a"): Row("one", [], [End(TOP)]), ("start", "b"): Row("two", [], [End(TOP)])}
        for letter in "ab":
            rows["one", letter] = Row("one", [], [End(BOTTOM)])
            rows["two", letter] = Row("two", [], [End(TOP)])
        machine = Machine(rows, inputs=0, outputs=1, first="start")
        self.equal(past_ticks(machine), NO_BOUND)
        found = still_apart(machine, 40)
        self.assertTrue(shows(machine, *found))
        self.equal(forgets(machine, ["a", "b"] * 15), False)

    def test_equal_ticks_are_followed_by_equal_outputs(self):
        rng = random.Random(222)
        many = 0
        for machine in sample():
            past = past_ticks(machine)
            if past != NO_BOUND:
                for _ in range(10):
                    one, other = [some_history(rng, machine, rng.randint(0, 6)) for _ in range(2)]
                    ticks, behind = some_history(rng, machine, past), some_history(rng, machine, 8)
                    told = [plain_run(machine, [*history, *ticks, *behind])[0][-8:] for history in (one, other)]
                    self.equal(told[0], told[1])
                    many += 1
        self.assertGreater(many, 100)

    def test_the_same_for_machines_that_are_alike(self):
        rng = random.Random(223)
        for machine in sample():
            if machine.registers < 4:
                self.equal(past_ticks(disguised(rng, machine)), past_ticks(machine))


class StillApart(Case):

    def test_exactly_for_fewer_ticks_than_the_past(self):
        for machine in sample():
            past = past_ticks(machine)
            for many in [0, 1, 2, 3, 4, 5, 6, 39, 40]:
                found = still_apart(machine, many)
                self.equal(found is None, past != NO_BOUND and many >= past)
                if found is not None:
                    one, other, ticks, behind = found
                    self.equal([part.__class__ for part in (found, *found)], [tuple, list, list, list, list])
                    self.assertEqual(len(ticks), many)
                    self.assertTrue(all(are_ends(history) for history in found))
                    self.assertTrue(shows(machine, one, other, ticks, behind))
                    self.equal(is_still_apart(machine, many, found), True)
                    twin = tuple(tuple(part) for part in found)
                    self.equal(is_still_apart(value=twin, many=many, machine=machine), True)

    def test_one_part_otherwise(self):
        rng = random.Random(224)
        met = set()
        for machine in sample():
            for many in (0, 1, 2, 3):
                found = still_apart(machine, many)
                for k in range(4 if found else 0):
                    for _ in range(4):
                        other = list(found)
                        other[k] = some_history(rng, machine, many if k == 2 else rng.randint(0, 3), some_end)
                        expected = shows(machine, *other)
                        met.add((k, expected))
                        self.equal(is_still_apart(machine, many, tuple(other)), expected)
        self.assertEqual(met, {(k, expected) for k in range(4) for expected in (True, False)})

    def test_other_numbers_of_ticks(self):
        machine = delay(3)
        for many in range(3):
            found = still_apart(machine, many)
            for other in range(8):
                self.equal(is_still_apart(machine, other, found), other == many)

    def test_values_of_other_kinds(self):
        machine = two_inputs()
        found = still_apart(machine, 2)
        self.equal(is_still_apart(machine, 2, found), True)
        for value in NOT_LISTS + [list(found), found[:3], found + ([],), (), (None,) * 4, machine]:
            self.equal(is_still_apart(machine, 2, value), False)
        ticks = [None, "go", ("go", (TOP,)), ("go", (TOP, 5)), ("go", (TOP, True)), ["go", (TOP, TOP)],
                 ("other", (TOP, TOP)), ("go", [TOP, TOP]), ("go", (TOP, TOP), 0)]
        for k in range(4):
            parts = NOT_LISTS + [[*found[k][:-1], tick] for tick in ticks] + [[tick] * len(found[k] or [1]) for tick in
                                                                             ticks]
            for part in parts:
                self.equal(is_still_apart(machine, 2, found[:k] + (part,) + found[k + 1:]), False)
        self.equal(is_still_apart(machine, 2, found[:3] + ([],)), False)

    def test_numbers(self):
        for machine in (record(), without_inputs(), left_counter(4, 6)):
            for many in NOT_COUNTS + [41, 42, HUGE]:
                self.fails(InvalidCount, {"value": many}, still_apart, machine, many)
                self.fails(InvalidCount, {"value": many}, is_still_apart, machine, many, None)


class Letters(Case):

    def lists(self, rng, machine):
        """Return lists of letters: none, one many times, thirty, and some by chance."""
        letters = machine.letters
        found = [[], (), letters, tuple(letters), letters[:1] * 12, letters[-1:] * 30]
        return found + [[rng.choice(letters) for _ in range(many)] for many in (1, 2, 3, 4, 30)]

    def test_against_a_walk(self):
        rng = random.Random(225)
        met = set()
        for machine in sample():
            walk = Walk(machine)
            for letters in self.lists(rng, machine):
                before = list(letters)
                expected = walk.are_forgotten(letters)
                self.equal(forgets(machine, letters), expected)
                found = remembered(machine, letters)
                self.equal(found is None, expected)
                met.add((len(letters) > 0, expected))
                if found is not None:
                    self.check_told(machine, letters, found)
                self.assertEqual(list(letters), before)
        self.assertEqual(len(met), 4)

    def check_told(self, machine, letters, found):
        one, other, chosen, behind = found
        self.equal([part.__class__ for part in (found, *found)], [tuple, list, list, list, list])
        self.assertTrue(all(ends.__class__ is tuple and len(ends) == machine.inputs for ends in chosen))
        self.assertEqual(len(chosen), len(letters))
        self.assertTrue(are_ends(one) and are_ends(other) and are_ends(behind))
        self.assertTrue(shows(machine, one, other, list(zip(letters, chosen)), behind))
        self.equal(is_remembered(machine, letters, found), True)
        twin = tuple(tuple(part) for part in found)
        self.equal(is_remembered(value=twin, letters=letters, machine=machine), True)

    def test_machines(self):
        self.equal([forgets(record(), letters) for letters in ([], ["put"], ["reset"], ["reset", "put"], ["put"] * 30)],
                   [False, False, True, True, False])
        self.equal([forgets(reset_by(3), ["clear"] * many) for many in range(8)], [False] * 3 + [True] * 5)
        self.equal([forgets(two_letters(), letters) for letters in (["a"], ["b"], ["a", "b"], ["b", "a", "a"])],
                   [False, False, True, True])
        self.equal([forgets(letters=("take",) * many, machine=line(2)) for many in (1, 2)], [False, True])

    def test_forgotten_letters_are_followed_by_equal_outputs(self):
        rng = random.Random(226)
        for machine, letters in ((record(), ["reset"]), (reset_by(3), ["clear"] * 3), (two_letters(), ["b", "a"])):
            for _ in range(40):
                one, other = [some_history(rng, machine, rng.randint(0, 6)) for _ in range(2)]
                ticks = [(letter, (some_value(rng),)) for letter in letters]
                behind = some_history(rng, machine, 6)
                told = [plain_run(machine, [*history, *ticks, *behind])[0][-6:] for history in (one, other)]
                self.equal(told[0], told[1])

    def test_one_part_otherwise(self):
        rng = random.Random(227)
        met = set()
        for machine in sample():
            letters = [rng.choice(machine.letters) for _ in range(2)]
            found = remembered(machine, letters)
            for k in range(4 if found else 0):
                for _ in range(4):
                    other = list(found)
                    other[k] = some_history(rng, machine, 2 if k == 2 else rng.randint(0, 3), some_end)
                    if k == 2:
                        other[k] = [ends for _, ends in other[k]]
                    expected = shows(machine, other[0], other[1], list(zip(letters, other[2])), other[3])
                    met.add((k, expected))
                    self.equal(is_remembered(machine, letters, tuple(other)), expected)
        self.assertEqual(met, {(k, expected) for k in range(4) for expected in (True, False)})

    def test_values_of_other_kinds(self):
        machine, letters = two_inputs(), ["tell", "go"]
        found = remembered(machine, letters)
        self.equal(is_remembered(machine, letters, found), True)
        for value in NOT_LISTS + [list(found), found[:3], found + ([],), (), (None,) * 4]:
            self.equal(is_remembered(machine, letters, value), False)
        whole = still_apart(machine, 2)
        self.equal(is_remembered(machine, letters, whole), False)
        rows = [[], [found[2][0]], found[2] + [(TOP, TOP)], [found[2][0], None], [found[2][0], TOP], [found[2][0], (TOP,)],
                [found[2][0], [TOP, TOP]]] + [[found[2][0], (end, TOP)] for end in NOT_ENDS]
        for chosen in NOT_LISTS + rows:
            self.equal(is_remembered(machine, letters, found[:2] + (chosen,) + found[3:]), False)
        for k in (0, 1, 3):
            for part in NOT_LISTS + [[("go", (TOP, 5))], [("other", (TOP, TOP))], [("go", (TOP,))]]:
                self.equal(is_remembered(machine, letters, found[:k] + (part,) + found[k + 1:]), False)
        self.equal(is_remembered(machine, letters, found[:3] + ([],)), False)
        self.equal(is_remembered(machine, letters + ["go"], found), False)

    def test_letters_that_are_no_list(self):
        for machine in (record(), left_counter(4, 6)):
            for value in NOT_LISTS + [machine]:
                for function, rest in ((forgets, ()), (remembered, ()), (is_remembered, (None,))):
                    self.fails(UnknownLetter, {"value": value}, function, machine, value, *rest)

    def test_a_list_with_an_unknown_letter(self):
        for machine in (record(), left_counter(4, 6)):
            known = machine.letters
            for value in NOT_NAMES + ["other", "has0", 0, True]:
                for letters in ([value], known + [value], (value, *known), known * 3 + [value, "none", 5]):
                    for function, rest in ((forgets, ()), (remembered, ()), (is_remembered, (None,))):
                        self.fails(UnknownLetter, {"value": value}, function, machine, letters, *rest)


class Repeated(Case):

    def test_by_turns(self):
        calls = [lambda: past_ticks(record()), lambda: past_ticks(delay(3)), lambda: still_apart(delay(3), 2),
                 lambda: still_apart(line(2), 5), lambda: remembered(two_letters(), ["a", "a"])]
        first = [call() for call in calls]
        self.equal([call() for call in reversed(calls)], first[::-1])

    def test_told_lists_are_new(self):
        machine = two_letters()
        for told in (lambda: still_apart(machine, 3), lambda: remembered(machine, ["a"] * 3)):
            found = told()
            before = tuple(list(part) for part in found)
            for part in found:
                part.append(part[0] if part else None)
            self.equal(told(), before)

    def test_arguments_stay(self):
        machine = two_letters()
        found = still_apart(machine, 3)
        before = tuple(list(part) for part in found)
        is_still_apart(machine, 3, found)
        self.equal(found, before)


class Limits(Case):

    def test_just_96_end_states(self):
        for machine in (counter(4, 6), counter(5, 3)):
            self.equal([past_ticks(machine), still_apart(machine, 40), forgets(machine, [])], [0, None, True])
        machine = delay(5)
        self.equal([past_ticks(machine), len(still_apart(machine, 4)[2])], [5, 4])

    def test_more(self):
        for machine in (left_counter(4, 6), counter(6, 2)):
            for call in (lambda: past_ticks(machine), lambda: still_apart(machine, 0), lambda: forgets(machine, []),
                         lambda: is_still_apart(machine, 0, None), lambda: remembered(machine, ["go"]),
                         lambda: is_remembered(machine, ["go"], None)):
                self.fails(TooMany, {"kind": "states", "limit": 96}, call)

    def test_values_that_are_no_machines(self):
        for value in NOT_MACHINES:
            self.fails(InvalidMachine, {"value": value}, past_ticks, value)
            for function, rest in ((still_apart, (-1,)), (is_still_apart, (-1, None)), (forgets, (None,)),
                                   (remembered, (None,)), (is_remembered, (None, None))):
                self.fails(InvalidMachine, {"value": value}, function, value, *rest)


if __name__ == "__main__":
    unittest.main()
