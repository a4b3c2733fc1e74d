"""[70] to [74] and heldranks/ages.py of the interface."""

import random
import unittest

from heldranks.ages import (
    age_history, age_of, age_paper, endless_age, greatest_age, is_age_history, is_age_paper, is_endless_age, memory)
from heldranks.errors import InvalidCount, InvalidMachine, TooMany, UnknownLetter
from heldranks.idle import idle_inputs
from heldranks.machines import Machine, Row
from heldranks.makers import best, line, pile, ranked, recent, record
from heldranks.terms import End, Place
from tests.helpers import (
    BOTTOM, HUGE, NOT_COUNTS, NOT_ENDS, NOT_LISTS, NOT_NAMES, TOP, Case, counter, left_counter, plain_run, some_end,
    some_history, some_machines, some_value, two_inputs, without_inputs)
from tests.search import NOT_MACHINES, all_end_states, first_of, followed, moves_of, reached_steps, steps_from

NO_BOUND = "no bound"


def inputs_of(machine):
    return [(letter, number) for letter in machine.letters for number in range(machine.inputs)]


def delay(many):
    """Return a machine that tells each value so many ticks later."""
    looked = [Place("x0")] + [Place(f"r{k}") for k in range(many)]
    return Machine({("on", "put"): Row("on", looked[:-1], [looked[-1]])}, inputs=1, outputs=1, first="on",
                   begin=[BOTTOM] * many)


def held():
    """Return a machine that keeps a value for ever, but tells it at the letter tell in the mode open alone."""
    rows = {("open", "keep"): Row("open", [Place("r0") | Place("x0")], [End(BOTTOM)]),
            ("open", "tell"): Row("shut", [Place("r0")], [Place("r0")]),
            ("shut", "keep"): Row("shut", [Place("r0")], [End(TOP)]),
            ("shut", "tell"): Row("shut", [Place("r0")], [Place("x1") & Place("x0")])}
    return Machine(rows, inputs=2, outputs=1, first="open", begin=[BOTTOM])


def rounds(many):
    """Return a machine that passes a value round in some registers, with a tick of its own at which it is told."""
    places = [Place(f"r{k}") for k in range(many)]
    rows = {("on", "put"): Row("on", [Place("x0")] + places[:-1], [End(BOTTOM)]),
            ("on", "turn"): Row("on", places[-1:] + places[:-1], [End(BOTTOM)]),
            ("on", "tell"): Row("off", places, [places[-1]]),
            ("off", "put"): Row("off", places, [End(BOTTOM)]), ("off", "turn"): Row("off", places, [End(BOTTOM)]),
            ("off", "tell"): Row("off", places, [End(BOTTOM)])}
    return Machine(rows, inputs=1, outputs=1, first="on", begin=[BOTTOM] * many)


def sample():
    made = [record(), line(2), pile(2), ranked(2), best(2), recent(1, 1), recent(3, 2), recent(3, 1), two_inputs(),
            without_inputs(), held(), rounds(2), rounds(3)] + [delay(many) for many in range(5)]
    return some_machines(121, 50) + made


class Walk:
    """The flips of an input of a letter, and the pairs of end states behind them, found by steps of the test's own."""

    def __init__(self, machine, letter, number):
        self.steps = reached_steps(machine)
        self.at_once, self.starts = False, []
        for state in self.steps:
            for move in moves_of(machine):
                if move[0] == letter and move[1][number] == TOP:
                    low = (letter, move[1][:number] + (BOTTOM,) + move[1][number + 1:])
                    (outputs, ahead), (others, across) = self.steps[state][move], self.steps[state][low]
                    self.at_once = self.at_once or outputs != others
                    self.starts.append((ahead, across))
        self.edges, waiting = {}, list(self.starts)
        while waiting:
            pair = waiting.pop()
            if pair not in self.edges and pair[0] != pair[1]:
                both = [(self.steps[pair[0]][move], self.steps[pair[1]][move]) for move in moves_of(machine)]
                self.edges[pair] = [(a[0] != b[0], (a[1], b[1])) for a, b in both]
                waiting.extend(behind for _, behind in self.edges[pair])

    def ages(self, most):
        """Return the set of the ages up to the most with which an INTEGER can come out."""
        found = {0} if self.at_once else set()
        here = {pair for pair in self.edges if any(unlike for unlike, _ in self.edges[pair])}
        for ticks in range(1, most + 1):
            if any(pair in here for pair in self.starts):
                found.add(ticks)
            here = {pair for pair in self.edges if any(behind in here for _, behind in self.edges[pair])}
        return found

    def age(self):
        """Return the age: nothing without a round can take more ticks than there are pairs."""
        ages = self.ages(2 * len(self.edges) + 1)
        if any(age > len(self.edges) for age in ages):
            return NO_BOUND
        return max(ages, default=None)


class Ages(Case):

    def test_against_a_walk(self):
        met = set()
        for machine in sample():
            expected = {pair: Walk(machine, *pair).age() for pair in inputs_of(machine)}
            for letter, number in expected:
                self.equal(age_of(machine, letter, number), expected[letter, number])
            ages = list(expected.values())
            whole = NO_BOUND if NO_BOUND in ages else max([age for age in ages if age is not None], default=None)
            self.equal([greatest_age(machine), memory(machine)], [whole, 0 if whole is None else whole])
            met.update(ages)
        self.assertLessEqual({None, 0, 1, 2, 3, 4, NO_BOUND}, met)

    def test_delay_lines(self):
        for many in range(6):
            machine = delay(many)
            self.equal([age_of(machine, "put", 0), greatest_age(machine), memory(machine)], [many] * 3)
            self.equal([age for age in range(41) if age_history(machine, "put", 0, age)], [many])

    def test_made_machines(self):
        self.equal([greatest_age(recent(many, 1)) for many in (1, 2, 3)], [0, 1, 2])
        self.equal([memory(recent(many, many)) for many in (1, 2, 3)], [0, 1, 2])
        for machine in (line(1), line(2), pile(3), ranked(2), best(1), best(2), record()):
            self.equal([greatest_age(machine), memory(machine=machine)], [NO_BOUND, NO_BOUND])
        self.equal([age_of(line(2), letter, 0) for letter in ("put", "rest", "take")], [NO_BOUND, None, None])
        self.equal(age_of(number=0, letter="reset", machine=record()), None)
        self.equal([greatest_age(without_inputs()), memory(without_inputs())], [None, 0])

    def test_inputs_that_never_come_out(self):
        shut = Machine({("on", "put"): Row("on", [Place("x0")], [End(TOP)])}, inputs=1, outputs=1, first="on",
                       begin=[BOTTOM])
        self.equal([age_of(shut, "put", 0), greatest_age(machine=shut), memory(shut)], [None, None, 0])
        machine = held()
        self.equal([age_of(machine, letter, number) for letter, number in inputs_of(machine)], [NO_BOUND, None, 0, 0])

    def test_an_age_beyond_one_that_there_is_not(self):
        # What is turned round comes out three ticks later at the least, or so many turns of three later.
        walk = Walk(rounds(3), "put", 0)
        self.assertTrue(walk.ages(20) - {0, 1, 2} and not walk.ages(20) & {0, 1, 2})
        self.equal([age_history(rounds(3), "put", 0, age) for age in (0, 1, 2)], [None] * 3)

    def test_idle_inputs_are_those_without_an_age(self):
        for machine in sample():
            self.equal(idle_inputs(machine), [pair for pair in inputs_of(machine) if age_of(machine, *pair) is None])

    def test_values_come_out_no_later(self):
        rng = random.Random(122)
        for machine in sample():
            for letter, number in inputs_of(machine):
                age = age_of(machine, letter, number)
                for _ in range(8):
                    history = some_history(rng, machine, 14)
                    at = [k for k, tick in enumerate(history) if tick[0] == letter]
                    if not at or age == NO_BOUND:
                        continue
                    k = rng.choice(at)
                    values = list(history[k][1])
                    values[number] = 77
                    history[k] = (letter, tuple(values))
                    outputs = plain_run(machine, history)[0]
                    ages = [tick - k for tick, told in enumerate(outputs) if 77 in told]
                    self.assertTrue(all(age is not None and found <= age for found in ages))


class Memories(Case):

    def test_histories_that_agree_in_the_last_ticks(self):
        rng = random.Random(123)
        for machine in sample():
            many = memory(machine)
            if many == NO_BOUND:
                continue
            for _ in range(10):
                one = some_history(rng, machine, rng.randint(0, many + 3))
                other = [(letter, tuple(some_value(rng) for _ in values)) for letter, values in one]
                cut = max(len(one) - many, 0)
                other = other[:cut] + one[cut:]
                ahead = some_history(rng, machine, 6)
                self.equal(plain_run(machine, one + ahead)[0][len(one):], plain_run(machine, other + ahead)[0][len(one):])

    def test_no_fewer_ticks(self):
        for machine in sample():
            many = memory(machine)
            for age in range(1, many + 1) if many != NO_BOUND else (5, 9):
                found = [(pair, age_history(machine, *pair, age)) for pair in inputs_of(machine)]
                found = [(pair, value) for pair, value in found if value is not None]
                if age == many:
                    self.assertTrue(found)
                for (letter, number), (history, tick, _) in found:
                    # The last ticks but this one are the same, and so are all letters.
                    values = history[tick][1]
                    unlike = False
                    for end in (BOTTOM, TOP):
                        put_in = (letter, values[:number] + (end,) + values[number + 1:])
                        other = history[:tick] + [put_in] + history[tick + 1:]
                        unlike = unlike or plain_run(machine, other)[0][-1] != plain_run(machine, history)[0][-1]
                    self.assertTrue(unlike)


class Histories(Case):

    def test_for_each_age(self):
        for machine in sample():
            for letter, number in inputs_of(machine):
                there = Walk(machine, letter, number).ages(40)
                for age in list(range(8)) + [39, 40]:
                    found = age_history(machine, letter, number, age)
                    self.equal(found is not None, age in there)
                    if found is not None:
                        self.look(machine, letter, number, age, found)

    def look(self, machine, letter, number, age, found):
        """Ask that an INTEGER stands at one place alone, and comes out at the told tick and output."""
        history, tick, output = found
        self.equal([part.__class__ for part in (found, history, tick, output)], [tuple, list, int, int])
        integers = [(k, j, value) for k, (_, values) in enumerate(history) for j, value in enumerate(values)
                    if value not in (BOTTOM, TOP)]
        self.equal([(k, j) for k, j, value in integers if value == integers[0][2]], [(tick, number)])
        self.equal([history[tick][0], len(history)], [letter, tick + age + 1])
        self.equal(plain_run(machine, history)[0][-1][output], history[tick][1][number])
        self.equal(is_age_history(machine, letter, number, age, found), True)
        self.equal(is_age_history(value=(tuple(history), tick, output), age=age, number=number, letter=letter,
                                  machine=machine), True)
        self.equal([is_age_history(machine, letter, number, other, found) for other in (age + 1, abs(age - 1))
                    if other <= 40 and other != age], [False] * len([k for k in (age + 1, abs(age - 1)) if k <= 40]))

    def test_spoilt(self):
        machine = best(2)
        history = [("put", (TOP,)), ("put", (5,)), ("put", (3,))]
        self.equal(is_age_history(machine, "put", 0, 1, (history, 1, 1)), True)
        for value in ((history, 1, 0), (history, 0, 1), (history, 2, 1), (history, 1, 2), (history, 1, -1),
                      (history, -2, 1), (history, 1, True), (history, True, 1), (history, 1), (history, 1, 1, 1),
                      [history, 1, 1], (history, 1, None), (history, None, 1), (None, 1, 1), ([], 1, 1), ([], -2, 1),
                      (history[:2], 1, 1), (history[:2], 0, 1), (history + history, 1, 1), (history + [None], 1, 1),
                      (history[:2] + [("put", (5,))], 1, 1), ([("put", (5,))] + history[1:], 1, 1),
                      (history[:2] + [("put", [3])], 1, 1), (history[:2] + [("get", (3,))], 1, 1),
                      (history[:2] + [("put", (True,))], 1, 1), (dict.fromkeys(history), 1, 1), None, True, 0, "abc", (),
                      [("put", (TOP,)), ("put", (TOP,)), ("put", (3,))]):
            self.equal(is_age_history(machine, "put", 0, 1, value), False)
        ends = [("put", (TOP,)), ("put", (TOP,)), ("put", (3,))]
        self.equal(is_age_history(machine, "put", 0, 1, (ends, 1, 1)), False)
        single = [("put", (9,)), ("put", (TOP,)), ("put", (3,))]
        self.equal([is_age_history(machine, "put", 0, 1, (single, 1, output)) for output in (0, 1)], [False, False])
        # Other INTEGERS may stand beside it, if they are other ones, but not where it has to come out.
        more = [("put", (9,)), ("put", (5,)), ("put", (3,))]
        self.equal(is_age_history(machine, "put", 0, 1, (more, 1, 1)), True)
        self.equal(is_age_history(machine, "put", 0, 1, ([("put", (6,))] + more, 2, 1)), False)
        self.equal(is_age_history(machine, "put", 0, 1, (more, 1, 0)), False)
        self.equal(is_age_history(machine, "put", 0, 40, ([("put", (HUGE,))] + [("put", (BOTTOM,))] * 40, 0, 0)), True)

    def test_other_letters_and_inputs(self):
        machine = two_inputs()
        history = [("go", (4, 9)), ("tell", (TOP, TOP))]
        self.equal([is_age_history(machine, "go", number, 1, (history, 0, 0)) for number in (0, 1)], [False, True])
        self.equal(is_age_history(machine, "tell", 1, 1, (history, 0, 0)), False)
        self.equal(is_age_history(machine, "go", 1, 0, (history[:1], 0, 1)), True)
        self.equal(is_age_history(machine, "go", 0, 0, (history[:1], 0, 0)), True)
        self.equal(is_age_history(machine, "go", 1, 1, ([("go", (9, 9)), history[1]], 0, 0)), False)

    def test_wrong_ages(self):
        for machine in (record(), left_counter(4, 6)):
            letter = machine.letters[0]
            for age in NOT_COUNTS + [41, 42, HUGE]:
                self.fails(InvalidCount, {"value": age}, age_history, machine, letter, 0, age)
                self.fails(InvalidCount, {"value": age}, is_age_history, machine, letter, 0, age, None)
        self.assertIsNotNone(age_history(record(), "put", 0, 40))

    def test_repeated_queries(self):
        found = age_history(best(2), "put", 0, 3)
        found[0].clear()
        self.equal(age_history(best(2), "put", 0, 3), age_history(age=3, number=0, letter="put", machine=best(2)))
        self.equal(len(age_history(best(2), "put", 0, 3)[0]) > 3, True)


def is_paper(machine, letter, number, most, paper):
    """Tell whether a dict from tuples of end states to COUNTs is an age paper, by steps of the test's own."""
    walk = Walk(machine, letter, number)
    if most is None and walk.at_once:
        return False

    def fits(pair, limit):
        return pair[0] == pair[1] or (pair in paper and paper[pair] <= limit)

    if not all(fits(pair, most or 0) for pair in walk.starts):
        return False
    steps = steps_from(machine, *[state for pair in paper for state in pair])
    for (one, other), rank in paper.items():
        for move in moves_of(machine):
            (outputs, ahead), (others, across) = steps[one][move], steps[other][move]
            if (outputs != others and rank < 1) or not fits((ahead, across), rank - 1 if rank else 0):
                return False
    return True


class Papers(Case):

    def told(self):
        """Return tuples (machine, letter, number, age, paper) of papers that were told."""
        found = []
        for machine in sample():
            for letter, number in inputs_of(machine):
                age, paper = age_of(machine, letter, number), age_paper(machine, letter, number)
                self.equal(paper is None, age == NO_BOUND)
                if paper is not None:
                    found.append((machine, letter, number, age, paper))
        return found

    def test_told(self):
        ages = set()
        for machine, letter, number, age, paper in self.told():
            ages.add(age)
            self.assertIsInstance(paper, dict)
            self.equal(list(paper), sorted(paper))
            self.assertTrue(is_paper(machine, letter, number, age, paper))
            self.equal(is_age_paper(machine, letter, number, age, paper), True)
            turned = {pair: paper[pair] for pair in reversed(list(paper))}
            self.equal(is_age_paper(value=turned, most=age, number=number, letter=letter, machine=machine), True)
            for most in (None, 0, 1, 2, 3, 9, HUGE):
                self.equal(is_age_paper(machine, letter, number, most, paper),
                           is_paper(machine, letter, number, most, paper))
                # An age that is greater than the number has no paper for it; others have this one.
                self.equal(is_age_paper(machine, letter, number, most, paper),
                           age is None or (most is not None and age <= most))
        self.assertLessEqual({None, 0, 1, 2, 3}, ages)

    def test_spoilt(self):
        rng = random.Random(124)
        met = set()
        for machine, letter, number, age, paper in self.told():
            for pair in list(paper)[:6]:
                less, left, more, true = dict(paper), dict(paper), dict(paper), dict(paper)
                less[pair] = max(paper[pair] - 1, 0)
                del left[pair]
                more[pair] = paper[pair] + 1
                for other in (less, left, more):
                    expected = is_paper(machine, letter, number, age, other)
                    met.add(expected)
                    self.equal(is_age_paper(machine, letter, number, age, other), expected)
                true[pair] = bool(paper[pair])
                self.equal(is_age_paper(machine, letter, number, age, true), False)
                for value in NOT_COUNTS:
                    self.equal(is_age_paper(machine, letter, number, age, {**paper, pair: value}), False)
            states = all_end_states(machine)
            for _ in range(4):
                other = {**paper, (rng.choice(states), rng.choice(states)): rng.choice([0, 1, 2, 9])}
                expected = is_paper(machine, letter, number, age, other)
                met.add(expected)
                self.equal(is_age_paper(machine, letter, number, age, other), expected)
        self.assertEqual(met, {True, False})

    def test_pairs_that_are_not_reached(self):
        # No end history leads to a value in r1 that was not in r0; the pair needs a number all the same.
        machine = Machine({("on", "put"): Row("on", [Place("x0"), End(BOTTOM)], [Place("r0") | Place("r1")])}, inputs=1,
                          outputs=1, first="on", begin=[BOTTOM, BOTTOM])
        paper = age_paper(machine, "put", 0)
        high, low = ("on", (BOTTOM, TOP)), ("on", (BOTTOM, BOTTOM))
        self.assertNotIn((high, low), paper)
        self.equal([is_age_paper(machine, "put", 0, 1, {**paper, (high, low): rank}) for rank in (0, 1, 2, HUGE)],
                   [False, True, True, True])
        self.equal(is_age_paper(machine, "put", 0, 1, {**paper, (high, high): 0, (low, low): 7}), True)

    def test_values_of_other_kinds(self):
        machine = delay(1)
        paper = age_paper(machine, "put", 0)
        mode = machine.first
        low, high = (mode, (BOTTOM,)), (mode, (TOP,))
        self.equal(paper, {(high, low): 1})
        keys = [None, True, 0, "", mode, low, (low,), (low, low, low), (low, None), (low, mode), (low, (mode, ())),
                (low, ("other", (TOP,))), (low, (mode, (TOP, TOP))), (low, (mode, TOP)), (low, (mode, ("TOP",))),
                (low, (mode, (1,))), (low, (mode, (True,))), (low, (None, (TOP,)))]
        for key in keys:
            for most in (1, 9):
                self.equal(is_age_paper(machine, "put", 0, most, {key: 1, **paper}), False)
        for value in NOT_LISTS + [[], list(paper), list(paper.items()), machine, {}, set(paper), tuple(paper)]:
            self.equal(is_age_paper(machine, "put", 0, 1, value), False)
        self.equal(is_age_paper(machine, "put", 0, 1, paper), True)
        self.equal(is_age_paper(recent(1, 1), "put", 0, 0, {}), True)
        self.equal(is_age_paper(recent(1, 1), "put", 0, None, {}), False)

    def test_new_each_time(self):
        paper = age_paper(recent(3, 1), "put", 0)
        before = dict(paper)
        is_age_paper(recent(3, 1), "put", 0, 2, paper)
        self.equal(paper, before)
        paper.clear()
        self.equal(age_paper(number=0, letter="put", machine=recent(3, 1)), before)

    def test_numbers(self):
        for machine in (record(), left_counter(4, 6)):
            for most in [value for value in NOT_COUNTS if value is not None] + [NO_BOUND]:
                self.fails(InvalidCount, {"value": most}, is_age_paper, machine, machine.letters[0], 0, most, None)


class Endless(Case):

    def is_endless(self, machine, letter, number, value):
        """Tell whether a tuple of four end histories and ENDS is an endless age, by steps of the test's own."""
        past, ends, ahead, turn, behind = value
        steps = reached_steps(machine)
        before = followed(steps, first_of(machine), past)[1]
        states = []
        for end in (TOP, BOTTOM):
            move = (letter, ends[:number] + (end,) + ends[number + 1:])
            states.append(followed(steps, before, [move] + list(ahead))[1])
        back = [followed(steps, state, turn)[1] for state in states]
        told = [followed(steps, state, behind)[0] for state in states]
        return bool(turn and behind) and back == states and told[0][-1] != told[1][-1]

    def told(self):
        """Return tuples (machine, letter, number, endless age) of what was told."""
        found = []
        for machine in sample() + [line(3), ranked(3)]:
            for letter, number in inputs_of(machine):
                value = endless_age(machine, letter, number)
                self.equal(value is None, age_of(machine, letter, number) != NO_BOUND)
                if value is not None:
                    found.append((machine, letter, number, value))
        return found

    def test_told(self):
        many = 0
        for machine, letter, number, value in self.told():
            past, ends, ahead, turn, behind = value
            self.equal([part.__class__ for part in (value, *value)], [tuple, list, tuple, list, list, list])
            self.assertTrue(self.is_endless(machine, letter, number, value))
            self.equal(is_endless_age(machine, letter, number, value), True)
            self.equal(is_endless_age(value=(tuple(past), ends, tuple(ahead), tuple(turn), tuple(behind)), number=number,
                                      letter=letter, machine=machine), True)
            for end in (BOTTOM, TOP):
                other = (past, ends[:number] + (end,) + ends[number + 1:], ahead, turn, behind)
                self.equal(is_endless_age(machine, letter, number, other), True)
            many += 1
        self.assertGreater(many, 15)

    def test_values_come_out_as_late_as_one_likes(self):
        for machine, letter, number, (past, ends, ahead, turn, behind) in self.told():
            put_in = (letter, ends[:number] + (5,) + ends[number + 1:])
            for many in (1, 4):
                history = past + [put_in] + ahead + turn * many + behind
                self.assertIn(5, plain_run(machine, history)[0][-1])

    def test_one_part_otherwise(self):
        rng = random.Random(125)
        met = set()
        for machine, letter, number, value in self.told():
            for k in (0, 2, 3, 4):
                for _ in range(4):
                    other = list(value)
                    other[k] = some_history(rng, machine, rng.randint(0, 3), some_end)
                    expected = self.is_endless(machine, letter, number, other)
                    met.add((k, expected))
                    self.equal(is_endless_age(machine, letter, number, tuple(other)), expected)
            for k in (3, 4):
                other = list(value)
                other[k] = []
                self.equal(is_endless_age(machine, letter, number, tuple(other)), False)
        self.assertEqual(met, {(k, expected) for k in (0, 2, 3, 4) for expected in (True, False)})

    def test_values_of_other_kinds(self):
        machine = held()
        value = endless_age(machine, "keep", 0)
        self.equal(is_endless_age(machine, "keep", 0, value), True)
        self.equal([is_endless_age(machine, "keep", 1, value), is_endless_age(machine, "tell", 0, value)], [False, False])
        for other in NOT_LISTS + [list(value), value[:4], value + ([],), (), (None,) * 5]:
            self.equal(is_endless_age(machine, "keep", 0, other), False)
        ticks = [None, "keep", ("keep", (TOP,)), ("keep", (TOP, 5)), ("keep", (TOP, True)), ["keep", (TOP, TOP)],
                 ("other", (TOP, TOP)), ("keep", [TOP, TOP]), ("keep", (TOP, TOP), 0)]
        for k in (0, 2, 3, 4):
            for part in NOT_LISTS + [[tick] for tick in ticks] + [list(value[k]) + [tick] for tick in ticks]:
                self.equal(is_endless_age(machine, "keep", 0, value[:k] + (part,) + value[k + 1:]), False)
        for ends in [None, TOP, (), (TOP,), [TOP, TOP], (TOP, TOP, TOP)] + [(end, TOP) for end in NOT_ENDS]:
            self.equal(is_endless_age(machine, "keep", 0, (value[0], ends) + value[2:]), False)

    def test_bounded_ages_have_none(self):
        machine = recent(3, 1)
        self.equal([endless_age(machine, "put", 0), endless_age(record(), "reset", 0)], [None, None])
        put = ("put", (BOTTOM,))
        for ahead in range(4):
            self.equal(is_endless_age(machine, "put", 0, ([], (TOP,), [put] * ahead, [put], [put])), False)
        self.equal(is_endless_age(best(1), "put", 0, ([], (TOP,), [], [put], [put])), True)

    def test_repeated_queries(self):
        value = endless_age(line(2), "put", 0)
        for part in (value[0], value[2], value[3], value[4]):
            part.clear()
        self.equal(endless_age(line(2), "put", 0), endless_age(number=0, letter="put", machine=line(2)))
        self.assertTrue(endless_age(line(2), "put", 0)[3])


class Limits(Case):

    def test_just_96_end_states(self):
        for machine in (counter(4, 6), counter(5, 3)):
            self.equal([age_of(machine, "go", 0), greatest_age(machine), memory(machine)], [0, 0, 0])
            found = age_history(machine, "go", 0, 0)
            self.equal(is_age_history(machine, "go", 0, 0, found), True)
            self.equal(is_age_paper(machine, "go", 0, 0, age_paper(machine, "go", 0)), True)
            self.equal([endless_age(machine, "go", 0), is_endless_age(machine, "go", 0, None)], [None, False])

    def test_more(self):
        for machine in (left_counter(4, 6), counter(6, 2)):
            for call in (lambda: age_of(machine, "go", 0), lambda: greatest_age(machine), lambda: memory(machine),
                         lambda: age_history(machine, "go", 0, 0), lambda: is_age_history(machine, "go", 0, 0, None),
                         lambda: age_paper(machine, "go", 0), lambda: is_age_paper(machine, "go", 0, 0, None),
                         lambda: endless_age(machine, "go", 0), lambda: is_endless_age(machine, "go", 0, None)):
                self.fails(TooMany, {"kind": "states", "limit": 96}, call)


class WrongInputs(Case):

    OF_INPUTS = [(age_of, ()), (age_history, (None,)), (is_age_history, (None, None)), (age_paper, ()),
                 (is_age_paper, (True, None)), (endless_age, ()), (is_endless_age, (None,))]

    def test_values_that_are_no_machines(self):
        for value in NOT_MACHINES:
            self.fails(InvalidMachine, {"value": value}, greatest_age, value)
            self.fails(InvalidMachine, {"value": value}, memory, value)
            for function, rest in self.OF_INPUTS:
                self.fails(InvalidMachine, {"value": value}, function, value, None, None, *rest)

    def test_letters_and_numbers(self):
        for machine in (record(), left_counter(4, 6), without_inputs()):
            for function, rest in self.OF_INPUTS:
                for letter in NOT_NAMES + ["other", "has0", "even", 0]:
                    self.fails(UnknownLetter, {"value": letter}, function, machine, letter, None, *rest)
                for number in NOT_COUNTS + [machine.inputs, machine.inputs + 1, HUGE]:
                    self.fails(InvalidCount, {"value": number}, function, machine, machine.letters[0], number, *rest)

    def test_document(self):
        self.equal([greatest_age(recent(3, 1)), memory(recent(3, 2)), greatest_age(line(2))], [2, 2, NO_BOUND])


if __name__ == "__main__":
    unittest.main()
