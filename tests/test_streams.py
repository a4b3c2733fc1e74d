"""[92] and heldranks/streams.py of the interface."""

import itertools
import math
import random
import unittest

from heldranks.errors import InvalidCount, InvalidMachine, OtherShape
from heldranks.machines import Machine, Row
from heldranks.makers import best, line, recent, record
from heldranks.streams import left_ends, left_streams
from heldranks.terms import End, Place
from tests.helpers import BOTTOM, HUGE, NOT_INTEGERS, TOP, Case, counter, plain_run, some_machine, two_inputs
from tests.search import NOT_MACHINES

MOST = 10 ** 30


def same():
    """Return a machine that tells each value at once."""
    return Machine({("on", "go"): Row("on", [], [Place("x0")])}, inputs=1, outputs=1, first="on")


def always(end):
    return Machine({("on", "go"): Row("on", [], [End(end)])}, inputs=1, outputs=1, first="on")


def sample():
    rng = random.Random(821)
    made = [best(1), recent(1, 1), recent(2, 1), recent(2, 2), recent(3, 1), recent(3, 2), recent(3, 3), same(),
            always(BOTTOM), always(TOP)]
    return made + [some_machine(rng, 1, k % 5, 1, 1 + k % 4, 1) for k in range(60)]


def is_left(machine, stream, top):
    """Tell whether the outputs for a stream are its values, BOTTOM being 0 and TOP a number or itself."""
    letter = machine.letters[0]
    told = [outputs[0] for outputs in plain_run(machine, [(letter, (value,)) for value in stream])[0]]
    if top is None:
        return told == list(stream)
    return [{BOTTOM: 0, TOP: top}.get(value, value) for value in told] == list(stream)


def ends_by_search(machine, many):
    return [ends for ends in itertools.product([BOTTOM, TOP], repeat=many) if is_left(machine, ends, None)]


def lists_of_ends(left):
    """Return how many lists of one, two, .. different streams of ENDS there are, each under the one before."""

    def under(one, other):
        return one != other and all(low == BOTTOM or high == TOP for low, high in zip(one, other))

    found, chains = [], [[ends] for ends in left]
    while chains:
        found.append(len(chains))
        chains = [chain + [ends] for chain in chains for ends in left if under(ends, chain[-1])]
    return found


class Ends(Case):

    def test_against_all_tuples(self):
        met = set()
        for machine in sample():
            for many in range(1, 7):
                expected = ends_by_search(machine, many)
                self.equal(left_ends(machine, many), expected)
                self.equal(left_ends(many=many, machine=machine), sorted(expected))
                met.add(min(len(expected), 9))
        # Something is always left, since greater values never make an output less.
        self.assertEqual(met, set(range(1, 10)))

    def test_machines(self):
        self.equal(left_ends(same(), 2), [(BOTTOM, BOTTOM), (BOTTOM, TOP), (TOP, BOTTOM), (TOP, TOP)])
        self.equal(left_ends(best(1), 3), [(BOTTOM,) * 3, (BOTTOM, BOTTOM, TOP), (BOTTOM, TOP, TOP), (TOP,) * 3])
        self.equal([left_ends(always(end), 2) for end in (BOTTOM, TOP)], [[(BOTTOM, BOTTOM)], [(TOP, TOP)]])
        self.equal([len(left_ends(same(), many)) for many in range(1, 7)], [2, 4, 8, 16, 32, 64])

    def test_new_each_time(self):
        found = left_ends(best(1), 2)
        before = list(found)
        self.equal(len(left_ends(same(), 2)), 4)
        found.clear()
        self.equal(left_ends(best(1), 2), before)


class Streams(Case):

    def test_counted_one_by_one(self):
        met = set()
        for machine in sample():
            for many, most in ((1, 1), (1, 5), (2, 1), (2, 4), (3, 3), (4, 2), (6, 1)):
                streams = itertools.product(range(most + 1), repeat=many)
                expected = len([stream for stream in streams if is_left(machine, stream, most)])
                self.equal(left_streams(machine, many, most), expected)
                met.add(min(expected, 9))
        self.assertLessEqual({1, 2, 3, 9}, met)

    def test_great_numbers(self):
        for machine in sample():
            for many in (1, 2, 3, 5, 6):
                left = ends_by_search(machine, many)
                lists = lists_of_ends(left) if len(left) < 20 else None
                for most in (MOST, MOST - 1, 10 ** 12, 7) if lists else ():
                    expected = sum(number * math.comb(most - 1, k) for k, number in enumerate(lists))
                    self.equal(left_streams(machine, many, most), expected)

    def test_machines(self):
        for many in range(1, 7):
            self.equal([left_streams(same(), many, most) for most in (1, 9, MOST)],
                       [(most + 1) ** many for most in (1, 9, MOST)])
            # These are those that never fall.
            self.equal(left_streams(best(1), many, MOST), math.comb(MOST + many, many))
            self.equal([left_streams(most=MOST, many=many, machine=always(end)) for end in (BOTTOM, TOP)], [1, 1])

    def test_more_than_96_end_states(self):
        self.equal([left_streams(counter(6, 12), 6, 2), len(left_ends(counter(6, 12), 6))], [729, 64])


class WrongInputs(Case):

    def test_machines(self):
        for value in NOT_MACHINES:
            self.fails(InvalidMachine, {"value": value}, left_ends, value, 0)
            self.fails(InvalidMachine, {"value": value}, left_streams, value, 0, 0)

    def test_numbers(self):
        for machine in (same(), record(), two_inputs()):
            for many in NOT_INTEGERS + [0, -1, 7, HUGE]:
                self.fails(InvalidCount, {"value": many}, left_ends, machine, many)
                self.fails(InvalidCount, {"value": many}, left_streams, machine, many, 0)
            for most in NOT_INTEGERS + [0, -1, MOST + 1, HUGE]:
                self.fails(InvalidCount, {"value": most}, left_streams, machine, 6, most)

    def test_other_shapes(self):
        none = Machine({("on", "go"): Row("on", [], [End(TOP)])}, inputs=0, outputs=1, first="on")
        for machine in (record(), line(1), best(2), two_inputs(), none):
            self.fails(OtherShape, {}, left_ends, machine, 1)
            self.fails(OtherShape, {}, left_streams, machine, 6, MOST)


if __name__ == "__main__":
    unittest.main()
