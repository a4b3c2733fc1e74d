"""[24] and heldranks/makers.py of the interface."""

import itertools
import random
import unittest

from heldranks.ends import end_states
from heldranks.errors import InvalidCount
from heldranks.machines import Machine
from heldranks.makers import best, line, pile, ranked, recent, record
from heldranks.runs import outputs_of
from tests.helpers import BOTTOM, HUGE, NOT_COUNTS, TOP, Case, height, some_end, some_history, some_value


def stored(history, many, choose):
    """Return the outputs of a store that is a plain list, from which choose tells what goes out."""
    held, outputs = [], []
    for letter, (value,) in history:
        told = BOTTOM
        if letter == "put" and len(held) < many:
            held.append(value)
        if letter == "take" and held:
            told = held.pop(choose(held))
        outputs.append((told,))
    return outputs


def first_in(held):
    return 0


def last_in(held):
    return len(held) - 1


def greatest_in(held):
    return max(range(len(held)), key=lambda k: height(held[k]))


STORES = [(line, first_in), (pile, last_in), (ranked, greatest_in)]


def some_histories(seed, machine):
    """Return histories of a machine, with values by chance and with ENDS alone."""
    rng = random.Random(seed)
    return [some_history(rng, machine, 25, value) for _ in range(25) for value in (some_value, some_end)]


class Stores(Case):

    def test_against_plain_lists(self):
        for make, choose in STORES:
            for many in (1, 2, 3):
                machine = make(many)
                for history in some_histories(many, machine):
                    self.equal(outputs_of(machine, history), stored(history, many, choose))

    def test_all_short_end_histories(self):
        for make, choose in STORES:
            for many in (1, 2, 3):
                machine = make(many)
                ticks = [(letter, (end,)) for letter in ("put", "take") for end in (BOTTOM, TOP)]
                for history in itertools.product(ticks, repeat=5):
                    self.equal(outputs_of(machine, history), stored(history, many, choose))

    def test_filled_to_the_brim_and_emptied(self):
        puts = [("put", (value,)) for value in (5, TOP, BOTTOM, 9)]
        takes = [("take", (HUGE,))] * 4
        for make, many, expected in (
                (line, 1, [5, BOTTOM]), (line, 2, [5, TOP, BOTTOM]), (line, 3, [5, TOP, BOTTOM, BOTTOM]),
                (pile, 1, [5, BOTTOM]), (pile, 2, [TOP, 5, BOTTOM]), (pile, 3, [BOTTOM, TOP, 5, BOTTOM]),
                (ranked, 1, [5, BOTTOM]), (ranked, 2, [TOP, 5, BOTTOM]), (ranked, 3, [TOP, 5, BOTTOM, BOTTOM])):
            found = outputs_of(make(many), puts + takes)
            self.equal(found[:4], [(BOTTOM,)] * 4)
            self.equal(found[4:4 + len(expected)], [(value,) for value in expected])

    def test_bottom_counts_as_a_value_that_is_in(self):
        history = [("put", (BOTTOM,)), ("put", (7,)), ("take", (1,)), ("put", (3,)), ("take", (1,)), ("take", (1,))]
        for make in (line, pile, ranked):
            self.equal(outputs_of(make(1), history), [(BOTTOM,)] * 4 + [(3,), (BOTTOM,)])

    def test_rest_changes_nothing(self):
        history = [("put", (4,)), ("rest", (TOP,)), ("put", (6,)), ("rest", (9,)), ("take", (9,)), ("rest", (9,)),
                   ("take", (9,))]
        for make, one, other in ((line, 4, 6), (pile, 6, 4), (ranked, 6, 4)):
            self.equal(outputs_of(make(2), history), [(BOTTOM,)] * 4 + [(one,), (BOTTOM,), (other,)])

    def test_wrong_numbers(self):
        for make, _ in STORES:
            for many in NOT_COUNTS + [0, 4, HUGE]:
                self.fails(InvalidCount, {"value": many}, make, many)


class Best(Case):

    def test_against_plain_lists(self):
        for many in (1, 2):
            machine = best(many)
            for history in some_histories(many, machine):
                put, expected = [], []
                for _, (value,) in history:
                    put = sorted(put + [value], key=height, reverse=True)
                    expected.append(tuple((put + [BOTTOM])[:many]))
                self.equal(outputs_of(machine, history), expected)

    def test_equal_values(self):
        history = [("put", (5,)), ("put", (5,)), ("put", (4,)), ("put", (6,))]
        self.equal(outputs_of(best(2), history), [(5, BOTTOM), (5, 5), (5, 5), (6, 5)])
        self.equal(outputs_of(best(1), history), [(5,), (5,), (5,), (6,)])

    def test_wrong_numbers(self):
        for many in NOT_COUNTS + [0, 3, HUGE]:
            self.fails(InvalidCount, {"value": many}, best, many)


class Recent(Case):

    def test_against_plain_lists(self):
        for many in (1, 2, 3):
            for kth in range(1, many + 1):
                machine = recent(many, kth)
                for history in some_histories(10 * many + kth, machine):
                    values = [BOTTOM] * many + [value for _, (value,) in history]
                    expected = [(sorted(values[k + 1:k + 1 + many], key=height, reverse=True)[kth - 1],)
                                for k in range(len(history))]
                    self.equal(outputs_of(machine, history), expected)

    def test_wrong_numbers(self):
        for many in NOT_COUNTS + [0, 4, HUGE]:
            self.fails(InvalidCount, {"value": many}, recent, many, None)
        for kth in NOT_COUNTS + [0, HUGE]:
            for many in (1, 2, 3):
                self.fails(InvalidCount, {"value": kth}, recent, many, kth)
        for many in (1, 2, 3):
            self.fails(InvalidCount, {"value": many + 1}, recent, many, many + 1)

    def test_by_name(self):
        self.equal(outputs_of(recent(kth=2, many=3), [("put", (4,)), ("put", (9,))]), [(BOTTOM,), (4,)])


class Record(Case):

    def test_against_plain_lists(self):
        machine = record()
        for history in some_histories(5, machine):
            put, expected = [], []
            for letter, (value,) in history:
                put = put + [value] if letter == "put" else []
                expected.append((max(put, key=height, default=BOTTOM),))
            self.equal(outputs_of(machine, history), expected)

    def test_reset(self):
        history = [("put", (5,)), ("put", (3,)), ("reset", (9,)), ("put", (1,)), ("reset", (TOP,)), ("reset", (TOP,))]
        self.equal(outputs_of(record(), history), [(5,), (5,), (BOTTOM,), (1,), (BOTTOM,), (BOTTOM,)])


def makings():
    """Return the arguments of all machines that can be made, with their letters and numbers of outputs."""
    stores = [(make, (many,), ["put", "rest", "take"], 1) for make, _ in STORES for many in (1, 2, 3)]
    bests = [(best, (many,), ["put"], many) for many in (1, 2)]
    recents = [(recent, (many, kth), ["put"], 1) for many in (1, 2, 3) for kth in range(1, many + 1)]
    return stores + bests + recents + [(record, (), ["put", "reset"], 1)]


class AllOfThem(Case):

    def test_letters_inputs_and_outputs(self):
        for make, numbers, letters, outputs in makings():
            machine = make(*numbers)
            self.assertIsInstance(machine, Machine)
            self.equal([machine.letters, machine.inputs, machine.outputs], [letters, 1, outputs])

    def test_end_states(self):
        for make, numbers, _, _ in makings():
            self.assertLessEqual(len(end_states(make(*numbers))), 96)

    def test_the_same_again(self):
        for make, numbers, _, _ in makings():
            one, other = make(*numbers), make(*numbers)
            self.assertEqual(one.rows(), other.rows())
            self.equal([one.first, one.begin], [other.first, other.begin])

    def test_by_name(self):
        for make in (line, pile, ranked, best):
            self.assertEqual(make(many=2).rows(), make(2).rows())


if __name__ == "__main__":
    unittest.main()
