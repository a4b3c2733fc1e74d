"""[11] and heldranks/values.py of the interface."""

import unittest

from heldranks.errors import InvalidInteger, InvalidValue, InvalidValues
from heldranks.values import (
    BOTTOM, NO_BOUND, TOP, at_level, greater_of, is_at_least, is_value, lesser_of, levels_of)
from tests.helpers import HUGE, NOT_INTEGERS, NOT_LISTS, NOT_VALUES, Case, at, height

ORDERED = [BOTTOM, -HUGE, -HUGE + 1, -2, -1, 0, 1, 2, 10 ** 59, HUGE - 1, HUGE, TOP]


class Constants(Case):

    def test_names(self):
        self.equal((BOTTOM, TOP, NO_BOUND), ("bottom", "top", "no bound"))


class IsValue(Case):

    def test_values(self):
        for value in ORDERED:
            self.assertIs(is_value(value), True)

    def test_others(self):
        for value in NOT_VALUES + [NO_BOUND]:
            with self.subTest(value=value):
                self.assertIs(is_value(value), False)

    def test_by_name(self):
        self.assertIs(is_value(value=3), True)


class Order(Case):

    def test_each_pair(self):
        for place, one in enumerate(ORDERED):
            for other_place, other in enumerate(ORDERED):
                with self.subTest(one=one, other=other):
                    self.assertIs(is_at_least(one, other), place >= other_place)
                    self.equal(lesser_of(one, other), ORDERED[min(place, other_place)])
                    self.equal(greater_of(one, other), ORDERED[max(place, other_place)])

    def test_by_name(self):
        self.assertIs(is_at_least(other=TOP, one=3), False)
        self.assertIs(is_at_least(one=TOP, other=3), True)

    def test_many_and_equal_ones(self):
        self.equal(lesser_of(5, 2, TOP, 2, 9), 2)
        self.equal(greater_of(5, 2, BOTTOM, 9, 9), 9)
        self.equal([lesser_of(7), greater_of(7), lesser_of(BOTTOM), greater_of(TOP)], [7, 7, BOTTOM, TOP])
        self.equal([lesser_of(5, BOTTOM, -HUGE), greater_of(HUGE, TOP, 3)], [BOTTOM, TOP])

    def test_none_at_all(self):
        self.equal([lesser_of(), greater_of()], [TOP, BOTTOM])

    def test_wrong_values(self):
        for value in NOT_VALUES + [NO_BOUND]:
            with self.subTest(value=value):
                self.fails(InvalidValue, {"value": value}, is_at_least, value, 3)
                self.fails(InvalidValue, {"value": value}, is_at_least, 3, value)
                for function in (lesser_of, greater_of):
                    self.fails(InvalidValue, {"value": value}, function, value)
                    self.fails(InvalidValue, {"value": value}, function, 3, TOP, value)

    def test_the_first_wrong_one(self):
        first, second = [1], [2]
        self.fails(InvalidValue, {"value": first}, is_at_least, first, second)
        for function in (lesser_of, greater_of):
            self.fails(InvalidValue, {"value": first}, function, 1, first, second)
            self.fails(InvalidValue, {"value": True}, function, 1, True, None)


class Levels(Case):

    def test_at_above_and_below(self):
        for value in (-HUGE, -1, 0, 1, 7, HUGE):
            self.equal([at_level(value, level) for level in (value - 1, value, value + 1)], [TOP, TOP, BOTTOM])

    def test_ends_stay(self):
        for level in (-HUGE, 0, HUGE + 1):
            self.equal([at_level(BOTTOM, level), at_level(TOP, level)], [BOTTOM, TOP])

    def test_by_name(self):
        self.equal(at_level(level=4, value=3), BOTTOM)

    def test_values_and_levels_that_are_wrong(self):
        for value in NOT_VALUES + [NO_BOUND]:
            self.fails(InvalidValue, {"value": value}, at_level, value, 1)
            self.fails(InvalidValue, {"value": value}, at_level, value, None)
        for level in NOT_INTEGERS:
            for value in (3, BOTTOM, TOP):
                self.fails(InvalidInteger, {"value": level}, at_level, value, level)

    def test_equal_exactly_if_equal_at_all_levels(self):
        levels = [value + d for value in ORDERED[1:-1] for d in (-1, 0, 1)]
        for one in ORDERED:
            for other in ORDERED:
                alike = all(at_level(one, level) == at_level(other, level) for level in levels)
                self.assertEqual(alike, one == other)
                self.assertEqual(is_at_least(one, other), height(one) >= height(other))

    def test_against_the_model(self):
        for value in ORDERED:
            for level in (-HUGE, -1, 0, 1, 2, HUGE):
                self.assertEqual(at_level(value, level), at(value, level))


class LevelsOf(Case):

    def test_descending_and_once(self):
        self.equal(levels_of([3, TOP, 5, 3, BOTTOM, -2, 5, HUGE]), [HUGE, 5, 3, -2])
        self.equal(levels_of((1, 2)), [2, 1])
        self.equal([levels_of([]), levels_of(()), levels_of([TOP, BOTTOM])], [[], [], []])

    def test_zero_and_one_stay_numbers(self):
        self.equal(levels_of([0, 1]), [1, 0])

    def test_what_is_passed_and_returned_stays_apart(self):
        values = [1, 2]
        found = levels_of(values)
        found.append(9)
        self.equal(values, [1, 2])
        self.equal(levels_of(values), [2, 1])

    def test_by_name(self):
        self.equal(levels_of(values=[4]), [4])

    def test_wrong_ones(self):
        for values in NOT_LISTS + [3, TOP]:
            self.fails(InvalidValues, {"value": values}, levels_of, values)
        for value in NOT_VALUES + [NO_BOUND]:
            values = [1, value, 2]
            self.fails(InvalidValues, {"value": values}, levels_of, values)


if __name__ == "__main__":
    unittest.main()
