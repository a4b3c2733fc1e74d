"""[12], [13] and heldranks/terms.py of the interface."""

import itertools
import random
import unittest

from heldranks.errors import InvalidCount, InvalidEnd, InvalidPlace, InvalidTerm, InvalidTerms, InvalidValues
from heldranks.terms import End, Greater, Lesser, Place, Term, kth
from tests.helpers import (
    BOTTOM, HUGE, NOT_COUNTS, NOT_ENDS, NOT_PLACES, NOT_VALUES, PLACES, TOP, Case, height, some_term, some_value,
    value_of)

A, B, C, X, Y = Place("r0"), Place("r1"), Place("r2"), Place("x0"), Place("x1")
LOW, HIGH = End(BOTTOM), End(TOP)
NOT_TERMS = [True, None, 0, "r0", "top", "", [], [A], (A,), {}, {"r0": A}, b"r0", Term, Place]
NESTED = Greater(Lesser(A, X, Greater(B, HIGH)), Y, LOW)


class Making(Case):

    def test_places(self):
        for name in PLACES:
            self.equal(Place(name).name, name)
        self.equal(Place(name="r3").name, "r3")
        for name in NOT_PLACES:
            self.fails(InvalidPlace, {"value": name}, Place, name)

    def test_ends(self):
        self.equal([End(BOTTOM).end, End(end=TOP).end], [BOTTOM, TOP])
        for end in NOT_ENDS:
            self.fails(InvalidEnd, {"value": end}, End, end)

    def test_parts(self):
        for kind in (Lesser, Greater):
            self.equal([part.name for part in kind(A, B, A).parts], ["r0", "r1", "r0"])
            self.assertIsInstance(kind(A, B).parts, tuple)
            self.assertEqual(kind(A, kind(B, C)).parts, (A, kind(B, C)))

    def test_too_few_parts_ahead_of_wrong_ones(self):
        for kind in (Lesser, Greater):
            self.fails(InvalidTerm, {"value": None}, kind)
            self.fails(InvalidTerm, {"value": None}, kind, A)
            for value in NOT_TERMS:
                self.fails(InvalidTerm, {"value": None}, kind, value)

    def test_the_first_wrong_part(self):
        for kind in (Lesser, Greater):
            for value in NOT_TERMS:
                self.fails(InvalidTerm, {"value": value}, kind, A, value)
                self.fails(InvalidTerm, {"value": value}, kind, value, A, 7)
                self.fails(InvalidTerm, {"value": value}, kind, A, B, value, "r0")

    def test_each_is_a_term(self):
        for term in (A, LOW, A & B, A | B, kth(2, A, B, C)):
            self.assertIsInstance(term, Term)
        self.assertNotIsInstance(A & B, Greater)
        self.assertNotIsInstance(A | B, Lesser)


class Signs(Case):

    def test_lesser_and_greater(self):
        for term in (A, LOW, A & B, A | B):
            self.assertEqual(term & C, Lesser(term, C))
            self.assertEqual(term | C, Greater(term, C))
            self.assertEqual(C & term, Lesser(C, term))
            self.assertEqual(C | term, Greater(C, term))

    def test_wrong_ones(self):
        for term in (A, LOW, A & B, A | B):
            for value in NOT_TERMS:
                self.fails(InvalidTerm, {"value": value}, lambda: term & value)
                self.fails(InvalidTerm, {"value": value}, lambda: term | value)

    def test_nothing_changes(self):
        one = A & B
        two = one & C
        self.assertEqual(one, Lesser(A, B))
        self.assertEqual(two, Lesser(Lesser(A, B), C))


class Depth(Case):

    def test_depths(self):
        self.equal([A.depth, LOW.depth, (A & B).depth, (A | LOW).depth], [0, 0, 1, 1])
        self.equal([NESTED.depth, Lesser(A, NESTED).depth, Greater(NESTED, A, B).depth], [3, 4, 4])
        self.equal(((A & B) | (C & X & Y)).depth, 3)


class Places(Case):

    def test_sorted_and_once(self):
        self.equal(A.places(), ["r0"])
        self.equal([LOW.places(), (LOW & HIGH).places()], [[], []])
        self.equal(Lesser(X, C, A, Greater(C, A)).places(), ["r0", "r2", "x0"])
        self.equal(NESTED.places(), ["r0", "r1", "x0", "x1"])
        self.equal(Greater(*[Place(name) for name in reversed(PLACES)]).places(), PLACES)

    def test_returned_lists_are_new(self):
        for term in (A, LOW, NESTED):
            found = term.places()
            found.append("r5")
            self.assertNotIn("r5", term.places())


class At(Case):

    def test_against_the_model(self):
        rng = random.Random(1)
        for _ in range(300):
            term = some_term(rng, PLACES, 4)
            values = {name: some_value(rng) for name in PLACES}
            self.equal(term.at(values), value_of(term, values))

    def test_each_kind(self):
        self.equal([A.at({"r0": 4}), LOW.at({}), HIGH.at({"x1": 2})], [4, BOTTOM, TOP])
        self.equal((A & B).at({"r0": HUGE, "r1": HUGE - 1}), HUGE - 1)
        self.equal((A | B).at({"r0": HUGE, "r1": HUGE - 1}), HUGE)
        self.equal([(A & LOW).at({"r0": 1}), (A | LOW).at({"r0": 1})], [BOTTOM, 1])

    def test_more_places_and_by_name(self):
        for term in (A, A & A, A | A):
            self.equal(term.at(values={"x1": TOP, "r0": 3, "r5": BOTTOM}), 3)

    def test_wrong_values(self):
        for term in (A, A & B, A | B, HIGH):
            for values in (None, True, 3, TOP, "r0", [], [("r0", 1), ("r1", 2)], ()):
                self.fails(InvalidValues, {"value": values}, term.at, values)
            for value in NOT_VALUES:
                for values in ({"r0": 1, "r1": value}, {"r0": 1, "r1": 1, "x1": value}):
                    self.fails(InvalidValues, {"value": values}, term.at, values)
            for name in (True, None, 0, "r6", "x2", "top", ("r0",), b"r0"):
                values = {"r0": 1, "r1": 2, name: 3}
                self.fails(InvalidValues, {"value": values}, term.at, values)

    def test_a_missing_place(self):
        for term, values in ((A, {}), (A, {"r1": 1}), (A & B, {"r0": 1, "x0": 1}), (A | (B & C), {"r0": 1, "r1": 2})):
            self.fails(InvalidValues, {"value": values}, term.at, values)

    def test_what_is_passed_stays(self):
        values = {"x0": 2, "r0": 1}
        (A & X).at(values)
        self.equal(values, {"x0": 2, "r0": 1})


class Turned(Case):

    def test_each_kind(self):
        self.assertEqual(A.turned(), A)
        self.assertEqual([LOW.turned(), HIGH.turned()], [HIGH, LOW])
        self.assertEqual(Lesser(A, B, C).turned(), Greater(A, B, C))
        self.assertEqual(NESTED.turned(), Lesser(Greater(A, X, Lesser(B, LOW)), Y, HIGH))
        self.assertEqual(str(NESTED), "(r0 & x0 & (r1 | top)) | x1 | bottom")

    def test_twice(self):
        rng = random.Random(2)
        for _ in range(50):
            term = some_term(rng, PLACES, 4)
            self.assertEqual(term.turned().turned(), term)


class Put(Case):

    def test_each_kind(self):
        self.assertEqual([A.put({"r0": B & C}), A.put({"r1": C}), A.put({})], [B & C, A, A])
        self.assertEqual([LOW.put({"r0": A}), HIGH.put({})], [LOW, HIGH])
        self.assertEqual(Lesser(A, B, A).put(terms={"r0": HIGH, "x1": C}), Lesser(HIGH, B, HIGH))
        self.assertEqual(NESTED.put({"r1": A | B}), Greater(Lesser(A, X, Greater(A | B, HIGH)), Y, LOW))

    def test_all_at_once(self):
        self.assertEqual(((A & B) | C).put({"r0": B, "r1": C, "r2": A}), (B & C) | A)
        self.assertEqual((A & B).put({"r1": A, "r0": B}), B & A)
        self.assertEqual((A | B).put({"r0": A & B, "r1": A | B}), (A & B) | (A | B))

    def test_wrong_terms(self):
        for term in (A, LOW, A & B, A | B):
            for terms in (None, True, 1, "r0", A, [], [("r0", A)], ()):
                self.fails(InvalidTerms, {"value": terms}, term.put, terms)
            for name in (True, None, 0, "r6", "x2", "top", ("r0",), b"r0"):
                terms = {"r0": A, name: B}
                self.fails(InvalidTerms, {"value": terms}, term.put, terms)
            for value in NOT_TERMS + [3]:
                terms = {"r0": A, "x1": value}
                self.fails(InvalidTerms, {"value": terms}, term.put, terms)

    def test_nothing_changes(self):
        terms = {"x0": A, "r0": X}
        one = A & X
        one.put(terms)
        self.assertEqual(list(terms.items()), [("x0", A), ("r0", X)])
        self.assertEqual(one, Lesser(A, X))


class Texts(Case):

    def test_texts(self):
        self.equal([str(A), str(X), str(LOW), str(HIGH)], ["r0", "x0", "bottom", "top"])
        self.equal([str(Lesser(A, B, C)), str(Greater(A, X, Y))], ["r0 & r1 & r2", "r0 | x0 | x1"])
        self.equal(str(Greater(A & X, B, HIGH)), "(r0 & x0) | r1 | top")
        self.equal(str(Lesser(Lesser(A, B), C)), "(r0 & r1) & r2")
        self.equal(str(Greater(A, Greater(B, C))), "r0 | (r1 | r2)")
        self.equal(str(NESTED), "(r0 & x0 & (r1 | top)) | x1 | bottom")

    def test_representations(self):
        self.equal([repr(A), repr(HIGH), repr(LOW)], ["Place('r0')", "End('top')", "End('bottom')"])
        self.equal(repr(Lesser(A, HIGH)), "Lesser(Place('r0'), End('top'))")
        self.equal(repr(Greater(A & X, B, Y)),
                   "Greater(Lesser(Place('r0'), Place('x0')), Place('r1'), Place('x1'))")
        self.equal(repr(Lesser(A | B, C)), "Lesser(Greater(Place('r0'), Place('r1')), Place('r2'))")

    def test_representations_make_the_term_again(self):
        rng = random.Random(3)
        names = {"Place": Place, "End": End, "Lesser": Lesser, "Greater": Greater}
        for _ in range(50):
            term = some_term(rng, PLACES, 4)
            self.assertEqual(eval(repr(term), names), term)


class Equality(Case):

    def test_equal_ones(self):
        self.assertEqual(Place("r0"), A)
        self.assertEqual(End(TOP), HIGH)
        self.assertEqual(Lesser(A, B & C), Lesser(Place("r0"), Lesser(Place("r1"), Place("r2"))))
        self.assertFalse(Place("r0") != A)
        self.assertFalse(Lesser(A, B) != Lesser(A, B))

    def test_unlike_ones(self):
        terms = [A, B, X, LOW, HIGH, A & B, B & A, A | B, B | A, Lesser(A, B, C), Lesser(Lesser(A, B), C),
                 Lesser(A, Lesser(B, C)), Greater(A, B, C), Greater(Greater(A, B), C), A & A, A | A, NESTED,
                 Lesser(A, B, B)]
        for one, other in itertools.product(terms, repeat=2):
            self.assertEqual(one == other, one is other)
            self.assertEqual(one != other, one is not other)

    def test_other_kinds(self):
        for term in (A, LOW, A & B, A | B):
            for value in (str(term), repr(term), term.places(), (term,), [term], None, True, 0):
                self.assertFalse(term == value)
                self.assertTrue(term != value)
        self.assertFalse((A & B) == (A & B).parts)
        self.assertFalse((A | B) == (A | B).parts)


class Kth(Case):

    def test_each_number(self):
        rng = random.Random(4)
        for many in range(1, 9):
            terms = [Place(name) for name in PLACES[:many]]
            for k in range(1, many + 1):
                found = kth(k, *terms)
                for _ in range(30):
                    values = {name: some_value(rng) for name in PLACES}
                    heights = sorted([values[name] for name in PLACES[:many]], key=height, reverse=True)
                    self.equal(found.at(values), heights[k - 1])

    def test_all_ends(self):
        terms = [A, B, C, X, Y]
        for k in range(1, 6):
            found = kth(k, *terms)
            for ends in itertools.product([BOTTOM, TOP], repeat=5):
                values = dict(zip(["r0", "r1", "r2", "x0", "x1"], ends))
                self.equal(found.at(values), TOP if ends.count(TOP) >= k else BOTTOM)

    def test_equal_terms_count_one_by_one(self):
        values = {"r0": 9, "r1": 5}
        self.equal([kth(k, A, A, B).at(values) for k in (1, 2, 3)], [9, 9, 5])
        self.equal([kth(k, B, A, B).at(values) for k in (1, 2, 3)], [9, 5, 5])
        self.equal([kth(k, A, A).at(values) for k in (1, 2)], [9, 9])

    def test_nested_terms_and_ends(self):
        values = {"r0": 9, "r1": 5, "r2": 7}
        self.equal([kth(k, A & B, LOW, B | C, HIGH).at(values) for k in (1, 2, 3, 4)], [TOP, 7, 5, BOTTOM])
        self.equal(kth(1, A & B).at(values), 5)

    def test_wrong_numbers(self):
        for many in NOT_COUNTS + [0, 3, 4, HUGE]:
            self.fails(InvalidCount, {"value": many}, kth, many, A, B)
        for many in (0, 1):
            self.fails(InvalidCount, {"value": many}, kth, many)
        self.fails(InvalidCount, {"value": 3}, kth, 3, A, None)

    def test_wrong_terms(self):
        for value in NOT_TERMS:
            self.fails(InvalidTerm, {"value": value}, kth, 1, value)
            self.fails(InvalidTerm, {"value": value}, kth, 2, A, value, 8)

    def test_made_twice(self):
        self.assertEqual(kth(2, A, B, C, X), kth(2, A, B, C, X))


if __name__ == "__main__":
    unittest.main()
