"""[14] and heldranks/forms.py of the interface."""

import itertools
import random
import unittest

from heldranks.errors import InvalidForm, InvalidTerm, InvalidValues
from heldranks.forms import covers_of, form_of, is_never_above, is_same, showing, term_of, value_by
from heldranks.terms import End, Greater, Lesser, Place, Term, kth
from tests.helpers import (
    BOTTOM, HUGE, NOT_LISTS, NOT_PLACES, NOT_VALUES, PLACES, TOP, Case, form_by_search, some_term, some_value,
    value_of)

A, B, C, X, Y = Place("r0"), Place("r1"), Place("r2"), Place("x0"), Place("x1")
LOW, HIGH = End(BOTTOM), End(TOP)
NOT_TERMS = [True, None, 0, "r0", "top", [], [A], (A, B), {"r0": A}, Place]


def some_terms(seed, many):
    """Return terms over one place up to all eight places."""
    rng = random.Random(seed)
    return [some_term(rng, rng.sample(PLACES, 1 + k % 8), 1 + k % 3) for k in range(many)]


class FormOf(Case):

    def test_ends_and_places(self):
        self.equal([form_of(LOW), form_of(HIGH), form_of(X)], [[], [()], [("x0",)]])
        self.equal([covers_of(LOW), covers_of(HIGH), covers_of(X)], [[()], [], [("x0",)]])

    def test_nested_terms(self):
        self.equal(form_of((A & B) | X), [("x0",), ("r0", "r1")])
        self.equal(covers_of((A & B) | X), [("r0", "x0"), ("r1", "x0")])
        self.equal(form_of(kth(2, A, B, X)), [("r0", "r1"), ("r0", "x0"), ("r1", "x0")])
        self.equal(form_of((X & A) | (A & B & C) | (A & C)), [("r0", "r2"), ("r0", "x0")])
        self.equal(form_of(A | (A & B)), [("r0",)])
        self.equal([form_of(A & LOW), form_of(A | HIGH), form_of(A | LOW), form_of(A & HIGH)],
                   [[], [()], [("r0",)], [("r0",)]])

    def test_against_a_search(self):
        for term in some_terms(11, 150):
            self.equal(form_of(term), form_by_search(term))
            self.equal(covers_of(term), form_by_search(term.turned()))

    def test_all_eight_places(self):
        places = [Place(name) for name in PLACES]
        self.equal(form_of(Lesser(*places)), [tuple(PLACES)])
        self.equal(form_of(Greater(*places)), [(name,) for name in PLACES])
        self.equal(form_of(kth(4, *places)), list(itertools.combinations(PLACES, 4)))
        self.equal(covers_of(kth(4, *places)), list(itertools.combinations(PLACES, 5)))

    def test_covers_have_a_place_in_common_with_each_set(self):
        for term in some_terms(12, 40):
            for cover in covers_of(term):
                self.assertTrue(all(set(cover) & set(chosen) for chosen in form_of(term)))

    def test_what_is_returned_is_new(self):
        for function in (form_of, covers_of):
            function(A).append(("r5",))
            self.equal(function(A), [("r0",)])

    def test_by_name(self):
        self.equal([form_of(term=A), covers_of(term=LOW)], [[("r0",)], [()]])

    def test_wrong_terms(self):
        for value in NOT_TERMS:
            self.fails(InvalidTerm, {"value": value}, form_of, value)
            self.fails(InvalidTerm, {"value": value}, covers_of, value)


WRONG_FORMS = NOT_LISTS + [
    A, "r0", {("r0",)}, {("r0",): 1}, [["r0"]], ["r0"], [A], [None], [("r0",), ("r0",)], [(), ()],
    [("r0",), ("r0", "r1")], [("r1",), ("r0", "r1")], [(), ("r0",)], [("r0",), ()], [("r1",), ("r0",)],
    [("r0", "r1"), ("x0",)], [("r1", "r0")], [("r0", "r0")], [("r0", "x0"), ("r0", "r1")], [("r0", True)], [(True,)],
    [True], [False], [0], [("x2",)], [("r6",)], [("top",)], [("r0", None)], [(1,)], [(("r0",),)],
    [("r0",), ["r1"]], [("r0", "r1"), ("r0", "r1", "x0")]]


class TermOf(Case):

    def test_ends(self):
        self.equal([form_of(term_of([])), form_of(term_of([()]))], [[], [()]])
        self.equal([form_of(term_of(())), form_of(term_of(((),)))], [[], [()]])

    def test_terms_with_the_form(self):
        for term in some_terms(13, 100):
            form = form_of(term)
            for passed in (form, tuple(form)):
                found = term_of(passed)
                self.assertIsInstance(found, Term)
                self.equal(form_of(found), form)
                self.equal(form_by_search(found), form)

    def test_by_name_and_again(self):
        self.assertEqual(term_of(form=[("r0",), ("r1", "x0")]), term_of((("r0",), ("r1", "x0"))))

    def test_what_is_passed_stays(self):
        form = [("r0",), ("r1", "x0")]
        term_of(form)
        value_by(form, {"r0": 1, "r1": 2, "x0": 3})
        self.equal(form, [("r0",), ("r1", "x0")])

    def test_wrong_forms(self):
        for form in WRONG_FORMS:
            with self.subTest(form=form):
                self.fails(InvalidForm, {"value": form}, term_of, form)
                self.fails(InvalidForm, {"value": form}, value_by, form, None)

    def test_wrong_places(self):
        for name in NOT_PLACES:
            for form in ([(name,)], [("r0",), ("r1", name)]):
                self.fails(InvalidForm, {"value": form}, term_of, form)
                self.fails(InvalidForm, {"value": form}, value_by, form, {"r0": 1, "r1": 1})


class ValueBy(Case):

    def test_ends(self):
        self.equal([value_by([], {}), value_by([()], {}), value_by([()], {"r0": 3})], [BOTTOM, TOP, TOP])

    def test_against_the_terms(self):
        rng = random.Random(14)
        for term in some_terms(14, 100):
            form = form_of(term)
            for passed in (form, tuple(form)):
                values = {name: some_value(rng) for name in PLACES}
                self.equal(value_by(passed, values), value_of(term, values))

    def test_just_the_places_of_the_form(self):
        form = [("x0",), ("r0", "r1")]
        self.equal(value_by(form, {"r1": HUGE, "x0": 3, "r0": HUGE - 1}), HUGE - 1)
        self.equal(value_by(values={"r1": 1, "x0": 3, "r0": TOP}, form=form), 3)

    def test_wrong_values(self):
        form = [("x0",), ("r0", "r1")]
        right = {"r0": 1, "r1": 2, "x0": 3}
        for values in (None, True, 3, TOP, [], [("r0", 1)], (), {"r0": 1, "r1": 2}, {"x0": 3}, {}):
            self.fails(InvalidValues, {"value": values}, value_by, form, values)
        for value in NOT_VALUES:
            for name in ("r0", "x1"):
                values = {**right, name: value}
                self.fails(InvalidValues, {"value": values}, value_by, form, values)
        for name in (True, None, 0, "r6", "x2", "top", ("r0",), b"r0"):
            values = {**right, name: 1}
            self.fails(InvalidValues, {"value": values}, value_by, form, values)
            values = {name: 1}
            self.fails(InvalidValues, {"value": values}, value_by, [], values)


class Comparing(Case):

    def test_against_all_ends(self):
        rng = random.Random(15)
        for _ in range(150):
            places = rng.sample(PLACES, rng.randint(1, 4))
            one, other = some_term(rng, places, 2), some_term(rng, places, 2)
            pairs = []
            for ends in itertools.product([BOTTOM, TOP], repeat=len(places)):
                values = dict(zip(places, ends))
                pairs.append((value_of(one, values), value_of(other, values)))
            self.assertIs(is_same(one, other), all(a == b for a, b in pairs))
            self.assertIs(is_same(one, other), form_of(one) == form_of(other))
            self.assertIs(is_never_above(one, other), (TOP, BOTTOM) not in pairs)
            self.assertIs(is_never_above(other, one), (BOTTOM, TOP) not in pairs)

    def test_never_above_by_the_forms(self):
        for one, other in itertools.product(some_terms(16, 16), repeat=2):
            contained = all(any(set(small) <= set(chosen) for small in form_of(other)) for chosen in form_of(one))
            self.assertIs(is_never_above(one, other), contained)

    def test_what_is_shown(self):
        for one, other in itertools.product(some_terms(17, 24), repeat=2):
            shown = showing(one, other)
            if is_never_above(one, other):
                self.assertIsNone(shown)
            else:
                self.equal(list(shown), sorted(set(one.places()) | set(other.places())))
                self.assertTrue(all(end in (BOTTOM, TOP) for end in shown.values()))
                self.equal([one.at(shown), other.at(shown)], [TOP, BOTTOM])
                self.equal(showing(one, other), shown)

    def test_some_pairs(self):
        one, other = (A & B) | (A & X), A & (B | X)
        self.assertIs(is_same(one, other), True)
        self.assertIs(is_same(one=one, other=A), False)
        self.equal([is_never_above(one=one, other=A), is_never_above(A, one)], [True, False])
        self.equal([showing(one, A), showing(one=A, other=one)], [None, {"r0": TOP, "r1": BOTTOM, "x0": BOTTOM}])
        self.equal([is_same(A, B), is_never_above(A, B), is_never_above(B, A)], [False, False, False])
        self.equal([showing(A, B), showing(B, A)],
                   [{"r0": TOP, "r1": BOTTOM}, {"r0": BOTTOM, "r1": TOP}])

    def test_ends(self):
        self.equal([showing(HIGH, LOW), showing(LOW, HIGH), showing(HIGH, HIGH)], [{}, None, None])
        self.equal([showing(A, LOW), showing(HIGH, A)], [{"r0": TOP}, {"r0": BOTTOM}])
        self.equal([is_same(A | HIGH, HIGH), is_same(A & LOW, LOW), is_same(LOW, HIGH)], [True, True, False])

    def test_wrong_terms(self):
        for function in (is_same, is_never_above, showing):
            for value in NOT_TERMS:
                self.fails(InvalidTerm, {"value": value}, function, value, None)
                self.fails(InvalidTerm, {"value": value}, function, A, value)


if __name__ == "__main__":
    unittest.main()
