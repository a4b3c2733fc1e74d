"""[94] and heldranks/judge.py of the interface."""

import random
import unittest

from heldranks.ages import age_history, age_of, age_paper
from heldranks.back import falling
from heldranks.errors import InvalidClaim
from heldranks.judge import KINDS, certificate_of, is_certificate, is_claim
from heldranks.machines import Machine, Row
from heldranks.makers import best, line, ranked, recent, record
from heldranks.needed import needed
from heldranks.pairs import alike_paper, are_alike, is_at_most
from heldranks.prices import Prices
from heldranks.tables import Table
from heldranks.terms import End, Place
from heldranks.worth import endless_worth, greatest_worth, worth_paper
from tests.helpers import (
    BOTTOM, HUGE, NOT_COUNTS, NOT_INTEGERS, NOT_NAMES, TOP, Case, counter, left_counter, plain_run, some_end,
    some_history, some_machine, two_inputs, without_inputs)
from tests.nodes import NodeGraph, running_out, sized
from tests.search import NOT_MACHINES, changed, disguised, lowered

NO_BOUND = "no bound"
SEQUENCE = ("alike", "unlike", "at most", "above", "needed", "not needed", "rising", "not rising", "age at most",
            "age at least", "age no bound", "worth at most", "worth at least", "worth no bound")
OPPOSITES = {"alike": "unlike", "unlike": "alike", "at most": "above", "above": "at most", "needed": "not needed",
             "not needed": "needed", "rising": "not rising", "not rising": "rising"}


def some_table(rng):
    """Return a table with one letter and one input by chance."""
    many = rng.randint(1, 3)
    steps = [{("go", (end,)): ((rng.choice([BOTTOM, TOP]),), rng.randrange(many)) for end in (BOTTOM, TOP)}
             for _ in range(many)]
    return Table(steps, inputs=1, outputs=1)


def later(many):
    """Return a machine that tells each value so many ticks later, counted by modes that go round."""
    rows = {(f"m{k}", "go"): Row(f"m{(k + 1) % many}", [Place("x0") if k == 0 else Place("r0")],
                                 [Place("r0") if k == many - 1 else End(BOTTOM)]) for k in range(many)}
    return Machine(rows, inputs=1, outputs=1, first="m0", begin=[BOTTOM])


def late_told():
    """Return a machine that keeps a value for good, and tells it at each eleventh tick."""
    rows = {(f"m{k}", "go"): Row(f"m{(k + 1) % 11}", [Place("r0") | Place("x0")],
                                 [Place("r0") if k == 10 else End(BOTTOM)]) for k in range(11)}
    rows["m0", "go"] = Row("m1", [Place("r0") | Place("x0")], [End(BOTTOM)])
    for k in range(1, 11):
        row = rows[f"m{k}", "go"]
        rows[f"m{k}", "go"] = Row(row.mode, [Place("r0")], row.outputs)
    return Machine(rows, inputs=1, outputs=1, first="m0", begin=[BOTTOM])


def claims():
    """Return tuples (claim, whether it is true), where what is true is known by the other tests."""
    rng = random.Random(1021)
    found = []
    made = [some_machine(rng, k % 3, k % 4, 1 + k % 2, 1 + k % 3, 1 + k % 2) for k in range(16)]
    made += [record(), line(2), recent(3, 2), best(2), two_inputs(), without_inputs()]
    for machine in made:
        for other in (disguised(rng, machine), changed(rng, machine), lowered(rng, machine), machine):
            for one, twin in ((machine, other), (other, machine)):
                found.append((("alike", one, twin), are_alike(one, twin)))
                found.append((("unlike", one, twin), not are_alike(one, twin)))
                found.append((("at most", one, twin), is_at_most(one, twin)))
                found.append((("above", one, twin), not is_at_most(one, twin)))
        history = some_history(rng, machine, 6)
        for value in {value for _, values in history for value in values if isinstance(value, int)} | {77}:
            is_needed = value in needed(machine, history)
            found.append((("needed", machine, history, value), is_needed))
            found.append((("not needed", machine, tuple(history), value), not is_needed))
        found.extend(claims_of_ages(machine))
        found.extend(claims_of_worths(rng, machine))
    for _ in range(30):
        table = some_table(rng)
        found.append((("rising", table), falling(table) is None))
        found.append((("not rising", table), falling(table) is not None))
    return found


def claims_of_ages(machine):
    found = []
    for letter in machine.letters:
        for number in range(machine.inputs):
            age = age_of(machine, letter, number)
            found.append((("age no bound", machine, letter, number), age == NO_BOUND))
            for most in (None, 0, 1, 2, 3, HUGE):
                is_true = age is None or (age != NO_BOUND and most is not None and age <= most)
                found.append((("age at most", machine, letter, number, most), is_true))
            for least in (0, 1, 2, 3, 40):
                is_true = age is not None and (age == NO_BOUND or age >= least)
                found.append((("age at least", machine, letter, number, least), is_true))
    return found


def claims_of_worths(rng, machine):
    found = []
    if len(NodeGraph(machine).nodes) > 96:
        return found
    for dear in (0, 1, 4):
        prices = Prices.plain(machine, tuple(rng.randint(-2, 2) for _ in range(machine.outputs)),
                              tuple(-dear for _ in range(machine.inputs)))
        most = greatest_worth(machine, prices)
        found.append((("worth no bound", machine, prices), most == NO_BOUND))
        for number in (0, 1, 2, HUGE):
            found.append((("worth at most", machine, prices, number), most != NO_BOUND and most <= number))
            found.append((("worth at least", machine, prices, number), most == NO_BOUND or most >= number))
    return found


class Claims(Case):

    def test_kinds(self):
        self.equal(KINDS, SEQUENCE)

    def test_true_and_false_ones(self):
        met = set()
        for claim, is_true in claims():
            met.add((claim[0], is_true))
            self.equal(is_claim(claim), True)
            found = certificate_of(claim)
            self.equal(found is not None, is_true)
            if is_true:
                self.equal(is_certificate(claim, found), True)
                self.equal(is_certificate(value=found, claim=claim), True)
            self.equal(is_certificate(claim, None), False)
        self.assertEqual(met, {(kind, is_true) for kind in KINDS for is_true in (True, False)})

    def test_opposites_have_other_certificates(self):
        many = 0
        for claim, is_true in claims():
            if claim[0] in OPPOSITES and is_true:
                many += 1
                opposite = (OPPOSITES[claim[0]],) + claim[1:]
                self.equal([certificate_of(opposite), is_certificate(opposite, certificate_of(claim))], [None, False])
        self.assertGreater(many, 150)

    def test_nothing_shows_what_is_not_true(self):
        rng = random.Random(1022)
        told = claims()
        by_kind = {}
        for claim, is_true in told:
            if is_true:
                by_kind.setdefault(claim[0], []).append(certificate_of(claim))
        every = [value for values in by_kind.values() for value in rng.sample(values, min(len(values), 4))]
        for claim, is_true in told:
            if not is_true:
                for value in every + rng.sample(by_kind[claim[0]], min(6, len(by_kind[claim[0]]))):
                    self.equal(is_certificate(claim, value), False)
                for value in ([], (), {}, None, True, 0, "", [()], ([], [])):
                    self.equal(is_certificate(claim, value), False)

    def test_certificates_of_other_true_claims(self):
        # A certificate is accepted exactly if it shows the claim, wherever it comes from.
        rng = random.Random(1023)
        machine = recent(2, 1)
        history = [("put", (3,)), ("put", (5,))]
        for _ in range(200):
            value = some_history(rng, machine, rng.randint(0, 3), some_end)
            told, others = plain_run(machine, value)[0], plain_run(recent(2, 2), value)[0]
            self.equal(is_certificate(("unlike", machine, recent(2, 2)), value), bool(value) and told[-1] != others[-1])
            self.equal(is_certificate(("above", machine, recent(2, 2)), value),
                       bool(value) and (told[-1], others[-1]) == ((TOP,), (BOTTOM,)))
            whole = plain_run(machine, history + value)[0]
            for number in (3, 5):
                self.equal(is_certificate(("needed", machine, history, number), value), bool(value) and number in whole[-1])
            self.equal(is_certificate(("needed", machine, tuple(history), 5), tuple(value)), bool(value) and 5 in whole[-1])


class OtherCertificates(Case):

    def test_papers_of_pairs(self):
        one, other = recent(2, 1), disguised(random.Random(5), recent(2, 1))
        claim, paper = ("alike", one, other), alike_paper(one, other)
        for value in (paper + paper, tuple(paper[::-1]), paper + [paper[0]]):
            self.equal([is_certificate(claim, value), is_certificate(("at most", one, other), value)], [True, True])
        self.equal(is_certificate(claim, paper[1:]), False)
        # A pair that is not reached: it and all behind it are there, or not.
        twice = recent(2, 1)
        high = (twice.first, (TOP,))
        more = [(high, high), ((twice.first, (BOTTOM,)), (twice.first, (BOTTOM,)))]
        self.equal(is_certificate(("alike", twice, twice), more), True)
        self.equal(is_certificate(("alike", twice, twice), more + [(high, more[1][0])]), False)
        self.equal(is_certificate(("at most", twice, twice), more + [(more[1][0], high)]), True)
        self.equal(is_certificate(("at most", twice, twice), more + [(high, more[1][0])]), False)

    def test_longer_histories(self):
        one, other = recent(2, 1), recent(2, 2)
        high, low = ("put", (TOP,)), ("put", (BOTTOM,))
        for value in ([high], [low, low, high], [high, high, low], (high, low)):
            self.equal(is_certificate(("unlike", one, other), value), True)
            self.equal(is_certificate(("above", one, other), value), True)
            self.equal(is_certificate(("above", other, one), value), False)
        for value in ([], [low], [high, high], [high, low, low], [("put", (5,))], [("other", (TOP,))], [high, None], "put"):
            self.equal(is_certificate(("unlike", one, other), value), False)
            self.equal(is_certificate(("above", one, other), value), False)

    def test_calls(self):
        history = [("put", (9,)), ("put", (2,))]
        claim = ("needed", recent(3, 1), history, 2)
        low = ("put", (BOTTOM,))
        self.equal([is_certificate(claim, [low] * many) for many in range(5)], [False, False, True, False, False])
        self.equal([is_certificate(claim, value) for value in ((low, low), [low, ("put", (2,))], [("put", (2,))], [low, 5])],
                   [True, False, False, False])
        ranks = ranked(2)
        history = [("put", (4,)), ("put", (6,))]
        rest, take = ("rest", (TOP,)), ("take", (BOTTOM,))
        claim = ("needed", ranks, history, 4)
        self.equal([is_certificate(claim, value) for value in ([take, take], [rest, take, rest, take], [take], [take] * 3)],
                   [True, True, False, False])
        self.equal(is_claim(("needed", ranks, history, True)), False)

    def test_falling(self):
        low, high = ("go", (BOTTOM,)), ("go", (TOP,))
        table = Table([{low: ((TOP,), 0), high: ((BOTTOM,), 0)}], inputs=1, outputs=1)
        claim = ("not rising", table)
        for value in (([low], [high]), ((low, low), [low, high]), ([high, low], [high, high])):
            self.equal(is_certificate(claim, value), True)
        for value in (([high], [low]), ([low], [low]), ([], []), ([low], [high, high]), ([low], []), [[low], [high]],
                      ([low],), ([low], [high], [high]), ([high, low], [low, high]), ([low, low], [high, low]),
                      ([low], [("go", (5,))]), ([("go", (5,))], [high]), ([low, 5], [high, high]),
                      ("x", [high]), (None, [high]), ([low], None), ([("other", (BOTTOM,))], [high]), (low, high), None, (None, None)):
            self.equal(is_certificate(claim, value), False)
        two = Table([{("go", (end,)): ((end,), 0) for end in (BOTTOM, TOP)} | {
            ("stop", (end,)): ((BOTTOM,), 0) for end in (BOTTOM, TOP)}], inputs=1, outputs=1)
        self.equal([is_claim(("rising", two)), certificate_of(("not rising", two))], [True, None])
        self.equal(is_certificate(("not rising", two), ([("go", (TOP,))], [("stop", (TOP,))])), False)

    def test_ages(self):
        machine = recent(3, 1)
        paper = age_paper(machine, "put", 0)
        for most in (None, 0, 1, 2, 3, HUGE):
            self.equal(is_certificate(("age at most", machine, "put", 0, most), paper), most in (2, 3, HUGE))
        greater = {pair: paper[pair] + 2 for pair in paper}
        self.equal([is_certificate(("age at most", machine, "put", 0, most), greater) for most in (2, 3, 4)],
                   [False, False, True])
        told = {age: age_history(machine, "put", 0, age) for age in range(3)}
        for least in range(4):
            self.equal([is_certificate(("age at least", machine, "put", 0, least), told[age]) for age in range(3)],
                       [age >= least for age in range(3)])
        history, tick, output = told[2]
        for value in ((history, tick, True), (history, False, output), [history, tick, output], (history, 1, 0),
                      (history, 3, 0), (history, 9, 0), (history, tick, 1), (history, tick), (history + [5], 0, 0), (5, 0, 0)):
            self.equal(is_certificate(("age at least", machine, "put", 0, 0), value), False)
        value = ([("put", (7,)), *history], 1, 0)
        self.equal(is_certificate(("age at least", machine, "put", 0, 2), value), True)

    def test_ages_that_are_not_possible(self):
        # Only ages of a certain rest come out, and the certificate is one with a greater age.
        machine = late_told()
        self.equal(age_of(machine, "go", 0), NO_BOUND)
        self.equal([age for age in range(41) if age_history(machine, "go", 0, age)], [10, 21, 32])
        for least in (0, 10, 11, 22, 33, 40):
            claim = ("age at least", machine, "go", 0, least)
            history, tick, output = certificate_of(claim)
            self.assertGreaterEqual(len(history) - 1 - tick, max(least, 10))
            self.assertLess(len(history) - 1 - tick, max(least, 10) + 11)
            self.assertIn(history[tick][1][0], plain_run(machine, history)[0][-1])
            self.equal(is_certificate(claim, (history, tick, output)), True)
        machine = later(7)
        for least, is_true in ((0, True), (3, True), (6, True), (7, False), (40, False)):
            self.equal(certificate_of(("age at least", machine, "go", 0, least)) is not None, is_true)

    def test_worths(self):
        machine = running_out(3)
        prices = Prices.plain(machine, (2,), ())
        paper = worth_paper(machine, prices)
        for most in range(9):
            self.equal(is_certificate(("worth at most", machine, prices, most), paper), most >= 6)
        tick = ("go", ())
        for least in range(9):
            claim = ("worth at least", machine, prices, least)
            self.equal([is_certificate(claim, [tick] * many) for many in range(5)],
                       [2 * min(many, 3) >= least for many in range(5)])
        self.equal([is_certificate(("worth at least", machine, prices, 0), value) for value in ([], (), None, {}, ([], []))],
                   [True, True, False, False, False])
        endless = Prices.plain(without_inputs(), (2,), ())
        found = endless_worth(without_inputs(), endless)
        for kind, rest in (("worth at least", (HUGE,)), ("worth no bound", ())):
            claim = (kind, without_inputs(), endless) + rest
            self.equal([is_certificate(claim, found), is_certificate(claim, (found[0], found[1] * 2))], [True, True])
            self.equal([is_certificate(claim, value) for value in (found[0] + found[1], list(found), (found[0], []), found[:1])],
                       [False] * 4)
        self.equal(is_certificate(("worth at least", without_inputs(), endless, 4), [tick] * 4), True)
        self.equal(is_certificate(("worth at least", without_inputs(), endless, 5), ((tick,) * 4)), False)
        self.equal(is_certificate(("worth no bound", machine, prices), ([tick] * 4, [tick])), False)

    def test_new_each_time(self):
        claim = ("alike", recent(2, 1), recent(2, 1))
        found = certificate_of(claim)
        before = list(found)
        found.clear()
        self.equal(certificate_of(claim=claim), before)
        self.equal(is_claim(value=claim), True)
        history = [("put", (3,))]
        claim = ("needed", recent(2, 1), history, 3)
        certificate_of(claim)
        is_certificate(claim, [("put", (BOTTOM,))])
        self.equal(history, [("put", (3,))])


class NoClaims(Case):

    def refused(self, value):
        self.equal(is_claim(value), False)
        self.fails(InvalidClaim, {"value": value}, is_certificate, value, None)
        self.fails(InvalidClaim, {"value": value}, certificate_of, value)

    def good(self):
        """Return a claim of each kind."""
        machine = record()
        prices = Prices.plain(machine, (1,), (-1,))
        table = some_table(random.Random(3))
        history = [("put", (3,))]
        return [("alike", machine, machine), ("unlike", machine, machine), ("at most", machine, machine),
                ("above", machine, machine), ("needed", machine, history, 3), ("not needed", machine, history, 3),
                ("rising", table), ("not rising", table), ("age at most", machine, "put", 0, 3),
                ("age at least", machine, "put", 0, 3), ("age no bound", machine, "put", 0),
                ("worth at most", machine, prices, 3), ("worth at least", machine, prices, 3),
                ("worth no bound", machine, prices)]

    def test_other_values(self):
        for value in [None, True, 0, "alike", [], (), {}, record(), b"alike", ("",), ((),), ([],), (None,), (record(),)]:
            self.refused(value)

    def test_other_words_and_numbers_of_parts(self):
        for claim in self.good():
            self.equal(is_claim(claim), True)
            self.refused(list(claim))
            self.refused(claim[:-1])
            self.refused(claim + (None,))
            self.refused(claim + (claim[-1],))
            self.refused(claim[1:])
            for word in (None, True, 0, "", "Alike", claim[0] + " ", claim[0].upper(), "same", [claim[0]], (claim[0],),
                         claim[0].replace(" ", "_") + "_", b"alike"):
                self.refused((word,) + claim[1:])

    def test_parts_of_other_kinds(self):
        for claim in self.good():
            for k in range(1, len(claim)):
                for value in (None, True, "x", [], (), {}, -1, Machine, ([], 3)):
                    if (claim[0], k, value) in (("age at most", 4, None), ("needed", 2, []), ("needed", 2, ()),
                                                ("not needed", 2, []), ("not needed", 2, ()), ("needed", 3, -1),
                                                ("not needed", 3, -1)):
                        continue
                    self.refused(claim[:k] + (value,) + claim[k + 1:])

    def test_machines(self):
        for claim in self.good():
            if not isinstance(claim[1], Table):
                for value in NOT_MACHINES:
                    self.refused((claim[0], value) + claim[2:])
                if claim[0] in SEQUENCE[:4]:
                    for other in (best(1), line(1), two_inputs(), without_inputs()):
                        self.refused((claim[0], claim[1], other))
                        self.refused((claim[0], other, claim[1]))

    def test_too_many_end_states_or_nodes(self):
        for machine in (left_counter(4, 6), counter(6, 2)):
            prices = Prices.plain(machine, (1,), (1,))
            small = left_counter(0, 1) if "leave" in machine.letters else counter(1, 1)
            for kind in SEQUENCE[:4]:
                for one, other in ((machine, machine), (machine, small), (small, machine)):
                    self.refused((kind, one, other))
            for kind in ("needed", "not needed"):
                self.refused((kind, machine, [], 3))
            for kind, rest in (("age at most", (3,)), ("age at least", (3,)), ("age no bound", ())):
                self.refused((kind, machine, "go", 0) + rest)
            for kind, rest in (("worth at most", (3,)), ("worth at least", (3,)), ("worth no bound", ())):
                self.refused((kind, machine, prices) + rest)
        for machine in (counter(4, 6), sized([4] * 5 + [3, 1])):
            prices = Prices.plain(machine, (1,), (1,))
            for kind, rest in (("worth at most", (3,)), ("worth at least", (3,)), ("worth no bound", ())):
                self.refused((kind, machine, prices) + rest)
            self.equal(is_claim(("age no bound", machine, "go", 0)), True)
            self.equal(is_claim(("alike", machine, machine)), True)
        machine = sized([4] * 5 + [3, 0])
        self.equal(is_claim(("worth no bound", machine, Prices.plain(machine, (1,), (1,)))), True)

    def test_histories_and_integers(self):
        for kind in ("needed", "not needed"):
            for history in ([None], [("put",)], [("put", (3, 4))], [("other", (3,))], [("put", (True,))], "put", 3):
                self.refused((kind, record(), history, 3))
            for value in NOT_INTEGERS:
                self.refused((kind, record(), [], value))
            self.equal([is_claim((kind, record(), history, -HUGE)) for history in ([], (), [("put", (TOP,))])], [True] * 3)

    def test_ages(self):
        machine = record()
        for kind, rest in (("age at most", (3,)), ("age at least", (3,)), ("age no bound", ())):
            for letter in NOT_NAMES + ["other"]:
                self.refused((kind, machine, letter, 0) + rest)
            for number in NOT_COUNTS + [1, HUGE]:
                self.refused((kind, machine, "put", number) + rest)
            self.refused((kind, without_inputs(), "go", 0) + rest)
        for number in NOT_COUNTS:
            if number is not None:
                self.refused(("age at most", machine, "put", 0, number))
            self.refused(("age at least", machine, "put", 0, number))
        self.refused(("age at most", machine, "put", 0, NO_BOUND))
        self.equal([is_claim(("age at least", machine, "put", 0, number)) for number in (0, 40, 41, HUGE)],
                   [True, True, False, False])
        self.equal([is_claim(("age at most", machine, "put", 0, number)) for number in (None, 0, 41, HUGE)], [True] * 4)

    def test_prices(self):
        machine = record()
        good = Prices.plain(machine, (1,), (-1,))
        others = [Prices({"put": (1,)}, {"put": (1,)}), Prices.plain(best(1), (1,), (1,)), Prices.plain(line(1), (1,), (1,)),
                  None, {}, (1,), Prices]
        for kind, rest in (("worth at most", (3,)), ("worth at least", (3,)), ("worth no bound", ())):
            for prices in others:
                self.refused((kind, machine, prices) + rest)
            self.equal(is_claim((kind, machine, good) + rest), True)
        for number in NOT_COUNTS + [NO_BOUND]:
            self.refused(("worth at most", machine, good, number))
            self.refused(("worth at least", machine, good, number))


if __name__ == "__main__":
    unittest.main()
