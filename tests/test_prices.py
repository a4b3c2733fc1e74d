"""[80], [81] and heldranks/prices.py of the interface."""

import random
import unittest

from heldranks.errors import InvalidCount, InvalidHistory, InvalidMachine, InvalidPrices, UnknownLetter
from heldranks.makers import best, ranked, recent, record
from heldranks.prices import Prices, end_worth, worth
from heldranks.runs import history_at
from tests.helpers import (
    BOTTOM, HUGE, NOT_ENDS, NOT_INTEGERS, NOT_LISTS, NOT_NAMES, TOP, Case, counter, plain_run, some_end,
    some_history, some_machines, two_inputs, without_inputs)

OUT = {"put": (2,), "reset": (-3,)}
IN = {"put": (5,), "reset": (7,)}


def number(value, most):
    return {BOTTOM: 0, TOP: most}.get(value, value)


def plain_worth(machine, prices, most, history):
    """Return the worth of a history, tick by tick."""
    total, last = 0, None
    outputs = plain_run(machine, history)[0]
    for (letter, values), told in zip(history, outputs):
        told, taken = [number(v, most) for v in told], [number(v, most) for v in values]
        for price, n in zip(prices.of_outputs(letter), told):
            total += price * n
        for price, n in zip(prices.of_inputs(letter), taken):
            total += price * n
        if last is not None:
            for k, price in enumerate(prices.output_moves):
                total += price * abs(told[k] - last[0][k])
            for k, price in enumerate(prices.input_moves):
                total += price * abs(taken[k] - last[1][k])
        last = (told, taken)
    return total


def some_prices(rng, machine):
    """Return prices of a machine by chance, with or without prices of movements."""
    def tuple_of(many):
        return tuple(rng.randint(-9, 9) for _ in range(many))
    outputs = {letter: tuple_of(machine.outputs) for letter in machine.letters}
    inputs = {letter: tuple_of(machine.inputs) for letter in machine.letters}
    moves = [tuple_of(many) if rng.random() < 0.7 else () for many in (machine.outputs, machine.inputs)]
    return Prices(outputs, inputs, output_moves=moves[0], input_moves=moves[1])


class Making(Case):

    def test_parts(self):
        prices = Prices(OUT, IN, output_moves=(4,), input_moves=(-1,))
        self.equal([prices.of_outputs("put"), prices.of_outputs("reset")], [(2,), (-3,)])
        self.equal([prices.of_inputs("put"), prices.of_inputs(letter="reset")], [(5,), (7,)])
        self.equal([prices.output_moves, prices.input_moves], [(4,), (-1,)])

    def test_nothing_passed_for_movements(self):
        prices = Prices({"a": (1, HUGE)}, {"a": (1, 2, 3)})
        self.equal([prices.output_moves, prices.input_moves], [(0, 0), (0, 0, 0)])
        self.equal(Prices({"a": (1, 2)}, {"a": (1,)}, output_moves=(), input_moves=(3,)).output_moves, (0, 0))
        self.equal(Prices({"a": (1,)}, {"a": ()}, output_moves=(2,)).input_moves, ())

    def test_movements_by_name_only(self):
        with self.assertRaises(TypeError):
            Prices(OUT, IN, (1,), (1,))
        self.assertEqual(Prices(inputs=IN, outputs=OUT), Prices(OUT, IN))

    def test_copies(self):
        outputs, inputs = dict(OUT), dict(IN)
        prices = Prices(outputs, inputs)
        outputs["put"] = (9,)
        inputs.clear()
        self.equal([prices.of_outputs("put"), prices.of_inputs("put")], [(2,), (5,)])
        self.equal(outputs, {"put": (9,), "reset": (-3,)})

    def test_unknown_letters(self):
        prices = Prices(OUT, IN)
        for letter in NOT_NAMES + ["take", 0]:
            self.fails(UnknownLetter, {"value": letter}, prices.of_outputs, letter)
            self.fails(UnknownLetter, {"value": letter}, prices.of_inputs, letter)

    def test_the_order_of_the_keys_has_no_effect(self):
        turned = {"reset": (-3,), "put": (2,)}
        self.assertEqual(Prices(turned, IN), Prices(OUT, IN))
        self.assertIs(Prices(turned, IN).fits(record()), True)

    def test_equality(self):
        prices = Prices(OUT, IN, output_moves=(4,), input_moves=(-1,))
        self.assertEqual(prices, Prices(dict(OUT), dict(IN), output_moves=(4,), input_moves=(-1,)))
        self.assertFalse(prices != Prices(OUT, IN, output_moves=(4,), input_moves=(-1,)))
        self.assertEqual(Prices(OUT, IN), Prices(OUT, IN, output_moves=(0,), input_moves=(0,)))
        for other in (Prices(IN, IN, output_moves=(4,), input_moves=(-1,)),
                      Prices(OUT, OUT, output_moves=(4,), input_moves=(-1,)),
                      Prices(OUT, IN, input_moves=(-1,)), Prices(OUT, IN, output_moves=(4,)),
                      Prices({"put": (2,)}, {"put": (5,)}, output_moves=(4,), input_moves=(-1,)), None, (OUT, IN), 0):
            self.assertFalse(prices == other)
            self.assertTrue(prices != other)


class Wrong(Case):

    def test_outputs(self):
        for outputs in wrong_tables():
            self.fails(InvalidPrices, {"value": outputs}, Prices, outputs, None, output_moves=None, input_moves=None)

    def test_inputs(self):
        for inputs in wrong_tables() + [{"put": (5,)}, {**IN, "take": (1,)}, {"put": (1,), "take": (1,)}]:
            self.fails(InvalidPrices, {"value": inputs}, Prices, OUT, inputs, output_moves=None, input_moves=None)

    def test_movements(self):
        for moves in wrong_moves():
            self.fails(InvalidPrices, {"value": moves}, Prices, OUT, IN, output_moves=moves, input_moves=None)
            self.fails(InvalidPrices, {"value": moves}, Prices, OUT, IN, input_moves=moves)
        two = {"put": (1, 2), "reset": (3, 4)}
        self.fails(InvalidPrices, {"value": (1,)}, Prices, two, IN, output_moves=(1,), input_moves=(1,))
        self.fails(InvalidPrices, {"value": (1,)}, Prices, OUT, two, output_moves=(1,), input_moves=(1,))
        none = {"put": (), "reset": ()}
        self.fails(InvalidPrices, {"value": (1,)}, Prices, OUT, none, output_moves=(1,), input_moves=(1,))


def wrong_tables():
    """Return values that are no dict from letters to tuples of INTEGERS of equal lengths."""
    found = NOT_LISTS + [[], [("put", (1,))], {}, {"put": (1,), "reset": (1, 2)}, {"put": (), "reset": (1,)},
                         {"put": [1], "reset": (1,)}, {"put": (1,), "reset": [1]}, {"put": 1, "reset": 1},
                         {"put": (1,), "reset": None}, {"put": (1,), "reset": "a"}]
    found = found + [{"put": (1,), "reset": (value,)} for value in NOT_INTEGERS]
    return found + [{"put": (1,), "reset": (1,), name: (1,)} for name in (True, None, 0, "", "A", "1a", "abcdefghi",
                                                                            ("put",), b"put")]


def wrong_moves():
    """Return values that are not a tuple with one INTEGER, and not the empty one."""
    return [None, True, 0, 1, "", "a", [], [1], {}, {1: 1}, (1, 2)] + [(value,) for value in NOT_INTEGERS]


class Fits(Case):

    def test_letters_and_numbers(self):
        self.equal([Prices(OUT, IN).fits(record()), Prices(OUT, IN).fits(machine=ranked(1))], [True, False])
        one, two = {"put": (1,)}, {"put": (1, 2)}
        self.equal([Prices(two, one).fits(best(2)), Prices(one, one).fits(best(2))], [True, False])
        self.equal([Prices(two, two).fits(best(2)), Prices({"put": ()}, one).fits(best(1))], [False, False])
        self.equal([Prices({"go": (1,)}, {"go": ()}).fits(without_inputs()), Prices(one, one).fits(record())],
                   [True, False])
        self.equal(Prices({**OUT, "rest": (1,)}, {**IN, "rest": (1,)}).fits(record()), False)

    def test_wrong_machines(self):
        for machine in (None, True, 0, "record", [], {}):
            self.fails(InvalidMachine, {"value": machine}, Prices(OUT, IN).fits, machine)


class Plain(Case):

    def test_the_same_for_all_letters(self):
        prices = Prices.plain(ranked(1), (3,), (-2,))
        letters = ["put", "rest", "take"]
        self.assertEqual(prices, Prices({letter: (3,) for letter in letters}, {letter: (-2,) for letter in letters}))
        self.equal([prices.of_outputs("rest"), prices.of_inputs("take")], [(3,), (-2,)])
        self.equal([prices.output_moves, prices.input_moves, prices.fits(ranked(2))], [(0,), (0,), True])
        self.assertEqual(Prices.plain(inputs=(1,), machine=best(2), outputs=(HUGE, 0)),
                         Prices({"put": (HUGE, 0)}, {"put": (1,)}))
        self.equal(Prices.plain(without_inputs(), (1,), ()).of_inputs("go"), ())

    def test_wrong_ones(self):
        for machine in (None, True, 0, "record", [], {}):
            self.fails(InvalidMachine, {"value": machine}, Prices.plain, machine, None, None)
        for value in [()] + wrong_moves():
            self.fails(InvalidPrices, {"value": value}, Prices.plain, record(), value, None)
            self.fails(InvalidPrices, {"value": value}, Prices.plain, record(), (1,), value)
        self.fails(InvalidPrices, {"value": (1,)}, Prices.plain, best(2), (1,), (1,))
        self.fails(InvalidPrices, {"value": (1,)}, Prices.plain, two_inputs(), (1, 1), (1,))
        self.fails(InvalidPrices, {"value": (1,)}, Prices.plain, without_inputs(), (1,), (1,))


class Worth(Case):

    def test_against_the_model(self):
        rng = random.Random(81)
        for machine in some_machines(81, 60):
            prices = some_prices(rng, machine)
            for most in (1, 2, 7, HUGE):
                history = some_history(rng, machine, rng.randint(0, 12), lambda rng: rng.randint(0, most))
                for passed in (history, tuple(history)):
                    self.equal(worth(machine, prices, most, passed), plain_worth(machine, prices, most, history))
            ends = some_history(rng, machine, rng.randint(0, 12), some_end)
            for passed in (ends, tuple(ends)):
                self.equal(end_worth(machine, prices, passed), plain_worth(machine, prices, 1, ends))

    def test_the_sum_over_the_levels(self):
        rng = random.Random(82)
        for machine in some_machines(82, 40):
            prices = some_prices(rng, machine)
            for most in (1, 4):
                history = some_history(rng, machine, rng.randint(0, 12), lambda rng: rng.randint(0, most))
                parts = [end_worth(machine, prices, history_at(history, level)) for level in range(1, most + 1)]
                self.equal(worth(machine, prices, most, history), sum(parts))

    def test_the_empty_history(self):
        prices = Prices(OUT, IN, output_moves=(4,), input_moves=(1,))
        for history in ([], ()):
            self.equal([worth(record(), prices, 5, history), end_worth(record(), prices, history)], [0, 0])

    def test_bottom_is_0_and_top_the_greatest(self):
        history = [("go", (3, 5)), ("tell", (0, 0))]
        outputs_alone = Prices.plain(two_inputs(), (100, 1), (0, 0))
        self.equal([worth(two_inputs(), outputs_alone, most, history) for most in (5, 9)], [305 + 505, 305 + 509])
        self.equal(worth(recent(2, 2), Prices.plain(recent(2, 2), (10,), (0,)), 9, [("put", (6,))]), 0)
        self.equal(end_worth(record(), Prices(OUT, IN), [("put", (TOP,)), ("reset", (TOP,)), ("put", (BOTTOM,))]), 14)

    def test_one_tick_after_the_other(self):
        history = [("put", (3,)), ("put", (1,)), ("reset", (4,)), ("put", (2,))]
        zero = {"put": (0,), "reset": (0,)}
        self.equal(worth(record(), Prices(OUT, zero), 9, history), 6 + 6 + 0 + 4)
        self.equal(worth(record(), Prices(zero, IN), 9, history), 15 + 5 + 28 + 10)
        self.equal(worth(record(), Prices(zero, zero, output_moves=(10,)), 9, history), 30 + 20)
        self.equal(worth(record(), Prices(zero, zero, input_moves=(10,)), 9, history), 20 + 30 + 20)
        self.equal(worth(record(), Prices(OUT, IN, output_moves=(1,), input_moves=(-1,)), 9, history), 16 + 58 + 5 - 7)

    def test_by_name(self):
        prices = Prices(OUT, IN)
        self.equal(worth(history=[("put", (3,))], most=3, prices=prices, machine=record()), 21)
        self.equal(end_worth(history=[("put", (TOP,))], prices=prices, machine=record()), 7)

    def test_more_than_96_end_states_are_no_matter(self):
        machine = counter(6, 2)
        prices = Prices.plain(machine, (2,), (3,))
        self.equal([worth(machine, prices, 4, [("go", (4,))]), end_worth(machine, prices, [("go", (TOP,))])], [20, 5])


class WrongWorth(Case):

    def test_machines(self):
        for machine in (None, True, 0, "record", [], {}):
            self.fails(InvalidMachine, {"value": machine}, worth, machine, None, None, None)
            self.fails(InvalidMachine, {"value": machine}, end_worth, machine, None, None)

    def test_prices(self):
        others = [Prices({"put": (1,)}, {"put": (1,)}), Prices.plain(ranked(1), (1,), (1,)),
                  Prices({"put": (1, 1), "reset": (1, 1)}, IN), Prices(OUT, {"put": (), "reset": ()})]
        for prices in [None, True, 0, "", [], (), {}, OUT, Prices] + others:
            self.fails(InvalidPrices, {"value": prices}, worth, record(), prices, None, None)
            self.fails(InvalidPrices, {"value": prices}, end_worth, record(), prices, None)

    def test_most(self):
        for most in NOT_INTEGERS + [0, -1, -HUGE]:
            self.fails(InvalidCount, {"value": most}, worth, record(), Prices(OUT, IN), most, None)

    def test_histories(self):
        prices = Prices(OUT, IN)
        for history in NOT_LISTS:
            self.fails(InvalidHistory, {"position": None}, worth, record(), prices, 3, history)
            self.fails(InvalidHistory, {"position": None}, end_worth, record(), prices, history)

    def test_the_first_wrong_tick(self):
        prices = Prices(OUT, IN)
        ticks = [None, True, "put", ("put",), ("put", 1), ("put", [1]), ["put", (1,)], ("put", (1,), 1), ("put", ()),
                 ("put", (1, 1)), ("take", (1,)), (True, (1,))]
        wrong = ticks + [("put", (value,)) for value in NOT_INTEGERS + [-1, 4, HUGE]]
        for tick in wrong:
            for position in range(3):
                history = [("put", (k,)) for k in (0, 3)[:position]] + [tick, None]
                self.fails(InvalidHistory, {"position": position}, worth, record(), prices, 3, history)
        wrong = ticks + [("put", (value,)) for value in NOT_ENDS]
        for tick in wrong:
            for position in range(3):
                history = [("put", (end,)) for end in (BOTTOM, TOP)[:position]] + [tick, None]
                self.fails(InvalidHistory, {"position": position}, end_worth, record(), prices, history)

    def test_both_ways_of_being_wrong_at_once(self):
        history = [("put", (1,)), ("put", (9,)), ("take", (1,))]
        self.fails(InvalidHistory, {"position": 1}, worth, record(), Prices(OUT, IN), 3, history)
        turned = [history[0], history[2], history[1]]
        self.fails(InvalidHistory, {"position": 1}, worth, record(), Prices(OUT, IN), 3, turned)
        self.equal(worth(record(), Prices(OUT, IN), 9, history[:2]), 2 + 5 + 18 + 45)


if __name__ == "__main__":
    unittest.main()
