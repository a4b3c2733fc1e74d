"""[21] and heldranks/machines.py of the interface."""

import itertools
import unittest

from heldranks.errors import (
    InvalidCount, InvalidEnds, InvalidName, InvalidRows, InvalidTerms, TooMany, UnknownLetter, UnknownMode, WrongRow)
from heldranks.machines import Machine, Row
from heldranks.terms import End, Place
from tests.helpers import BOTTOM, HUGE, NOT_COUNTS, NOT_ENDS, NOT_LISTS, NOT_NAMES, TOP, Case

A, B, X, Y = Place("r0"), Place("r1"), Place("x0"), Place("x1")
LOW = End(BOTTOM)
NAMES = ["a", "z", "a1", "abcdefgh", "z0000009", "bottom", "r0"]


def grid(modes, letters, registers=0, inputs=0, outputs=1, more=()):
    """Return the rows of a machine with so many modes, letters, registers and outputs."""
    rows = {}
    for mode in modes:
        for letter in letters:
            rows[mode, letter] = Row(mode, [LOW] * registers, [LOW] * outputs)
    rows.update(more)
    return rows


def names(word, many):
    return [f"{word}{k:02}" for k in range(many)]


class Rows(Case):

    def test_parts(self):
        row = Row("on", [A, X], [A & X])
        self.equal(row.mode, "on")
        self.equal([part.name for part in row.registers], ["r0", "x0"])
        self.assertIsInstance(row.registers, tuple)
        self.assertEqual(row.outputs, (A & X,))
        self.equal([Row("on", (), []).registers, Row("on", [], ()).outputs], [(), ()])

    def test_names(self):
        for mode in NAMES:
            self.equal(Row(mode, [], []).mode, mode)
        for mode in NOT_NAMES:
            self.fails(InvalidName, {"value": mode}, Row, mode, None, None)

    def test_wrong_lists(self):
        for terms in NOT_LISTS + [A, [A, None], [True], ("r0",), [[A]], {"r0": A}]:
            self.fails(InvalidTerms, {"value": terms}, Row, "on", terms, [A])
            self.fails(InvalidTerms, {"value": terms}, Row, "on", [A], terms)
            self.fails(InvalidTerms, {"value": terms}, Row, "on", terms, None)

    def test_by_name(self):
        self.assertEqual(Row(outputs=[B], mode="on", registers=(A,)), Row("on", [A], (B,)))

    def test_copies(self):
        registers, outputs = [A], [B]
        row = Row("on", registers, outputs)
        registers.append(X)
        outputs[0] = X
        self.assertEqual(row, Row("on", [A], [B]))

    def test_equality(self):
        row = Row("on", [A], [B])
        for other in (Row("off", [A], [B]), Row("on", [B], [B]), Row("on", [A], [A]), Row("on", [A, B], []),
                      Row("on", [], [A, B]), ("on", (A,), (B,)), None, "on"):
            self.assertFalse(row == other)
            self.assertTrue(row != other)
        self.assertFalse(row != Row("on", [A], [B]))


class Making(Case):

    def test_parts(self):
        rows = {("on", "put"): Row("off", [A, X], [A | B]), ("off", "put"): Row("on", [B, A], [Y]),
                ("off", "get"): Row("off", [A, A], [X]), ("on", "get"): Row("on", [B, B], [LOW])}
        machine = Machine(rows, inputs=2, outputs=1, first="on", begin=[TOP, BOTTOM])
        self.equal([machine.modes, machine.letters], [["off", "on"], ["get", "put"]])
        self.equal([machine.registers, machine.inputs, machine.outputs], [2, 2, 1])
        self.equal([machine.first, machine.begin], ["on", (TOP, BOTTOM)])
        self.equal(list(machine.rows()), sorted(rows))
        for mode, letter in rows:
            self.assertEqual(machine.row_at(mode, letter), rows[mode, letter])
            self.assertEqual(machine.rows()[mode, letter], rows[mode, letter])

    def test_no_registers_and_no_inputs(self):
        machine = Machine({("a", "b"): Row("a", [], [LOW])}, inputs=0, outputs=1, first="a")
        self.equal([machine.registers, machine.inputs, machine.outputs, machine.begin], [0, 0, 1, ()])

    def test_lists_and_tuples_for_begin(self):
        for begin in ([TOP], (TOP,)):
            self.equal(Machine(grid(["a"], ["b"], 1), inputs=0, outputs=1, first="a", begin=begin).begin, (TOP,))

    def test_all_but_rows_by_name_only(self):
        with self.assertRaises(TypeError):
            Machine(grid(["a"], ["b"]), 0, 1, "a")
        machine = Machine(rows=grid(["a"], ["b"]), begin=(), first="a", outputs=1, inputs=0)
        self.equal(machine.modes, ["a"])

    def test_class_values(self):
        self.equal([Machine.MOST_MODES, Machine.MOST_LETTERS, Machine.MOST_REGISTERS, Machine.MOST_INPUTS,
                    Machine.MOST_OUTPUTS], [12, 3, 6, 2, 2])

    def test_copies(self):
        rows, begin = grid(["a"], ["b"], 1), [TOP]
        machine = Machine(rows, inputs=0, outputs=1, first="a", begin=begin)
        rows["c", "b"] = Row("c", [LOW], [A])
        rows["a", "b"] = Row("c", [LOW], [A])
        begin[0] = BOTTOM
        begin.append(TOP)
        self.equal([machine.modes, machine.begin], [["a"], (TOP,)])
        self.assertEqual(machine.rows(), grid(["a"], ["b"], 1))
        self.assertEqual(machine.row_at("a", "b"), Row("a", [LOW], [LOW]))

    def test_what_is_returned_is_new(self):
        machine = Machine(grid(["a"], ["b"]), inputs=0, outputs=1, first="a")
        machine.modes.append("c")
        machine.letters.append("c")
        machine.rows().clear()
        self.equal([machine.modes, machine.letters, list(machine.rows())], [["a"], ["b"], [("a", "b")]])

    def test_what_is_passed_stays(self):
        rows = {("on", "b"): Row("on", [], [LOW]), ("a", "b"): Row("a", [], [LOW])}
        Machine(rows, inputs=0, outputs=1, first="a")
        self.equal(list(rows), [("on", "b"), ("a", "b")])

    def test_the_order_of_the_keys_has_no_effect(self):
        rows = grid(["a", "b", "c"], ["x", "y"])
        other = {pair: rows[pair] for pair in reversed(list(rows))}
        self.equal(list(Machine(other, inputs=0, outputs=1, first="a").rows()),
                   list(Machine(rows, inputs=0, outputs=1, first="a").rows()))


class Wrong(Case):
    """Each error stands with all that are listed behind it."""

    def make(self, error, told, rows, inputs=0, outputs=1, first="a", begin=()):
        self.fails(error, told, Machine, rows, inputs=inputs, outputs=outputs, first=first, begin=begin)

    def test_rows(self):
        row = Row("a", [], [LOW])
        for rows in NOT_LISTS[:-1] + [[], [("a", "b"), row], row, {"a": row}, {("a",): row}, {("a", "b", "c"): row},
                                      {("a", "b"): None}, {("a", "b"): ("a", (), ())}, {1: row}, {"ab": row}]:
            self.make(InvalidRows, {"value": rows}, rows, None, None, None, None)
        for name in (True, None, 1, "", "A", "1a", "a_b", "abcdefghi", b"a", ("a",)):
            for pair in ((name, "b"), ("a", name)):
                rows = {("a", "b"): row, pair: row}
                self.make(InvalidRows, {"value": rows}, rows, None, None, None, None)

    def test_counts(self):
        rows = grid(["a"], ["b"])
        for value in NOT_COUNTS:
            self.make(InvalidCount, {"value": value}, rows, value, None, None, None)
            self.make(InvalidCount, {"value": value}, rows, 0, value, None, None)
        self.make(InvalidCount, {"value": 0}, rows, 0, 0, None, None)

    def test_first(self):
        rows = grid(["a", "m"], ["b"])
        for value in NOT_NAMES + ["b", "c", 0]:
            self.make(UnknownMode, {"value": value}, rows, 0, 1, value, None)

    def test_begin(self):
        wrong_rows = {("a", "b"): Row("c", [], [])}
        for value in [None, True, 0, TOP, BOTTOM, "", {}, {TOP: TOP}, b""]:
            self.make(InvalidEnds, {"value": value}, wrong_rows, begin=value)
        for end in NOT_ENDS:
            for begin in ([TOP, end], (end, BOTTOM), [end]):
                self.make(InvalidEnds, {"value": begin}, wrong_rows, begin=begin)

    def test_a_row_is_missing(self):
        rows = {("b", "x"): Row("b", [], [LOW]), ("a", "y"): Row("b", [], [LOW]), ("a", "x"): Row("a", [], [LOW])}
        self.make(WrongRow, {"value": ("b", "y")}, rows)
        del rows["a", "x"]
        self.make(WrongRow, {"value": ("a", "x")}, rows)

    def test_a_row_is_wrong(self):
        right = Row("a", [A], [X])
        self.equal(Machine(grid(["a", "b"], ["x", "y"], 1, more={("a", "x"): right}), inputs=1, outputs=1, first="a",
                           begin=[TOP]).registers, 1)
        wrong = {
            "next mode": Row("x", [A], [X]), "no registers": Row("a", [], [X]),
            "more registers": Row("a", [A, A], [X]), "no outputs": Row("a", [A], []),
            "more outputs": Row("a", [A], [X, X]), "a place for a register": Row("a", [A & (X | B)], [X]),
            "a place for an output": Row("a", [A], [X | B]), "an input for a register": Row("a", [Y], [X]),
            "an input for an output": Row("a", [A], [A & (A | Y)])}
        for why in wrong:
            for pair in itertools.product("ab", "xy"):
                with self.subTest(why=why, pair=pair):
                    rows = grid(["a", "b"], ["x", "y"], 1, more={pair: wrong[why]})
                    self.make(WrongRow, {"value": pair}, rows, inputs=1, begin=[TOP])

    def test_the_first_wrong_row_in_the_order_of_tuples(self):
        bad = Row("a", [], [LOW, LOW])
        pairs = [("b", "y"), ("b", "x"), ("a", "y"), ("a", "x")]
        for many in range(1, 5):
            rows = grid(["b", "a"], ["y", "x"], more={pair: bad for pair in pairs[:many]})
            self.make(WrongRow, {"value": pairs[many - 1]}, rows)
        missing = {("b", "x"): bad, ("a", "x"): Row("a", [], [LOW]), ("b", "y"): bad}
        self.make(WrongRow, {"value": ("a", "y")}, missing)

    def test_an_input_that_the_machine_does_not_have(self):
        self.make(WrongRow, {"value": ("a", "b")}, {("a", "b"): Row("a", [], [X])})

    def test_wrong_rows_ahead_of_limits(self):
        rows = grid(names("m", 13), list("abcd"), 7, outputs=3, more={("m12", "d"): Row("m12", [], [])})
        self.make(WrongRow, {"value": ("m12", "d")}, rows, 3, 3, "m00", [TOP] * 7)

    def test_limits(self):
        most = {"modes": 12, "letters": 3, "registers": 6, "inputs": 2, "outputs": 2}
        kinds = list(most)
        for many in range(1, 6):
            # The last so many kinds are one beyond their limits, and the first one of these is told.
            size = {kind: most[kind] + (place >= 5 - many) for place, kind in enumerate(kinds)}
            rows = grid(names("m", size["modes"]), list("abcd")[:size["letters"]], size["registers"],
                        outputs=size["outputs"])
            kind = kinds[5 - many]
            self.make(TooMany, {"kind": kind, "limit": most[kind]}, rows, size["inputs"], size["outputs"], "m00",
                      [TOP] * size["registers"])

    def test_one_kind_beyond_its_limit(self):
        for kind, limit in (("modes", 12), ("letters", 3), ("registers", 6), ("inputs", 2), ("outputs", 2)):
            size = {"modes": 1, "letters": 1, "registers": 0, "inputs": 0, "outputs": 1, kind: limit + 1}
            rows = grid(names("m", size["modes"]), list("abcd")[:size["letters"]], size["registers"],
                        outputs=size["outputs"])
            self.make(TooMany, {"kind": kind, "limit": limit}, rows, size["inputs"], size["outputs"], "m00",
                      [TOP] * size["registers"])
        self.make(TooMany, {"kind": "inputs", "limit": 2}, grid(["a"], ["b"]), HUGE)

    def test_at_the_limits(self):
        rows = grid(names("m", 12), list("abc"), 6, outputs=2)
        last = Row("m00", [Place(f"r{5 - k}") for k in range(6)], [X, Y])
        rows["m11", "c"] = last
        machine = Machine(rows, inputs=2, outputs=2, first="m11", begin=[TOP, BOTTOM] * 3)
        self.equal([len(machine.modes), len(machine.letters), machine.registers, machine.inputs, machine.outputs],
                   [12, 3, 6, 2, 2])
        self.assertEqual(machine.row_at("m11", "c"), last)


class RowAt(Case):

    def setUp(self):
        self.machine = Machine(grid(["a", "m"], ["b", "c"]), inputs=0, outputs=1, first="m")

    def test_by_name(self):
        self.assertEqual(self.machine.row_at(letter="c", mode="m"), Row("m", [], [LOW]))

    def test_an_unknown_mode_ahead_of_an_unknown_letter(self):
        for mode in NOT_NAMES + ["b", 0]:
            for letter in ("b", "x", None):
                self.fails(UnknownMode, {"value": mode}, self.machine.row_at, mode, letter)

    def test_an_unknown_letter(self):
        for letter in NOT_NAMES + ["a", "m", "d", 0]:
            self.fails(UnknownLetter, {"value": letter}, self.machine.row_at, "m", letter)


if __name__ == "__main__":
    unittest.main()
