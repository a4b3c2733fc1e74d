"""[93], [13], [21] and heldranks/texts.py of the interface."""

import random
import unittest

from heldranks.errors import InvalidMachine, InvalidText
from heldranks.joined import after, beside, looped
from heldranks.machines import Machine, Row
from heldranks.makers import best, line, pile, ranked, recent, record
from heldranks.terms import End, Greater, Lesser, Place, kth
from heldranks.texts import machine_text, read_machine, read_term
from tests.helpers import (
    BOTTOM, NOT_NAMES, NOT_PLACES, PLACES, TOP, Case, counter, some_machines, some_term, two_inputs, without_inputs)
from tests.search import NOT_MACHINES, disguised

NO_TEXTS = [None, True, 0, 5, b"top", ["top"], ("inputs 1",), {}, {"r0": 1}, Place("r0")]
SIGNS = " \nabcxyz0123456789r&|(),-_~AZ\"'.:;!"


def text_by_rows(machine):
    """Return the text of a machine, written from its rows, with the texts of terms by str."""
    lines = [f"inputs {machine.inputs} outputs {machine.outputs} first {machine.first}"]
    lines.append("begin" + "".join(" " + end for end in machine.begin))
    for mode in sorted(machine.modes):
        for letter in sorted(machine.letters):
            row = machine.row_at(mode, letter)
            kept = " keep " + ", ".join(str(term) for term in row.registers) if row.registers else ""
            lines.append(f"{mode} {letter} go {row.mode}{kept} tell " + ", ".join(str(term) for term in row.outputs))
    return "\n".join(lines) + "\n"


def parts_of(machine):
    return {pair: (row.mode, row.registers, row.outputs) for pair, row in machine.rows().items()}


def sample():
    made = [line(3), pile(2), ranked(3), best(2), recent(3, 2), record(), two_inputs(), without_inputs(), counter(6, 12)]
    made += [after(recent(2, 1), recent(3, 2)), beside(best(1), recent(2, 2)), looped(two_inputs(), 0, 1, TOP)]
    return some_machines(921, 40) + made


TEXT = """inputs 1 outputs 2 first on
begin bottom top
off go go on keep r1, (r0 & x0) | bottom tell x0, top
off stop go off keep r0, r1 tell (r0 | r1) & x0, r0
on go go off keep x0, r0 tell r1, r0 | r1 | x0
on stop go on keep r0 & r1 & x0, top tell bottom, r0
"""


class MachineTexts(Case):

    def test_to_the_character(self):
        rows = {("on", "put"): Row("on", [Place("r0") | Place("x0")], [Place("r0") | Place("x0")]),
                ("on", "reset"): Row("off", [End(BOTTOM)], [(Place("r0") & Place("x0")) | Place("r0") | End(TOP)]),
                ("off", "put"): Row("on", [Place("r0")], [Lesser(Place("r0"), Greater(Place("x0"), Place("r0")))]),
                ("off", "reset"): Row("off", [Place("x0")], [Place("r0") & (Place("r0") & Place("x0"))])}
        machine = Machine(rows, inputs=1, outputs=1, first="on", begin=[BOTTOM])
        self.equal(machine_text(machine), "inputs 1 outputs 1 first on\nbegin bottom\n"
                   "off put go on keep r0 tell r0 & (x0 | r0)\n"
                   "off reset go off keep x0 tell r0 & (r0 & x0)\n"
                   "on put go on keep r0 | x0 tell r0 | x0\n"
                   "on reset go off keep bottom tell ((r0 & x0) | r0) | top\n")

    def test_without_registers_and_inputs(self):
        self.equal(machine_text(machine=without_inputs()), "inputs 0 outputs 1 first even\nbegin\n"
                   "even go go odd tell bottom\nodd go go even tell top\n")

    def test_against_rows(self):
        for machine in sample():
            self.equal(machine_text(machine), text_by_rows(machine))

    def test_read_back(self):
        rng = random.Random(922)
        for machine in sample() + [disguised(rng, two_inputs())]:
            text = machine_text(machine)
            found = read_machine(text)
            self.assertIs(found.__class__, Machine)
            self.assertEqual(parts_of(found), parts_of(machine))
            self.equal([found.inputs, found.outputs, found.first, found.begin, found.modes, found.letters],
                       [machine.inputs, machine.outputs, machine.first, machine.begin, machine.modes, machine.letters])
            self.equal(machine_text(read_machine(text=text)), text)

    def test_words_of_the_text_as_names(self):
        names = ["go", "keep", "tell", "inputs", "begin", "first", "bottom", "top", "r0", "x0"]
        rows = {}
        for k, mode in enumerate(names):
            for letter in ("tell", "keep", "go"):
                rows[mode, letter] = Row(names[k - 1], [Place("r0")], [Place("x0"), End(TOP)])
        machine = Machine(rows, inputs=1, outputs=2, first="tell", begin=[TOP])
        self.equal(machine_text(machine), text_by_rows(machine))
        self.assertEqual(parts_of(read_machine(machine_text(machine))), rows and parts_of(machine))

    def test_a_text_that_is_given(self):
        found = read_machine(TEXT)
        self.equal(machine_text(found), TEXT)
        self.equal([found.inputs, found.outputs, found.registers, found.first], [1, 2, 2, "on"])
        self.assertEqual(found.row_at("off", "go").registers[1], Greater(Lesser(Place("r0"), Place("x0")), End(BOTTOM)))

    def test_values_that_are_no_machines(self):
        for value in NOT_MACHINES:
            self.fails(InvalidMachine, {"value": value}, machine_text, value)


class Spoilt(Case):

    def wrong(self, text, line):
        self.fails(InvalidText, {"line": line}, read_machine, text)

    def lines(self):
        return TEXT.split("\n")[:-1]

    def with_line(self, number, line):
        lines = self.lines()
        lines[number - 1] = line
        return "".join(part + "\n" for part in lines)

    def test_no_strings(self):
        for value in NO_TEXTS + [self.lines()]:
            self.wrong(value, None)

    def test_lines_left_out(self):
        self.wrong("", 1)
        lines = self.lines()
        for many in range(1, 6):
            self.wrong("".join(line + "\n" for line in lines[:many]), many + 1)
        for k in range(2, 6):
            self.wrong("".join(line + "\n" for line in lines[:k] + lines[k + 1:]), 6)
        self.wrong("".join(line + "\n" for line in lines[1:]), 1)
        self.wrong("".join(line + "\n" for line in lines[:1] + lines[2:]), 2)

    def test_lines_doubled_and_moved(self):
        lines = self.lines()
        for k in range(2, 6):
            self.wrong("".join(line + "\n" for line in lines[:k] + lines[k:k + 1] + lines[k:]), 8)
            self.wrong("".join(line + "\n" for line in lines + lines[k:k + 1]), 8)
        for k in range(2, 5):
            self.wrong("".join(line + "\n" for line in lines[:k] + [lines[k + 1], lines[k]] + lines[k + 2:]), 7)
        self.wrong("".join(line + "\n" for line in [lines[1], lines[0]] + lines[2:]), 1)
        self.wrong("".join(line + "\n" for line in lines[:1] + lines[:1] + lines[1:]), 2)
        self.wrong("".join(line + "\n" for line in lines[:2] + lines[1:]), 3)
        self.wrong("".join(line + "\n" for line in lines[:1] + [lines[2], lines[1]] + lines[3:]), 2)

    def test_line_feeds(self):
        self.wrong(TEXT[:-1], 6)
        self.wrong(TEXT + "\n", 7)
        self.wrong("\n" + TEXT, 1)
        self.wrong(TEXT + " ", 7)
        self.wrong(TEXT + "on", 7)
        self.wrong(TEXT.replace("\n", ""), 1)
        self.wrong("\n", 1)
        lines = self.lines()
        for k in range(1, 6):
            self.wrong("\n".join(lines[:k]), k)
            self.wrong("".join(line + "\n" for line in lines[:k] + [""] + lines[k:]), k + 1)
        # The first line that is wrong counts, not the one at the end.
        self.wrong(self.with_line(4, "")[:-1], 4)

    def test_heads(self):
        for line in ("inputs 01 outputs 2 first on", "inputs +1 outputs 2 first on", "inputs -1 outputs 2 first on",
                     "inputs 1 outputs 02 first on", "inputs 1 outputs -2 first on", "inputs -0 outputs 2 first on",
                     "inputs 00 outputs 2 first on", "inputs  1 outputs 2 first on", " inputs 1 outputs 2 first on",
                     "inputs 1 outputs 2 first on ", "inputs 1 outputs 2 first", "inputs 1 outputs 2 first ",
                     "inputs 1 outputs 2 first on off", "inputs one outputs 2 first on", "inputs outputs 2 first on",
                     "outputs 2 inputs 1 first on", "Inputs 1 outputs 2 first on", "inputs 1 outputs 2 first On",
                     "inputs 1 outputs 2 first 1on", "inputs 1 outputs 2 first o_n", "inputs 1 outputs 2 first toolong99",
                     "inputs 1_0 outputs 2 first on", "inputs 1, outputs 2, first on", "inputs 1 outputs 2 last on",
                     "inputs 1 outputs  first on", "inputs - outputs 2 first on"):
            self.wrong(self.with_line(1, line), 1)
        for line in ("inputs 0 outputs 2 first on", "inputs 2 outputs 1 first on", "inputs 1 outputs 3 first on",
                     "inputs 1 outputs 0 first on", "inputs 3 outputs 2 first on", "inputs 99 outputs 2 first on",
                     "inputs 1 outputs 2 first none", "inputs 1 outputs 2 first go", f"inputs {10 ** 60} outputs 2 first on",
                     "inputs " + "9" * 6000 + " outputs 2 first on", "inputs 1 outputs " + "1" * 6000 + " first on"):
            self.wrong(self.with_line(1, line), 7)
        # A place that a machine has not is no wrong line.
        self.wrong(self.with_line(1, "inputs 0 outputs 2 first on"), 7)
        self.equal(read_machine(self.with_line(1, "inputs 2 outputs 2 first off")).inputs, 2)

    def test_begins(self):
        for line in ("begin bottom  top", "begin  bottom top", "begin bottom top ", " begin bottom top", "Begin bottom top",
                     "begin bottom, top", "begin bottom r0", "begin bottom TOP", "begin bottom 0", "bottom top", "begin ",
                     "", "begins bottom top", "begin(bottom top)", "beginbottom top"):
            self.wrong(self.with_line(2, line), 2)
        for line in ("begin", "begin top", "begin bottom top top", "begin" + " top" * 7):
            self.wrong(self.with_line(2, line), 7)
        self.equal(read_machine(self.with_line(2, "begin top top")).begin, (TOP, TOP))

    def test_rows(self):
        for line in ("off stop go off keep r0, r1", "off stop go off tell", "off stop go off tell ", "off stop go off keep",
                     "off stop go off keep tell r0, r1", "off stop go off keep  tell r0, r1", "off stop go off",
                     "off stop go off keep r0, r1 tell", "off stop go off keep r0, r1 tell ", "off stop off keep r0 tell r0",
                     "off stop go off keep r0,r1 tell r0, r1", "off stop go off keep r0 r1 tell r0, r1",
                     "off stop go off keep r0, r1, tell r0, r1", "off stop go off keep r0, r1  tell r0, r1",
                     "off stop go off keep r0, r1 tell r0,  r1", "off stop go off keep r0, r1 tell , r1",
                     "off stop go off keep r0, r6 tell r0, r1", "off stop go off keep r0, x2 tell r0, r1",
                     "off stop go off keep r0, (r1) tell r0, r1", "off stop go off keep r0, r1 & r0 | x0 tell r0, r1",
                     "off stop go off keep r0, (r1 & r0) tell r0, r1", "off stop go off keep r0, r1 tell r0, r1 ",
                     "off  stop go off keep r0, r1 tell r0, r1", " off stop go off keep r0, r1 tell r0, r1",
                     "off stop gone off keep r0, r1 tell r0, r1", "off stop go keep r0, r1 tell r0, r1",
                     "off stop go off keeps r0, r1 tell r0, r1", "off stop go off tell r0, r1 keep r0, r1",
                     "off stop go off keep r0, r1 tell r0, r1 tell r0", "off stop go off keep r0, r1 keep r0 tell r0, r1",
                     "off stop go off r0, r1 tell r0, r1", "Off stop go off keep r0, r1 tell r0, r1",
                     "off sto-p go off keep r0, r1 tell r0, r1", "off stop go 0ff keep r0, r1 tell r0, r1",
                     "off stop go toolong99 keep r0, r1 tell r0, r1", "off stop go off\tkeep r0, r1 tell r0, r1"):
            self.wrong(self.with_line(4, line), 4)

    def test_rows_of_another_machine(self):
        for line in ("off stop go off tell r0, r1", "off stop go off keep r0 tell r0, r1", "off stop go none keep r0, r1 tell r0, r1",
                     "off stop go off keep r0, r1, r1 tell r0, r1", "off stop go off keep r0, r1 tell r0",
                     "off stop go off keep r0, r1 tell r0, r1, r0", "off stop go off keep r0, r2 tell r0, r1",
                     "off stop go off keep r0, x1 tell r0, r1", "on stop go off keep r0, r1 tell r0, r1",
                     "off other go off keep r0, r1 tell r0, r1", "new stop go off keep r0, r1 tell r0, r1",
                     "off go go off keep r0, r1 tell r0, r1"):
            self.wrong(self.with_line(4, line), 7)

    def test_beyond_the_limits(self):
        def many(modes, letters, registers, inputs, outputs):
            places = [f"r{k}" for k in range(registers)]
            kept = f" keep {', '.join(places)}" if places else ""
            told = ", ".join(["top"] * outputs)
            names = sorted(f"m{k}" for k in range(modes))
            lines = [f"inputs {inputs} outputs {outputs} first m0", " ".join(["begin"] + ["top"] * registers)]
            return lines + [f"{name} a{k} go m0{kept} tell {told}" for name in names for k in range(letters)]

        for sizes in ((12, 3, 6, 2, 2), (1, 1, 0, 0, 1), (1, 1, 6, 0, 2)):
            text = "".join(line + "\n" for line in many(*sizes))
            self.equal(machine_text(read_machine(text)), text)
        for sizes in ((13, 1, 1, 1, 1), (1, 4, 1, 1, 1), (1, 1, 1, 3, 1), (1, 1, 1, 1, 3), (1, 1, 1, 1, 0)):
            lines = many(*sizes)
            if sizes[4] == 0:
                lines[2] = "m0 a0 go m0 keep r0 tell top"
            self.wrong("".join(line + "\n" for line in lines), len(lines) + 1)
        # A seventh register has no place, but it can have an END for its term.
        self.wrong("inputs 0 outputs 1 first m\nbegin" + " top" * 7 + "\nm a go m keep " + ", ".join(["top"] * 7)
                   + " tell top\n", 4)

    def test_a_character_more_or_less_or_otherwise(self):
        rng = random.Random(923)
        met = set()
        for machine in sample()[:12] + sample()[-6:]:
            text = machine_text(machine)
            for _ in range(60):
                k = rng.randrange(len(text))
                other = rng.choice([text[:k] + text[k + 1:], text[:k] + rng.choice(SIGNS) + text[k:],
                                    text[:k] + rng.choice(SIGNS) + text[k + 1:]])
                if other == text:
                    continue
                expected = wrong_line(other)
                met.add(expected if expected is None or expected < 3 else 3)
                if expected is None:
                    self.equal(machine_text(read_machine(other)), other)
                else:
                    self.wrong(other, expected)
        self.assertEqual(met, {None, 1, 2, 3})


def wrong_line(text):
    """Return the wrong line of a text, by forms of lines and terms of the test's own; None if there is none."""
    pieces = text.split("\n")
    lines = [piece + "\n" for piece in pieces[:-1]] + ([pieces[-1]] if pieces[-1] else [])
    for number, line in enumerate(lines, 1):
        if not line.endswith("\n") or not has_form(number, line[:-1]):
            return number
    try:
        told = plain_machine(lines)
    except (LookupError, ValueError):
        return len(lines) + 1
    return None if text_by_rows(told) == text else len(lines) + 1


def is_name(word):
    return word not in NOT_NAMES and 1 <= len(word) <= 8 and word.isascii() and word.isalnum() and word == word.lower() \
        and word[0].isalpha()


def is_number(word):
    return word.isascii() and word.isdigit() and (word == "0" or word[0] != "0")


def has_form(number, line):
    words = line.split(" ")
    if number == 1:
        return len(words) == 6 and words[0] == "inputs" and words[2] == "outputs" and words[4] == "first" and is_number(
            words[1]) and is_number(words[3]) and is_name(words[5])
    if number == 2:
        return words[0] == "begin" and all(word in (BOTTOM, TOP) for word in words[1:])
    if len(words) < 6 or words[2] != "go" or not all(is_name(word) for word in (words[0], words[1], words[3])):
        return False
    rest = line[len(" ".join(words[:4])):]
    if rest.startswith(" keep "):
        kept, mark, rest = rest[6:].partition(" tell ")
        return bool(mark) and all(parsed(text) for text in kept.split(", ") + rest.split(", "))
    return rest.startswith(" tell ") and all(parsed(text) for text in rest[6:].split(", "))


def parsed(text):
    """Return the Term of a text, or None: the sign outside of all parentheses tells what it is."""
    if text in PLACES:
        return Place(text)
    if text in (BOTTOM, TOP):
        return End(text)
    depth, pieces, signs, last = 0, [], [], 0
    for k, sign in enumerate(text):
        depth += (sign == "(") - (sign == ")")
        if depth == 0 and text[k:k + 3] in (" & ", " | "):
            pieces.append(text[last:k])
            signs.append(text[k + 1])
            last = k + 3
    pieces.append(text[last:])
    if len(set(signs)) != 1:
        return None
    parts = []
    for piece in pieces:
        inner = parsed(piece[1:-1]) if piece[:1] == "(" and piece[-1:] == ")" else parsed(piece)
        if inner is None or (inner.depth > 0) != (piece[:1] == "("):
            return None
        parts.append(inner)
    return Lesser(*parts) if signs[0] == "&" else Greater(*parts)


def plain_machine(lines):
    """Return the Machine of lines that have the right forms; some error if there is none."""
    head, begin = lines[0].split(), lines[1].split()[1:]
    rows = {}
    for line in lines[2:]:
        words = line[:-1].split(" ")
        rest = " " + " ".join(words[4:])
        kept = ""
        if rest.startswith(" keep "):
            kept, _, rest = rest[6:].partition(" tell ")
            rest = " tell " + rest
        rows[words[0], words[1]] = Row(words[3], [parsed(text) for text in kept.split(", ")] if kept else [],
                                       [parsed(text) for text in rest[6:].split(", ")])
    return Machine(rows, inputs=int(head[1]), outputs=int(head[3]), first=head[5], begin=begin)


class TermTexts(Case):

    def test_read_back(self):
        rng = random.Random(924)
        terms = [some_term(rng, PLACES, depth) for depth in range(6) for _ in range(40)]
        terms += [kth(2, *[Place(name) for name in PLACES[:5]]), Place("x1"), End(TOP), End(BOTTOM)]
        for term in terms:
            found = read_term(str(term))
            self.assertEqual(found, term)
            self.equal(repr(found), repr(term))
            self.equal(str(read_term(text=str(term))), str(term))

    def test_terms(self):
        r0, r1, x0 = Place("r0"), Place("r1"), Place("x0")
        for text, term in (("(r0 & x0) | r1 | top", Greater(r0 & x0, r1, End(TOP))), ("r0", r0), ("bottom", End(BOTTOM)),
                           ("r0 & (r1 & x0)", r0 & (r1 & x0)), ("(r0 & r1) & x0", (r0 & r1) & x0),
                           ("r0 & r1 & x0", Lesser(r0, r1, x0)), ("((r0 | r1) & x0) | r0", ((r0 | r1) & x0) | r0),
                           ("r0 | (r1 & (x0 | r0))", r0 | (r1 & (x0 | r0))), ("r0 | r0", r0 | r0)):
            self.assertEqual(read_term(text), term)

    def test_spoilt(self):
        rng = random.Random(925)
        met = set()
        for _ in range(1500):
            text = str(some_term(rng, PLACES, rng.randint(0, 3)))
            k = rng.randrange(len(text))
            other = rng.choice([text[:k] + text[k + 1:], text[:k] + rng.choice(SIGNS) + text[k:],
                                text[:k] + rng.choice(SIGNS) + text[k + 1:]])
            expected = parsed(other)
            met.add(expected is None)
            if expected is None:
                self.fails(InvalidText, {"line": 1}, read_term, other)
            else:
                self.assertEqual(read_term(other), expected)
        self.assertEqual(met, {True, False})

    def test_wrong_texts(self):
        places = [name for name in NOT_PLACES if isinstance(name, str) and name != "top"]
        for text in places + ["", " ", "()", "(r0)", "(top)", "(r0 & r1)", "((r0 & r1) | x0)", "r0 &", "r0 & ", "& r0",
                              "r0 & & r1", "r0 r1", "r0  & r1", "r0 &  r1", "r0& r1", "r0 &r1", "r0&r1", "r0 & r1 | x0",
                              "r0 | r1 & x0", "((r0 & r1)) | x0", "(r0 & r1 | x0", "r0 & r1) | x0", "(r0) & r1", "r0 & (r1)",
                              "(r0 & r1)(r1 | x0)", "(r0 & r1) (r1 | x0)", "( r0 & r1) | x0", "(r0 & r1 ) | x0",
                              "r0 & r1\n", "r0\n", "\nr0", "r0 and r1", "r0 && r1", "r0, r1", "Lesser(r0, r1)", "BOTTOM",
                              "Top", "r0 & 5", "5", "r0 ^ r1", "(", ")", "(" * 5000, ")" * 5000, "(r0 & " * 3000 + "r1",
                              "r0 | (r1", "r0 | r1)", ")r0 | r1("]:
            self.fails(InvalidText, {"line": 1}, read_term, text)

    def test_no_strings(self):
        for value in NO_TEXTS:
            self.fails(InvalidText, {"line": None}, read_term, value)


if __name__ == "__main__":
    unittest.main()
