"""What several test files share: wrong values, and plain models that know nothing of the package's ways."""

import random
import unittest

from heldranks.machines import Machine, Row
from heldranks.terms import End, Greater, Lesser, Place

BOTTOM = "bottom"
TOP = "top"
PLACES = ["r0", "r1", "r2", "r3", "r4", "r5", "x0", "x1"]
HUGE = 10 ** 60 - 1

NOT_INTEGERS = [True, False, None, "1", "bottom", "top", "", [], [1], (), (1,), {}, {1: 1}, b"1"]
NOT_COUNTS = NOT_INTEGERS + [-1, -HUGE]
NOT_VALUES = [True, False, None, "no bound", "Bottom", "TOP", "top ", "", "1", "r0", [], [1], (), (1,), ("top",),
              {}, {"r0": 1}, b"top"]
NOT_ENDS = NOT_VALUES + [0, 1, -1, HUGE]
NOT_NAMES = [True, None, 1, "", "A", "aB", "1a", "a_b", "a b", "a-", " a", "a ", "abcdefghi", "a\n", b"a", ["a"], ("a",),
             {}]
NOT_PLACES = [True, None, 0, "", "r6", "x2", "r", "x", "r00", "r-1", "R0", " r0", "r0 ", "y0", "top", b"r0", ["r0"],
              ("r0",), {"r0": 1}]
NOT_LISTS = [True, None, 0, 5, "put", "", {}, {"put": 1}, b"", {1}]


class Case(unittest.TestCase):
    """A test with a plain way to look at the error of a call."""

    def fails(self, error, told, function, *args, **kwargs):
        """Ask for an error of exactly this class, whose attributes are exactly these values."""
        with self.assertRaises(error) as caught:
            function(*args, **kwargs)
        self.assertIs(caught.exception.__class__, error)
        found = vars(caught.exception)
        self.assertEqual(sorted(found), sorted(told))
        for name in told:
            if isinstance(told[name], tuple) and told[name] == found[name]:
                self.assertEqual(kinds(found[name]), kinds(told[name]))
            else:
                self.assertIs(found[name], told[name])

    def equal(self, found, expected):
        """Ask for equal values of equal kinds, also inside: True is not 1, and a list is no tuple."""
        self.assertEqual(found, expected)
        self.assertEqual(kinds(found), kinds(expected))


def kinds(value):
    """Return the kinds of a value and of what is inside, in sequence."""
    if isinstance(value, (list, tuple)):
        return (value.__class__.__name__, [kinds(part) for part in value])
    if isinstance(value, dict):
        return ("dict", [(key, kinds(key), kinds(value[key])) for key in value])
    return value.__class__.__name__


def height(value):
    """Return a tuple by which values are ordered."""
    return {BOTTOM: (0, 0), TOP: (2, 0)}.get(value, (1, value))


def lowest(values):
    return sorted(values, key=height)[0]


def highest(values):
    return sorted(values, key=height)[-1]


def at(value, level):
    """Return a value at a level."""
    return TOP if value == TOP or (value != BOTTOM and value >= level) else BOTTOM


def value_of(term, values):
    """Return the value of a term."""
    if isinstance(term, Place):
        return values[term.name]
    if isinstance(term, End):
        return term.end
    parts = [value_of(part, values) for part in term.parts]
    return lowest(parts) if isinstance(term, Lesser) else highest(parts)


def all_sets(places):
    """Return all sets of places, as sorted tuples, those with fewer places first."""
    found = [()]
    for name in sorted(places):
        found = found + [chosen + (name,) for chosen in found]
    return sorted(found, key=lambda chosen: (len(chosen), chosen))


def form_by_search(term):
    """Return the form of a term, by looking at all sets of all places."""
    found = []
    for chosen in all_sets(term.places()):
        if any(set(smaller) <= set(chosen) for smaller in found):
            continue
        if value_of(term, {name: TOP if name in chosen else BOTTOM for name in PLACES}) == TOP:
            found.append(chosen)
    return found


def plain_run(machine, history):
    """Return the outputs of all ticks and the modes and registers behind them, with those before the first one."""
    mode, registers = machine.first, tuple(machine.begin)
    rows = machine.rows()
    outputs, states = [], [(mode, registers)]
    for letter, values in history:
        given = {f"r{k}": value for k, value in enumerate(registers)}
        given.update({f"x{k}": value for k, value in enumerate(values)})
        row = rows[mode, letter]
        outputs.append(tuple(value_of(term, given) for term in row.outputs))
        mode, registers = row.mode, tuple(value_of(term, given) for term in row.registers)
        states.append((mode, registers))
    return outputs, states


def some_term(rng, places, depth):
    """Return a term over these places of at most this depth."""
    if depth == 0 or rng.random() < 0.2:
        return End(rng.choice([BOTTOM, TOP])) if rng.random() < 0.15 else Place(rng.choice(places))
    parts = [some_term(rng, places, depth - 1) for _ in range(rng.randint(2, 4))]
    return rng.choice([Lesser, Greater])(*parts)


def some_value(rng):
    """Return a value: an END, a small number, which are often equal, or one of sixty digits."""
    return rng.choice([BOTTOM, TOP, 0, 1, 2, 3, -1, -2, HUGE, -HUGE, HUGE - rng.randint(0, 2)])


def some_machine(rng, inputs, registers, outputs, modes=3, letters=2):
    """Return a machine with rows by chance."""
    names = ["m%d" % k for k in range(modes)]
    words = ["a", "b", "c"][:letters]
    places = PLACES[:registers] + PLACES[6:6 + inputs]
    rows = {}
    for mode in names:
        for letter in words:
            if places:
                terms = [some_term(rng, places, 2) for _ in range(registers + outputs)]
            else:
                terms = [End(rng.choice([BOTTOM, TOP])) for _ in range(outputs)]
            rows[mode, letter] = Row(rng.choice(names), terms[:registers], terms[registers:])
    begin = [rng.choice([BOTTOM, TOP]) for _ in range(registers)]
    return Machine(rows, inputs=inputs, outputs=outputs, first=rng.choice(names), begin=begin)


def some_machines(seed, many):
    """Return machines of all numbers of inputs, outputs and registers, one after the other."""
    rng = random.Random(seed)
    return [some_machine(rng, k % 3, k % 5, 1 + k % 2, 1 + k % 4, 1 + k % 3) for k in range(many)]


def some_history(rng, machine, ticks, value=some_value):
    """Return a history of a machine with values by chance."""
    return [(rng.choice(machine.letters), tuple(value(rng) for _ in range(machine.inputs))) for _ in range(ticks)]


def some_end(rng):
    return rng.choice([BOTTOM, TOP])


def two_inputs():
    """Return a machine with two inputs, one register and two outputs: it tells the lesser and the greater one."""
    low, high = Place("x0") & Place("x1"), Place("x0") | Place("x1")
    rows = {("on", "go"): Row("on", [Place("r0") | high], [low, high]),
            ("on", "tell"): Row("on", [Place("r0")], [Place("r0"), End(TOP)])}
    return Machine(rows, inputs=2, outputs=2, first="on", begin=[BOTTOM])


def without_inputs():
    """Return a machine without registers and inputs, whose output changes at each tick."""
    rows = {("even", "go"): Row("odd", [], [End(BOTTOM)]), ("odd", "go"): Row("even", [], [End(TOP)])}
    return Machine(rows, inputs=0, outputs=1, first="even")


def counter(registers, modes):
    """Return a machine with all end states of so many registers reached, in so many modes."""
    rows = {}
    for k in range(modes):
        shifted = [Place("x0")] + [Place(f"r{j}") for j in range(registers - 1)]
        rows[f"m{k}", "go"] = Row(f"m{(k + 1) % modes}", shifted[:registers], [Place("x0")])
    return Machine(rows, inputs=1, outputs=1, first="m0", begin=[BOTTOM] * registers)


def left_counter(registers, modes):
    """Return a counter that can be left for one more mode, which has one end state only."""
    rows = counter(registers, modes).rows()
    last = Row("left", [End(BOTTOM)] * registers, [End(BOTTOM)])
    for k in range(modes):
        rows[f"m{k}", "leave"] = last
    rows["left", "go"] = rows["left", "leave"] = last
    return Machine(rows, inputs=1, outputs=1, first="m0", begin=[BOTTOM] * registers)
