"""[95] and heldranks/desk.py of the interface."""

import random
import unittest

from heldranks.ages import greatest_age
from heldranks.charts import Chart
from heldranks.desk import Desk
from heldranks.errors import (
    InvalidCommand, InvalidCount, InvalidHistory, NameTaken, NothingToUndo, OtherShape, TooMany, UnknownName)
from heldranks.forgetting import past_ticks
from heldranks.joined import after, beside, looped
from heldranks.makers import best, line, pile, ranked, recent, record
from heldranks.needed import needed
from heldranks.pairs import are_alike, is_at_most
from heldranks.rows import most_needed
from heldranks.runs import outputs_of
from tests.helpers import BOTTOM, HUGE, NOT_LISTS, TOP, Case

MADE = ["make a recent 3 1", "make b best 1", "make c line 2", "make d record", "history h", "tick h put 9",
        "tick h put 2", "history g", "tick g go 1 -2", "tick g stop"]


def made():
    """Return a desk with machines a to d and histories h and g."""
    desk = Desk()
    desk.do_all(MADE)
    return desk


class DeskCase(Case):

    def fails(self, error, told, function, *args):
        """Ask for an error of exactly this class with equal values: words of a command are new strings."""
        with self.assertRaises(error) as caught:
            function(*args)
        self.assertIs(caught.exception.__class__, error)
        self.equal(vars(caught.exception), told)


class Commands(DeskCase):

    def test_makers(self):
        desk = Desk()
        machines = {"l": line(2), "p": pile(3), "r": ranked(1), "b": best(2), "k": recent(3, 2), "n": record()}
        words = ["make l line 2", "make p pile 3", "make r ranked 1", "make b best 2", "make k recent 3 2", "make n record"]
        self.equal([desk.do(command) for command in words], ["done"] * 6)
        for name, machine in machines.items():
            age = greatest_age(machine)
            self.equal(desk.do(f"age {name}"), "never" if age is None else str(age))
            self.equal(desk.do(command=f"past {name}"), str(past_ticks(machine)))
            self.equal(desk.do(f"held {name}"), str(most_needed(Chart.of_machine(machine))))
            for other in machines:
                if machine.letters == machines[other].letters and machine.outputs == machines[other].outputs:
                    self.equal(desk.do(f"alike {name} {other}"), "yes" if name == other else (
                        "yes" if are_alike(machine, machines[other]) else "no"))
        self.equal(desk.names(), sorted(machines))

    def test_histories(self):
        desk = Desk()
        self.equal(desk.do_all(["make m record", "history h", "run m h", "needed m h"]), ["done", "done", "-", "-"])
        ticks, values = [], [3, -5, 0, HUGE, -HUGE, BOTTOM, TOP, 7]
        for value in values:
            self.equal(desk.do(f"tick h put {value}"), "done")
            ticks.append(("put", (value,)))
            told = outputs_of(record(), ticks)[-1]
            self.equal(desk.do("run m h"), str(told[0]))
            self.equal(desk.do("needed m h"), " ".join(str(cell) for cell in needed(record(), ticks)) or "-")
        self.equal(desk.do_all(["tick h reset -1", "run m h", "needed m h"]), ["done", "bottom", "-"])

    def test_several_values(self):
        desk = made()
        desk.do_all(["make two best 2", "run two h", "needed two h", "needed a h", "run a h"])
        self.equal(desk.tried(["make two2 best 2", "run two2 h", "needed two2 h", "needed a h", "run a h"]),
                   ["done", "9 2", "9 2", "9 2", "9"])
        self.equal(desk.do_all(["tick h put top", "run two h", "needed two h", "tick h put bottom", "run two h"]),
                   ["done", "top 9", "9", "done", "top 9"])

    def test_joined(self):
        desk = made()
        desk.do_all(["after ab a b", "beside both a b", "looped around a 0 0 top", "after twice a a"])
        self.equal([desk.do("alike ab twice"), desk.do("most twice ab"), desk.do("most ab twice")],
                   ["yes" if are_alike(after(recent(3, 1), best(1)), after(recent(3, 1), recent(3, 1))) else "no",
                    "yes" if is_at_most(after(recent(3, 1), recent(3, 1)), after(recent(3, 1), best(1))) else "no", "no"])
        ticks = [("put", (9,)), ("put", (2,))]
        for name, machine in (("ab", after(recent(3, 1), best(1))), ("both", beside(recent(3, 1), best(1)))):
            self.equal(desk.do(f"run {name} h"), " ".join(str(value) for value in outputs_of(machine, ticks)[-1]))
        desk.do_all(["history none", "tick none put", "tick none put"])
        self.equal(desk.do("run around none"), str(outputs_of(looped(recent(3, 1), 0, 0, TOP), [("put", ())] * 2)[-1][0]))
        self.equal([desk.do("age around"), desk.do("age b"), desk.do("past a")], ["never", "no bound", "2"])

    def test_made_again_at_a_desk(self):
        # What is joined at a desk has the rows that the functions give.
        desk = made()
        desk.do_all(["after ab a b", "beside both a b", "looped around a 0 0 top"])
        for name, machine in (("ab", after(recent(3, 1), best(1))), ("both", beside(recent(3, 1), best(1))),
                              ("around", looped(recent(3, 1), 0, 0, TOP)), ("a", recent(3, 1)), ("c", line(2))):
            self.equal([desk.do(f"held {name}"), desk.do(f"past {name}")],
                       [str(most_needed(Chart.of_machine(machine))), str(past_ticks(machine))])

    def test_drop(self):
        desk = made()
        held = desk.tried(["after x a b", "held x"])[1]
        self.equal(desk.do_all(["after e a b", "drop a", "held e", "drop h", "make h record", "held h", "history a",
                                "tick a put 3", "run h a"]), ["done", "done", held, "done", "done", "1", "done", "done", "3"])
        self.equal(desk.names(), ["a", "b", "c", "d", "e", "g", "h"])

    def test_ticks_of_no_machine(self):
        desk = made()
        self.equal(desk.do("tick g other 1 2 3 4 5"), "done")
        self.fails(InvalidHistory, {"position": 0}, desk.do, "run a g")
        self.fails(InvalidHistory, {"position": 0}, desk.do, "needed a g")
        desk.do_all(["history f", "tick f put 3", "tick f put", "tick f put 4"])
        self.fails(InvalidHistory, {"position": 1}, desk.do, "run a f")


class NoCommands(DeskCase):

    def refused(self, desk, value):
        before = (desk.names(), desk.log())
        self.fails(InvalidCommand, {"value": value}, desk.do, value)
        self.fails(InvalidCommand, {"value": value}, desk.do_all, ["history new", value, "drop none"])
        self.fails(InvalidCommand, {"value": value}, desk.tried, [value])
        self.equal((desk.names(), desk.log()), before)

    def test_no_strings(self):
        for value in [None, True, 0, [], ["history", "x"], ("history x",), {}, b"history x", {"history x": 1}]:
            self.refused(made(), value)

    def test_words(self):
        desk = made()
        words = ["", " ", "undo", "log", "names", "done", "make", "make x", "make x line", "make x record 1",
                 "make x recent 3", "make x recent 3 1 1", "make x line 1 2", "make x other 1", "make x Line 1", "make line 1",
                 "make x after a b", "makes x line 1", "Make x line 1", "after x a", "after x a b c", "after x", "beside x a",
                 "looped x a 0 0", "looped x a 0 0 top top", "looped x a 0 top 0", "looped x a top 0 0", "looped x a 0 0 5",
                 "looped x a 0 0 TOP", "looped x a 0 0 none", "history", "history x y", "tick", "tick h", "drop", "drop a b",
                 "alike a", "alike a b c", "alike", "most a", "most a b h", "run a", "run a h h", "needed a", "needed a h 1",
                 "held", "held a a", "age", "age a put", "past", "past a 1", "tick h 5 5", "tick h put x0", "tick h put TOP",
                 "tick h put 5,", "tick h put 5 6a", "forget h"]
        for value in words:
            self.refused(desk, value)

    def test_spaces(self):
        desk = made()
        for command in ("history x", "tick h put 5", "alike a b", "make x recent 3 1", "looped x a 0 0 top", "drop a"):
            self.refused(desk, " " + command)
            self.refused(desk, command + " ")
            self.refused(desk, command + "\n")
            self.refused(desk, "\n" + command)
            for k, sign in enumerate(command):
                if sign == " ":
                    self.refused(desk, command[:k] + " " + command[k:])
                    self.refused(desk, command[:k] + "\t" + command[k + 1:])
                    self.refused(desk, command[:k] + "\n" + command[k + 1:])

    def test_numbers(self):
        desk = made()
        for number in ("01", "+1", "-01", "-0", "00", "1.", "1_0", "", "-", "--1", "one", "1e3", "0x1", "bottom", " 1", "1-"):
            for command in (f"make x line {number}", f"make x recent {number} 1", f"make x recent 1 {number}",
                            f"looped x a {number} 0 top", f"looped x a 0 {number} top"):
                self.refused(desk, command)
            if number != "bottom":
                self.refused(desk, f"tick h put {number}")

    def test_names_that_are_none(self):
        desk = made()
        for name in ("1a", "A", "a_b", "toolong99", "a-", "0", "-1", "a.", "(a)"):
            for command in (f"make {name} record", f"history {name}", f"drop {name}", f"alike {name} b", f"alike a {name}",
                            f"run a {name}", f"tick {name} put 1", f"tick h {name} 1", f"after x a {name}", f"held {name}",
                            f"after {name} a b", f"looped x {name} 0 0 top"):
                self.refused(desk, command)

    def test_names_that_are_words(self):
        desk = Desk()
        names = ["make", "line", "top", "bottom", "after", "drop", "r0", "x", "z9999999"]
        self.equal(desk.do_all([f"history {name}" for name in names]), ["done"] * 9)
        self.equal(desk.names(), sorted(names))
        self.equal(desk.do_all(["drop make", "make make record", "tick top top top", "after after2 make make"]), ["done"] * 4)


class Refused(DeskCase):

    def test_names_that_are_taken(self):
        desk = made()
        for name in ("a", "h"):
            for command in (f"make {name} line 1", f"make {name} line 9", f"make {name} record", f"after {name} a b",
                            f"after {name} none h", f"beside {name} h h", f"looped {name} none 0 0 top", f"history {name}",
                            f"looped {name} a 7 7 top"):
                self.fails(NameTaken, {"value": name}, desk.do, command)

    def test_unknown_names(self):
        desk = made()
        for command, name in (("after x none h", "none"), ("after x h none", "h"), ("after x a h", "h"), ("after x a x", "x"),
                              ("beside x none none2", "none"), ("looped x none 9 9 top", "none"), ("looped x h 0 0 top", "h"),
                              ("tick none put 1", "none"), ("tick a put 1", "a"), ("drop none", "none"),
                              ("alike none h", "none"), ("alike a h", "h"), ("most h a", "h"), ("most a none", "none"),
                              ("run h a", "h"), ("run a b", "b"), ("run none a", "none"), ("needed a a", "a"),
                              ("needed h h", "h"), ("held h", "h"), ("held none", "none"), ("age h", "h"), ("past g", "g"),
                              ("age none", "none")):
            self.fails(UnknownName, {"value": name}, desk.do, command)
            self.fails(UnknownName, {"value": name}, desk.tried, ["history zz", command, "nothing"])

    def test_errors_of_the_functions(self):
        desk = made()
        for command, number in (("make x line 0", 0), ("make x pile 4", 4), ("make x ranked -1", -1), ("make x best 3", 3),
                                ("make x recent 4 9", 4), ("make x recent 3 4", 4), ("make x recent 3 0", 0),
                                ("looped x a 1 9 top", 1), ("looped x a 0 1 top", 1), ("looped x a -1 0 top", -1),
                                (f"make x line {HUGE}", HUGE)):
            self.fails(InvalidCount, {"value": number}, desk.do, command)
        for command in ("after x a d", "beside x a d", "alike a d", "most c a"):
            self.fails(OtherShape, {}, desk.do, command)
        desk.do_all(["beside p c c", "make q line 3"])
        self.fails(TooMany, {"kind": "outputs", "limit": 2}, desk.do, "beside x p c")
        self.fails(TooMany, {"kind": "registers", "limit": 6}, desk.do_all, ["after x c c", "after y x c", "after z y c"])
        self.equal(desk.names(), ["a", "b", "c", "d", "g", "h", "p", "q"])

    def test_after_an_error_nothing_is_otherwise(self):
        desk = made()
        for command in ("nothing", "make a record", "drop none", "make x line 9", "run a g"):
            with self.assertRaises((ValueError, LookupError, RuntimeError)):
                desk.do(command)
            self.equal([desk.log(), desk.names()], [MADE, ["a", "b", "c", "d", "g", "h"]])


class Undo(DeskCase):

    def test_to_the_beginning(self):
        desk = made()
        desk.do_all(["run a h", "alike a b", "drop a", "history a"])
        known = MADE + ["drop a", "history a"]
        for many in range(len(known), 0, -1):
            self.equal(desk.log(), known[:many])
            twin = Desk()
            twin.do_all(known[:many])
            self.equal(twin.names(), desk.names())
            self.equal(desk.undo(), None)
        self.equal([desk.log(), desk.names()], [[], []])
        self.fails(NothingToUndo, {}, desk.undo)
        self.equal(desk.do("history a"), "done")

    def test_questions_are_not_taken_back(self):
        desk = made()
        desk.do("held a")
        desk.undo()
        desk.do("run a h")
        self.equal(desk.log(), MADE[:-1])
        desk.undo()
        desk.undo()
        desk.undo()
        self.equal(desk.do("run a h"), "9")
        desk.undo()
        self.equal(desk.do("run a h"), "-")
        desk.undo()
        self.fails(UnknownName, {"value": "h"}, desk.do, "run a h")

    def test_nothing_done_yet(self):
        desk = Desk()
        self.fails(NothingToUndo, {}, desk.undo)
        desk.tried(["history x"])
        self.fails(NothingToUndo, {}, desk.undo)
        self.equal([desk.log(), desk.names(), desk.do_all([]), desk.tried(()), desk.do_all(commands=())],
                   [[], [], [], [], []])


class Lists(DeskCase):

    def test_all_or_nothing(self):
        good = ["make x best 2", "history y", "tick y put 4", "run x y", "after z a b", "drop y"]
        wrong = {"nothing": InvalidCommand, "history a": NameTaken, "drop none": UnknownName, "make w line 9": InvalidCount,
                 "run a g": InvalidHistory, "after w a d": OtherShape}
        for at in range(len(good) + 1):
            for command, error in wrong.items():
                for later in ("nothing", "drop none2", 5):
                    desk = made()
                    commands = good[:at] + [command] + good[at:] + [later]
                    with self.assertRaises(error) as caught:
                        desk.do_all(commands)
                    self.assertIs(caught.exception.__class__, error)
                    with self.assertRaises(error):
                        desk.tried(tuple(commands))
                    self.equal([desk.log(), desk.names()], [MADE, ["a", "b", "c", "d", "g", "h"]])
                    desk.undo()
                    self.equal(desk.log(), MADE[:-1])

    def test_as_one_by_one(self):
        commands = MADE + ["run a h", "needed a h", "alike a b", "drop g", "after e a b", "held e"]
        one, other = Desk(), Desk()
        self.equal(one.do_all(commands), [other.do(command) for command in commands])
        self.equal([one.log(), one.names()], [other.log(), other.names()])
        self.equal(Desk().do_all(tuple(commands)), Desk().tried(commands=commands))

    def test_no_lists(self):
        for value in NOT_LISTS:
            self.fails(InvalidCommand, {"value": value}, made().do_all, value)
            self.fails(InvalidCommand, {"value": value}, made().tried, value)

    def test_tried_without_an_effect(self):
        desk = made()
        commands = ["drop a", "make a best 1", "run a h", "history new", "undo"][:4]
        first = desk.tried(commands)
        self.equal(first, ["done", "done", "9", "done"])
        self.equal(desk.tried(commands), first)
        self.equal([desk.log(), desk.names(), desk.do("past a")], [MADE, ["a", "b", "c", "d", "g", "h"], "2"])

    def test_lists_that_are_changed(self):
        desk = Desk()
        commands = ["history x", "history y"]
        answers = desk.do_all(commands)
        commands.append("history z")
        answers.append("done")
        for found in (desk.log(), desk.names(), answers, commands):
            found.clear()
        self.equal([desk.log(), desk.names()], [["history x", "history y"], ["x", "y"]])
        commands = ["history z", "drop x"]
        desk.tried(commands)
        self.equal(commands, ["history z", "drop x"])


class Desks(DeskCase):

    def test_a_log_is_told_to_another_desk(self):
        rng = random.Random(1121)
        questions = ["run {} {}", "needed {} {}", "alike {} {}", "most {} {}", "held {}", "age {}", "past {}"]
        for _ in range(12):
            desk = Desk()
            for _ in range(60):
                command = self.some_command(rng)
                try:
                    desk.do(command)
                except (ValueError, LookupError, RuntimeError):
                    pass
                if rng.random() < 0.1 and desk.log():
                    desk.undo()
            twin = Desk()
            self.equal(twin.do_all(desk.log()), ["done"] * len(desk.log()))
            self.equal([twin.names(), twin.log()], [desk.names(), desk.log()])
            for question in questions:
                for name in desk.names():
                    for other in desk.names():
                        self.equal(answer_of(twin, question.format(name, other)), answer_of(desk, question.format(name, other)))

    def some_command(self, rng):
        name, one, other = rng.choice("abcd"), rng.choice("abcd"), rng.choice("abcd")
        return rng.choice([
            f"make {name} {rng.choice(['line', 'pile', 'ranked', 'best'])} {rng.randint(1, 2)}",
            f"make {name} recent {rng.randint(1, 3)} {rng.randint(1, 3)}", f"make {name} record", f"after {name} {one} {other}",
            f"beside {name} {one} {other}", f"looped {name} {one} 0 0 {rng.choice([BOTTOM, TOP])}", f"history {rng.choice('hk')}",
            f"tick {rng.choice('hk')} put {rng.randint(-9, 9)}", f"tick {rng.choice('hk')} put {rng.randint(-9, 9)}",
            f"drop {rng.choice('abcdhk')}"])

    def test_two_desks_share_nothing(self):
        one, other = made(), made()
        one.do_all(["drop a", "tick h put 100", "history new"])
        self.equal([other.log(), other.names(), other.do("run a h")], [MADE, ["a", "b", "c", "d", "g", "h"], "9"])
        other.undo()
        self.equal([len(one.log()), one.do("run b h")], [13, "100"])


def answer_of(desk, question):
    """Return the answer to a question, or the name of its error."""
    try:
        return desk.do(question)
    except (ValueError, LookupError, RuntimeError) as error:
        return error.__class__.__name__


if __name__ == "__main__":
    unittest.main()
