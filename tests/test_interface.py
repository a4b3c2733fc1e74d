"""The interface: where its names are defined, which parameters they have, and what an object keeps apart."""

import ast
import importlib
import inspect
import os
import unittest

FOLDER = os.path.join(os.path.dirname(os.path.dirname(os.path.abspath(__file__))), "heldranks")
OF_TERMS = ["depth", "at", "places", "turned", "put", "__and__", "__or__", "__str__", "__repr__", "__eq__"]
FUNCTIONS = {
    "values": {"is_value": "value", "is_at_least": "one other", "lesser_of": "*values", "greater_of": "*values",
               "at_level": "value level", "levels_of": "values"},
    "terms": {"kth": "many *terms"},
    "machines": {},
    "forms": {"form_of": "term", "covers_of": "term", "term_of": "form", "value_by": "form values",
              "is_same": "one other", "is_never_above": "one other", "showing": "one other"},
    "runs": {"outputs_of": "machine history", "each_output": "machine history", "state_after": "machine history",
             "history_at": "history level"},
    "makers": {"line": "many", "pile": "many", "ranked": "many", "best": "many", "recent": "many kth", "record": ""},
    "ends": {"moves": "machine", "end_states": "machine", "end_step": "machine state letter ends"},
    "pairs": {"has_one_shape": "one other", "are_alike": "one other", "is_at_most": "one other",
              "parting": "one other", "excess": "one other", "alike_paper": "one other", "at_most_paper": "one other",
              "is_alike_paper": "one other value", "is_at_most_paper": "one other value"},
    "idle": {"idle_registers": "machine", "idle_inputs": "machine", "idle_letters": "machine",
             "register_matters": "machine number", "input_matters": "machine letter number",
             "letter_matters": "machine letter"},
    "charts": {},
    "needed": {"needed": "machine history", "row_after": "machine history", "call": "machine history value",
               "rest_paper": "machine history value", "is_rest_paper": "machine history value paper",
               "are_interchangeable": "one history other following",
               "parting_future": "one history other following"},
    "holders": {},
    "rows": {"rows_of": "chart", "most_needed": "chart", "most_ticks": "chart", "most_history": "chart",
             "rows_paper": "chart", "is_rows_paper": "chart many value", "rows_from": "chart row"},
    "tables": {},
    "back": {"merged": "table", "is_rising": "table", "falling": "table", "rising_paper": "table",
             "is_rising_paper": "table value", "machine_of": "table", "is_machine_of": "table machine"},
    "ages": {"age_of": "machine letter number", "greatest_age": "machine", "memory": "machine",
             "age_history": "machine letter number age", "is_age_history": "machine letter number age value",
             "age_paper": "machine letter number", "is_age_paper": "machine letter number most value",
             "endless_age": "machine letter number", "is_endless_age": "machine letter number value"},
    "forgetting": {"past_ticks": "machine", "still_apart": "machine many", "is_still_apart": "machine many value",
                   "forgets": "machine letters", "remembered": "machine letters",
                   "is_remembered": "machine letters value"},
    "late": {"is_late_by": "one other many", "late_parting": "one other many", "late_paper": "one other many",
             "is_late_paper": "one other many value"},
    "prices": {"worth": "machine prices most history", "end_worth": "machine prices history"},
    "worth": {"greatest_worth": "machine prices", "worth_history": "machine prices", "worth_paper": "machine prices",
              "is_worth_paper": "machine prices most value", "endless_worth": "machine prices",
              "round_worth": "machine prices value", "greatest_rate": "machine prices", "rate_round": "machine prices",
              "rate_paper": "machine prices", "is_rate_paper": "machine prices rate value"},
    "factors": {"factor": "machine output number", "factor_round": "machine output number",
                "wrong_value": "machine weights", "wrong_histories": "machine weights"},
    "joined": {"after": "one other", "beside": "one other", "looped": "machine output number end"},
    "nests": {"far": "machine nest", "far_outputs": "machine nest", "far_ticks": "nest"},
    "streams": {"left_ends": "machine many", "left_streams": "machine many most"},
    "texts": {"machine_text": "machine", "read_machine": "text", "read_term": "text"},
    "judge": {"is_claim": "value", "is_certificate": "claim value", "certificate_of": "claim"},
    "desk": {}}
CLASSES = {
    "terms": {"Term": OF_TERMS, "Place": OF_TERMS + ["__init__", "name"], "End": OF_TERMS + ["__init__", "end"],
              "Lesser": OF_TERMS + ["__init__", "parts"], "Greater": OF_TERMS + ["__init__", "parts"]},
    "machines": {"Row": ["__init__", "mode", "registers", "outputs", "__eq__"],
                 "Machine": ["__init__", "MOST_MODES", "MOST_LETTERS", "MOST_REGISTERS", "MOST_INPUTS", "MOST_OUTPUTS",
                             "modes", "letters", "registers", "inputs", "outputs", "first", "begin", "row_at",
                             "rows"]},
    "runs": {"State": ["mode", "registers", "levels", "at_level", "__eq__"],
             "Run": ["__init__", "do", "do_all", "undo", "machine", "state", "ticks", "history", "copy", "tried"]},
    "charts": {"Chart": ["of_machine", "letters", "inputs", "outputs", "__len__", "moves", "next_class", "told",
                         "class_after", "is_at_most", "parted_by", "above_by", "__eq__"]},
    "holders": {"Holder": ["__init__", "of_machine", "chart", "cells", "row", "do", "do_all", "reset", "copy", "__eq__",
                           "__len__", "__contains__"]},
    "tables": {"Table": ["__init__", "letters", "inputs", "outputs", "__len__", "step", "steps", "outputs_of", "of_chart",
                         "__eq__"]},
    "prices": {"Prices": ["__init__", "of_outputs", "of_inputs", "output_moves", "input_moves", "fits", "plain",
                          "__eq__"]},
    "desk": {"Desk": ["__init__", "do", "do_all", "undo", "log", "tried", "names"]}}
SIGNATURES = {
    ("terms", "Place"): "name", ("terms", "End"): "end", ("terms", "Lesser"): "*terms", ("terms", "Greater"): "*terms",
    ("machines", "Row"): "mode registers outputs",
    ("machines", "Machine"): "rows *inputs= *outputs= *first= *begin=", ("runs", "Run"): "machine",
    ("holders", "Holder"): "chart", ("tables", "Table"): "steps *inputs= *outputs=",
    ("prices", "Prices"): "outputs inputs *output_moves= *input_moves=", ("desk", "Desk"): ""}
METHODS = {
    ("terms", "Term", "at"): "values", ("terms", "Term", "put"): "terms", ("machines", "Machine", "row_at"): "mode letter",
    ("runs", "State", "at_level"): "level", ("runs", "Run", "do"): "letter *values",
    ("runs", "Run", "do_all"): "history", ("runs", "Run", "tried"): "history",
    ("charts", "Chart", "of_machine"): "machine", ("charts", "Chart", "moves"): "",
    ("charts", "Chart", "next_class"): "number letter ends", ("charts", "Chart", "told"): "number letter ends",
    ("charts", "Chart", "class_after"): "history", ("charts", "Chart", "is_at_most"): "one other",
    ("charts", "Chart", "parted_by"): "one other", ("charts", "Chart", "above_by"): "one other",
    ("holders", "Holder", "of_machine"): "machine", ("holders", "Holder", "do"): "letter *values",
    ("holders", "Holder", "do_all"): "history", ("holders", "Holder", "reset"): "",
    ("holders", "Holder", "copy"): "", ("tables", "Table", "step"): "state letter ends",
    ("tables", "Table", "steps"): "", ("tables", "Table", "outputs_of"): "history",
    ("tables", "Table", "of_chart"): "chart",
    ("prices", "Prices", "of_outputs"): "letter", ("prices", "Prices", "of_inputs"): "letter",
    ("prices", "Prices", "fits"): "machine", ("prices", "Prices", "plain"): "machine outputs inputs",
    ("desk", "Desk", "do"): "command", ("desk", "Desk", "do_all"): "commands", ("desk", "Desk", "undo"): "",
    ("desk", "Desk", "log"): "", ("desk", "Desk", "tried"): "commands", ("desk", "Desk", "names"): ""}


def parameters(function):
    """Return the parameters of a function in one string: `*rest` for a star, `*name=` for what goes by name only."""
    words = []
    for name, parameter in inspect.signature(function).parameters.items():
        if name != "self":
            words.append({"VAR_POSITIONAL": "*" + name, "KEYWORD_ONLY": "*" + name + "="}.get(
                parameter.kind.name, name))
    return " ".join(words)


def defined_in(module):
    """Return the names of what a file of the package defines by def and class."""
    with open(os.path.join(FOLDER, module + ".py"), encoding="utf-8") as source:
        tree = ast.parse(source.read())
    return [node.name for node in tree.body if isinstance(node, (ast.FunctionDef, ast.ClassDef))]


class Interface(unittest.TestCase):

    def test_functions(self):
        for module, functions in FUNCTIONS.items():
            there = importlib.import_module("heldranks." + module)
            for name, expected in functions.items():
                with self.subTest(module=module, name=name):
                    self.assertIn(name, defined_in(module))
                    self.assertEqual(parameters(getattr(there, name)), expected)

    def test_classes(self):
        for module, classes in CLASSES.items():
            there = importlib.import_module("heldranks." + module)
            for name, methods in classes.items():
                self.assertIn(name, defined_in(module))
                for method in methods:
                    with self.subTest(module=module, name=name, method=method):
                        self.assertIn(method, vars(getattr(there, name)))

    def test_parameters_of_classes(self):
        for (module, name), expected in SIGNATURES.items():
            self.assertEqual(parameters(getattr(importlib.import_module("heldranks." + module), name)), expected)

    def test_parameters_of_methods(self):
        for (module, name, method), expected in METHODS.items():
            there = getattr(importlib.import_module("heldranks." + module), name)
            for kind in [there] + there.__subclasses__():
                self.assertEqual(parameters(getattr(kind, method)), expected)


if __name__ == "__main__":
    unittest.main()
