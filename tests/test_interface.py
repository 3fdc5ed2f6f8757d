"""Point 28: the interface."""

from importlib import import_module
from inspect import isclass, isfunction, signature
from unittest import TestCase

from tests.samples import leader, silent_folk

FUNCTIONS = {
    "tasks": {
        "inputs_of": ["task"], "rests": ["task"], "completing": ["task", "rest"], "lot_of": ["task", "inputs"],
        "rest_of": ["row", "i"], "put_in": ["rest", "value"],
    },
    "lots": {"parts": ["lot"], "way": ["lot", "one", "other"]},
    "plans": {
        "is_choice": ["task", "thing"], "is_plan": ["task", "thing"], "covers": ["task", "choice", "rest"],
        "choices": ["task"], "plan": ["task"],
    },
    "bars": {"bar": ["task"], "is_bar": ["task", "thing"]},
    "patterns": {
        "is_pattern": ["many", "rounds", "thing"], "plain": ["many", "rounds"], "shut_out": ["many", "rounds", "i"],
        "pattern_at": ["many", "rounds", "number"], "count_patterns": ["many", "rounds"],
        "pattern_number": ["many", "pattern"],
    },
    "chain": {
        "chain_at": ["many", "first", "last", "number"], "mover": ["many", "rounds", "number"],
        "known": ["many", "pattern"], "alike_for": ["inputs", "pattern", "other", "later"],
    },
    "folks": {
        "answers": ["folk", "inputs", "pattern"], "memories": ["folk", "inputs", "pattern"],
        "wrong_run": ["task", "folk"],
    },
    "making": {"longest": ["task", "plan"], "rounds_enough": ["task", "plan"], "told_folk": ["task", "plan"]},
    "foes": {
        "found_wrong": ["task", "folk"], "is_wrong": ["task", "folk", "thing"], "trials": ["task", "rounds"],
    },
    "views": {
        "view_of": ["inputs", "pattern", "me"], "table": ["task", "rounds"], "is_table": ["task", "rounds", "thing"],
        "by_table": ["rounds", "table"],
    },
    "refusals": {
        "refusal": ["task", "rounds"], "is_refusal": ["task", "rounds", "thing"], "fewest_rounds": ["task", "most"],
        "span": ["task", "plan"],
    },
    "sure": {
        "is_sparing": ["some", "thing"], "is_sure_plan": ["task", "some", "thing"], "sure_plan": ["task", "some"],
        "sure_bar": ["task", "some"], "sure_folk": ["task", "some", "told"], "silences": ["task"],
    },
    "algebra": {
        "beside": ["one", "other"], "behind": ["one", "other"], "fewer": ["task", "inputs"],
        "wider": ["task", "offers"], "beside_plan": ["one", "other", "first", "later"],
        "folk_behind": ["first", "later"],
    },
    "mending": {"kernel": ["task"], "mended": ["task", "offers"], "greatest": ["task"]},
    "families": {
        "agreement": ["many", "values"], "few": ["many", "values", "most"], "near": ["many", "values"],
        "leader": ["many"], "unlike": ["many", "names"], "family_planned": ["word", "many", "number", "most"],
    },
    "leading": {"led": ["net", "stranger", "most"], "is_true": ["task", "net", "thing"]},
    "texts": {
        "task_text": ["task"], "pattern_text": ["pattern"], "bar_text": ["task", "bar"], "read_task": ["text"],
        "read_pattern": ["many", "text"], "read_bar": ["task", "text"],
    },
    "desk": {"recovered": ["text"]},
}
CLASSES = {
    "tasks": {"Task": (["many", "lots"], {"__eq__": ["self", "other"]})},
    "folks": {"Folk": (["rounds", "begin", "step", "answer"], {})},
    "nets": {"Net": (["folk", "inputs"], {
        "is_event": ["self", "thing"], "event": ["self", "event"], "bag": ["self"], "up": ["self"], "at": ["self"],
        "missed": ["self"], "answers": ["self"], "copy": ["self"], "settled": ["self", "silent"],
    })},
    "desk": {"Desk": ([], {"tell": ["self", "line"], "journal": ["self"]})},
}


class Interface(TestCase):
    def test_functions_stand_in_their_files(self):
        for file, functions in FUNCTIONS.items():
            module = import_module("onesilent." + file)
            for name, names in functions.items():
                function = getattr(module, name)
                self.assertTrue(isfunction(function), name)
                self.assertEqual(function.__module__, "onesilent." + file)
                self.assertEqual(list(signature(function).parameters), names)

    def test_classes_stand_in_their_files_with_their_methods(self):
        for file, classes in CLASSES.items():
            module = import_module("onesilent." + file)
            for name, (names, methods) in classes.items():
                made = getattr(module, name)
                self.assertTrue(isclass(made), name)
                self.assertEqual(made.__module__, "onesilent." + file)
                self.assertEqual(list(signature(made).parameters), names)
                for method, parameters in methods.items():
                    self.assertTrue(isfunction(vars(made)[method]), method)
                    self.assertEqual(list(signature(vars(made)[method]).parameters), parameters)

    def test_nothing_needs_an_argument_that_is_not_listed(self):
        for file, functions in FUNCTIONS.items():
            for name in functions:
                for parameter in signature(getattr(import_module("onesilent." + file), name)).parameters.values():
                    self.assertIs(parameter.kind, parameter.POSITIONAL_OR_KEYWORD)
                    self.assertIs(parameter.default, parameter.empty)

    def test_errors_stand_in_their_file(self):
        module = import_module("onesilent.errors")
        for name, value in vars(module).items():
            if isclass(value):
                self.assertEqual(value.__module__, "onesilent.errors", name)

    def test_attributes_are_set_on_each_object(self):
        self.assertEqual(sorted(vars(leader())), ["lots", "many"])
        self.assertEqual(vars(silent_folk())["rounds"], 1)
