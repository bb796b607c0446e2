"""What is promised over the whole program: names and arguments, kinds of values, and whose they are."""

import inspect
import unittest
from copy import deepcopy
from importlib import import_module

from checking import refused
from ownboxes import errors

TREE = (0, (None, (1, (None, None, None)), None))
PLAN = ((0, (None, None, None)), None, TREE)
OPENINGS = (1, 0, 2)
ORDER = (1, 2, 0)
# Each function by its module: some arguments by their names, and the kind of what is told.
INTERFACE = (
    ("orders", "made_order", {"names": [2, 0, 1]}, tuple),
    ("orders", "rings_of", {"order": (3, 0, 2, 1)}, list),
    ("orders", "order_by", {"rings": [[2], (3, 1, 0)]}, tuple),
    ("orders", "exchanged", {"order": ORDER, "one": 0, "other": 2}, tuple),
    ("orders", "turned_back", {"order": ORDER}, tuple),
    ("orders", "behind", {"one": ORDER, "other": (0, 2, 1)}, tuple),
    ("orders", "order_at", {"people": 4, "number": 17}, tuple),
    ("orders", "order_number", {"order": ORDER}, int),
    ("following", "made_openings", {"people": 3, "numbers": [1, 0, 3]}, tuple),
    ("following", "opened", {"order": ORDER, "openings": (3, 2, 1), "person": 0}, list),
    ("following", "finds", {"order": ORDER, "openings": (3, 2, 1), "person": 0}, bool),
    ("following", "finders", {"order": ORDER, "openings": (3, 2, 1)}, tuple),
    ("following", "all_find", {"order": ORDER, "openings": (3, 2, 1)}, bool),
    ("following", "short_ring", {"order": ORDER, "openings": (3, 2, 1)}, tuple),
    ("following", "short_ring", {"order": ORDER, "openings": (3, 3, 3)}, type(None)),
    ("counting", "many_good", {"people": 5, "k": 3}, int),
    ("counting", "many_finding", {"people": 5, "k": 3}, list),
    ("counting", "many_with_rings", {"people": 5}, list),
    ("counting", "many_with_longest", {"people": 5}, list),
    ("counting", "many_all", {"openings": (3, 2, 1)}, int),
    ("counting", "share", {"openings": (3, 2, 1)}, tuple),
    ("numbering", "good_at", {"people": 5, "k": 3, "number": 40}, tuple),
    ("numbering", "good_number", {"order": ORDER, "k": 3}, int),
    ("plans", "made_plan", {"openings": [1, 0, 2], "trees": list(PLAN)}, tuple),
    ("plans", "opened_by", {"plan": PLAN, "order": ORDER, "person": 2}, list),
    ("plans", "finders_by", {"plan": PLAN, "order": ORDER}, tuple),
    ("plans", "all_find_by", {"plan": PLAN, "order": ORDER}, bool),
    ("plans", "following_plan", {"openings": OPENINGS}, tuple),
    ("plans", "is_full", {"plan": PLAN, "openings": OPENINGS}, bool),
    ("plans", "finds_in", {"plan": PLAN, "person": 2}, int),
    ("opengame", "turns", {"plan": PLAN, "openings": OPENINGS, "order": ORDER}, list),
    ("opengame", "won", {"plan": PLAN, "openings": OPENINGS, "order": ORDER}, bool),
    ("opengame", "written", {"plan": PLAN, "openings": OPENINGS, "order": ORDER}, tuple),
    ("opengame", "unwritten", {"plan": PLAN, "openings": OPENINGS, "order": ORDER}, tuple),
    ("helper", "need", {"order": ORDER, "k": 1}, int),
    ("helper", "exchanges", {"order": ORDER, "k": 1}, list),
    ("helper", "needs_along", {"order": ORDER, "k": 1, "pairs": [(0, 1), (2, 0)]}, list),
    ("dealings", "opened_as", {"order": ORDER, "dealing": (0, 2, 1), "openings": (3, 2, 1), "person": 0}, list),
    ("dealings", "finders_as", {"order": ORDER, "dealing": (0, 2, 1), "openings": (3, 2, 1)}, tuple),
    ("dealings", "plain_dealing", {"order": ORDER}, tuple),
    ("dealings", "dealing_at", {"order": ORDER, "k": 2, "number": 3}, tuple),
    ("dealings", "dealing_number", {"order": ORDER, "k": 3, "dealing": (0, 2, 1)}, int),
    ("groups", "many_all_of", {"people": 5, "k": 3, "group": (0, 3)}, int),
    ("groups", "many_none_of", {"people": 5, "k": 3, "group": (0, 3)}, int),
    ("texts", "order_text", {"order": ORDER}, str),
    ("texts", "read_order", {"text": "(0 3 1)(2)"}, tuple),
    ("texts", "plan_text", {"openings": OPENINGS, "plan": PLAN}, str),
    ("texts", "read_plan", {"text": "openings 1 2\nperson 0 1(- -)\nperson 1 0(1(- -) -)"}, tuple),
    ("sheet", "answered", {"sheet": "good 4 2\n\nshare 1 2"}, str),
)


def function_of(module, name):
    return getattr(import_module("ownboxes." + module), name)


def calls():
    """Each function, with arguments that are new each time."""
    for module, name, arguments, kind in INTERFACE:
        yield function_of(module, name), deepcopy(list(arguments.values())), kind


def parts(value):
    yield value
    if type(value) in (list, tuple):
        for part in value:
            yield from parts(part)


def lists_in(value):
    return [part for part in parts(value) if type(part) is list]


class Whole(unittest.TestCase):
    def test_names_and_arguments(self):
        for module, name, arguments, kind in INTERFACE:
            told = inspect.signature(function_of(module, name)).parameters
            self.assertEqual(list(told), list(arguments), name)

    def test_arguments_by_their_names(self):
        for module, name, arguments, kind in INTERFACE:
            function = function_of(module, name)
            self.assertEqual(function(**arguments), function(*arguments.values()), name)

    def test_kinds(self):
        for function, arguments, kind in calls():
            told = function(*arguments)
            self.assertIs(type(told), kind, function.__name__)
            for part in parts(told) if kind is not bool else ():
                self.assertIn(type(part), (int, str, tuple, list, type(None)), function.__name__)

    def test_lists_are_told_of_tuples_and_numbers_alone(self):
        for function, arguments, kind in calls():
            self.assertLessEqual(len(lists_in(function(*arguments))), 1, function.__name__)

    def test_what_is_handed_in_is_not_changed(self):
        for function, arguments, kind in calls():
            before = deepcopy(arguments)
            function(*arguments)
            self.assertEqual(arguments, before, function.__name__)

    def test_what_is_handed_in_is_not_kept(self):
        for function, arguments, kind in calls():
            told = function(*arguments)
            before = deepcopy(told)
            for changed in lists_in(arguments):
                changed.reverse()
                changed.append(7)
            self.assertEqual(told, before, function.__name__)

    def test_what_is_told_is_the_askers_own(self):
        for function, arguments, kind in calls():
            one, other = function(*arguments), function(*arguments)
            before = deepcopy(other)
            self.assertEqual(one, other, function.__name__)
            for changed in lists_in(one):
                changed.append(7)
                changed.reverse()
            self.assertEqual(other, before, function.__name__)
            self.assertEqual(function(*arguments), before, function.__name__)

    def test_the_same_answers_whatever_was_asked_between(self):
        first = [function(*arguments) for function, arguments, kind in calls()]
        last = [function(*arguments) for function, arguments, kind in reversed(list(calls()))]
        self.assertEqual(first, last[::-1])


class Refusals(unittest.TestCase):
    def test_the_class_is_just_the_one_told_and_can_be_taken_by_its_bases(self):
        for name, module, function, arguments in (
            ("BadOrder", "orders", "made_order", ([1],)), ("BadBox", "orders", "exchanged", (ORDER, 0, 3)),
            ("BadOpenings", "following", "finders", (ORDER, (1,))), ("NoPerson", "plans", "finds_in", (PLAN, 3)),
            ("TooMany", "counting", "many_good", (61, 1)), ("NoNumber", "dealings", "dealing_at", (ORDER, 0, 0)),
            ("BadPlan", "plans", "made_plan", ((0,), [TREE])), ("NoHelp", "helper", "need", (ORDER, 0)),
            ("BadGroup", "groups", "many_all_of", (3, 1, (3,))), ("BadText", "texts", "read_order", ("",)),
        ):
            refused(self, getattr(errors, name), function_of(module, function), *arguments)
            with self.assertRaises(errors.BoxError):
                function_of(module, function)(*arguments)


if __name__ == "__main__":
    unittest.main()
