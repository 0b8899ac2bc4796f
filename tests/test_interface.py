"""[0] to [4] over the whole interface: names, homes, parameters, and which error comes first."""

import importlib
import inspect
import unittest

from bodybars.errors import (
    BadBodies, BadBody, BadBudget, BadFrame, BadJoint, BadLoss, BadNumber, BadOrder, BadPairs, BodyError, TooGreat,
)
from bodybars.liveframes import LiveFrame
from tests.helper import STRANGE
from tests.table import ANYTHING, FUNCTIONS, NAMES


def all_functions():
    for module, table in FUNCTIONS.items():
        for name, params in table.items():
            yield getattr(importlib.import_module(f"bodybars.{module}"), name), params


def told_by(told):
    """What is told, as something that can be compared: a generator as a list, a LIVE FRAME as what it tells."""
    if inspect.isgenerator(told):
        return list(told)
    return (told.state(), told.packing(), told.log()) if type(told) is LiveFrame else told


def call(function, params, at_place=None):
    """Calls with the right values but for those at the given places, which are wrong."""
    args, named = [], {}
    for place, (param, (right, wrong, _)) in enumerate(params.items()):
        value = wrong if at_place is not None and place in at_place else right
        if param.startswith("*"):
            named[param[1:]] = value
        else:
            args.append(value)
    return told_by(function(*args, **named))


def is_judging(params):
    return any(value is ANYTHING for value in params.values())


class Interface(unittest.TestCase):
    def test_functions_stand_in_their_files_with_their_parameters(self):
        for module, table in FUNCTIONS.items():
            home = importlib.import_module(f"bodybars.{module}")
            for name, params in table.items():
                function = getattr(home, name)
                self.assertEqual(function.__module__, f"bodybars.{module}", name)
                told = inspect.signature(function).parameters
                self.assertEqual(list(told), [param.removeprefix("*") for param in params], name)
                for param, thing in zip(params, told.values()):
                    keyword = param.startswith("*")
                    kind = inspect.Parameter.KEYWORD_ONLY if keyword else inspect.Parameter.POSITIONAL_OR_KEYWORD
                    self.assertEqual(thing.kind, kind, (name, param))
                    self.assertEqual(thing.default, None if keyword else inspect.Parameter.empty, (name, param))

    def test_by_place_and_by_name_tells_the_same_again_and_again(self):
        for function, params in all_functions():
            by_place = call(function, params)
            named = {param.removeprefix("*"): value[0] for param, value in params.items()}
            by_name = told_by(function(**named))
            self.assertEqual(by_place, by_name, function.__name__)
            self.assertEqual(by_place, call(function, params), function.__name__)

    def test_the_first_wrong_argument_is_told(self):
        for function, params in all_functions():
            asked = [place for place, value in enumerate(params.values()) if value[2] is not None]
            # The width is asked ahead of the rows.
            asked = sorted(asked, key=lambda place: list(params)[place] != "wide")
            for at, place in enumerate(asked):
                error = list(params.values())[place][2]
                for places in ([place], asked[at:]):
                    with self.assertRaises(BodyError) as caught:
                        call(function, params, places)
                    self.assertIs(caught.exception.__class__, error, (function.__name__, places))

    def test_several_wrong_arguments_by_name_in_another_order(self):
        for function, params in all_functions():
            asked = [place for place, value in enumerate(params.values()) if value[2] is not None]
            asked = sorted(asked, key=lambda place: list(params)[place] != "wide")
            values = list(params.items())
            for at, place in enumerate(asked):
                for order in (reversed(range(len(params))), [*range(1, len(params)), 0]):
                    named = {}
                    for other in order:
                        param, (right, wrong, error) = values[other]
                        wrong_here = other in asked[at:]
                        named[param.removeprefix("*")] = wrong if wrong_here else right
                    with self.assertRaises(BodyError) as caught:
                        told_by(function(**named))
                    self.assertIs(caught.exception.__class__, values[place][1][2], (function.__name__, place))

    def test_every_name_of_the_interface_is_in_its_file(self):
        many = 0
        for module, names in NAMES.items():
            home = importlib.import_module(f"bodybars.{module}")
            for name in names:
                self.assertEqual(getattr(home, name).__module__, f"bodybars.{module}")
                many += 1
        self.assertEqual(many, 265)

    def test_every_kind_of_wrong_value_is_refused(self):
        for function, params in all_functions():
            for place, (param, (_, _, error)) in enumerate(params.items()):
                for value in STRANGE + (-1, -10 ** 999, ("x",), (None, None, None)):
                    if error is None or (value is None and param == "*numbers"):
                        continue
                    # One of these words is a KIND.
                    if param == "kind" and type(value) is str and value == "bar":
                        continue
                    # A row to be renamed may have any things in it.
                    if function.__name__ == "renamed_row" and type(value) is tuple:
                        continue
                    changed = dict(params)
                    changed[param] = (None, value, error)
                    with self.assertRaises(error, msg=(function.__name__, param, type(value))):
                        call(function, changed, [place])

    def test_the_errors_that_keep_the_value_keep_the_very_one(self):
        keeping = (BadNumber, BadBodies, BadBody, BadJoint, BadPairs, BadLoss, BadBudget, BadOrder)
        for function, params in all_functions():
            for place, (_, (_, wrong, error)) in enumerate(params.items()):
                if error in keeping:
                    with self.assertRaises(error) as caught:
                        call(function, params, [place])
                    self.assertIs(caught.exception.value, wrong)

    def test_functions_that_judge_any_value_do_so(self):
        told = {
            "frame_fault": ("frame", ()), "is_frame": False, "parting_fault": -1, "packing_fault": (),
            "is_packing": False, "renaming_fault": (), "frame_text_fault": (None, None),
            "parting_text_fault": (None, None), "packing_text_fault": (None, None),
            "placement_text_fault": (None, None), "placement_fault": -1, "exchange_fault": "form",
            "tally_fault": -1, "tally_paper_fault": "form", "woods_fault": "form", "is_woods_paper": False,
            "span_fault": "form", "is_line_row": False, "general_paper_fault": "form", "special_paper_fault": "form",
            "is_motion": False, "is_stress": False, "load_fault": "form", "elastic_fault": "form",
            "loosening_fault": "form", "staying_fault": "form", "is_circle": False, "filling_fault": "form",
            "costs_fault": -1, "cheapest_fault": "form", "is_cheapest_paper": False, "menu_fault": -1,
            "menu_paper_fault": "form", "slide_fault": "form", "freedom_fault": "form", "plan_fault": "form",
            "fan_fault": -1, "deal_fault": -1, "log_fault": (-1, "log"), "log_text_fault": (None, None),
            "design_fault": "form", "supply_fault": (), "prices_fault": -1, "mix_fault": (), "web_fault": -1, "is_web": False,
        }
        judging = {f.__name__: (f, params) for f, params in all_functions() if is_judging(params)}
        self.assertEqual(sorted(judging), sorted(told))
        for name, (function, params) in judging.items():
            last = next(param for param, value in params.items() if value is ANYTHING)
            for value in STRANGE:
                if "text" in name and type(value) is str:
                    continue
                changed = dict(params)
                changed[last] = (value, None, None)
                self.assertEqual(call(function, changed), told[name], (name, type(value)))

    def test_tuples_strings_and_integers_that_are_told_are_plain(self):
        for function, params in all_functions():
            told = call(function, params)
            if function.__name__ == "growing":
                told = tuple(told)
            self.assertTrue(is_plain(told), function.__name__)

    def test_a_frame_is_asked_ahead_of_all_else(self):
        for function, params in all_functions():
            for param, value in params.items():
                if value[2] is BadFrame and param in ("frame", "one"):
                    with self.assertRaises(BadFrame) as caught:
                        call(function, params, range(len(params)))
                    self.assertEqual(caught.exception.word, "joints")
                    self.assertEqual(caught.exception.place, (2,))

    def test_what_is_kept_for_great_integers(self):
        for value in (10 ** 999, -10 ** 999):
            for function, params in all_functions():
                for place, (param, (_, _, error)) in enumerate(params.items()):
                    # N of forces may be as great as integers that are passed.
                    if error is BadNumber and (param != "count" or value < 0):
                        changed = dict(params)
                        changed[param] = (None, value, error)
                        with self.assertRaises(BadNumber) as caught:
                            call(function, changed, [place])
                        self.assertEqual(caught.exception.value, value)

    def test_too_great_is_told_behind_a_bad_frame(self):
        from bodybars.swaps import greatest_tallies
        joints = (("bar", 0, 1),) * 10
        with self.assertRaises(TooGreat):
            greatest_tallies((3, 2, joints))
        with self.assertRaises(BadFrame):
            greatest_tallies((3, 2, joints + (("bar", 1, 1),)))


def is_plain(value):
    if type(value) in (tuple, list):
        return all(is_plain(thing) for thing in value)
    return value is None or type(value) in (int, str, bool)
