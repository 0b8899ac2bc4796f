"""[0] to [4] over the whole interface: names, homes, parameters, and which error comes first."""

import importlib
import inspect
import unittest

from bodybars.errors import (
    BadBodies, BadBody, BadDimension, BadExchange, BadFrame, BadJoint, BadMap, BadNumber, BadPacking, BadPairs,
    BadParting, BadPlace, BadPlacement, BadRenaming, BadRow, BadRows, BadTally, BadText, BadWidth, BodyError, TooGreat,
)
from tests.helper import STRANGE, Spiteful

FRAME = (3, 3, (("pin", 0, 1), ("bar", 1, 2), ("bar", 1, 2), ("weld", 0, 2)))
PACKING = ((0, 1), (), (0,), (2,))
PARTING = (0, 1, 0)
TALLY = (2, 0, 1, 1)
PLACEMENT = ((0, 1), ((0, 0), (1, 2)), ((5, 5), (1, 2)), ())
RENAMING = ((2, 0, 1), (3, 1, 0, 2))
FRAME_TEXT = "frame 3 3\npin 0 1\nbar 1 2\nbar 1 2\nweld 0 2"
PACKING_TEXT = "packing\njoint 0 1\njoint\njoint 0\njoint 2"
PLACEMENT_TEXT = "placement\nat 0 1\nfrom 0 0 to 1 2\nfrom 5 5 to 1 2\nheld"

# What is passed for a parameter: right, wrong, and the error that the wrong one raises.
# A wrong value of None stands for: no exception is told for this parameter.
A_FRAME = (FRAME, (3, 3, [1]), BadFrame)
A_PACKING = (PACKING, ((0, 1), (0, 1), (), ()), BadPacking)
A_PARTING = (PARTING, (0, 2, 1), BadParting)
A_MANY = (3, 9, BadNumber)
A_NUMBERS = (2, 4, BadNumber)
A_TALLY = (TALLY, (3, 0, 0, 0), BadTally)
A_PLACEMENT = (PLACEMENT, (), BadPlacement)
A_DIMENSION = (3, 2, BadDimension)
SOME_ROWS = (((1, 2), (2, 4)), ((1, 2), [2, 4]), BadRows)
A_WIDTH = (2, 0, BadWidth)
A_ROW = ((1, 3), (1,), BadRow)
A_PLACE = ((2, 5), (2,), BadPlace)
A_PAIR = (((2, 5), (3, 6)), ((2, 5),), BadPlace)
A_MOTION = ((1, 2, 3), (1, 2, True), BadRow)
A_SCREW = ((1, 2, 3, 4, 5, 6), (1, 2, 3), BadRow)
A_MAP = ((((0, -1), (1, 0)), (5, 7)), (((1, 1), (1, 1)), (5, 7)), BadMap)
ANYTHING = (Spiteful(), None, None)

FUNCTIONS = {
    "kinds": {
        "need_dimension": {"value": (3, 2, BadDimension)},
        "size_of": {"dimension": (3, None, None), "kind": ("pin", None, None)},
    },
    "frames": {
        "frame_fault": {"value": ANYTHING},
        "is_frame": {"value": ANYTHING},
        "need_frame": {"value": A_FRAME},
        "sizes": {"frame": A_FRAME},
        "own_frame": {"frame": A_FRAME, "bodies": ((0, 2), (2, 0), BadBodies)},
    },
    "partings": {
        "parting_fault": {"many": A_MANY, "value": ANYTHING},
        "need_parting": {"many": A_MANY, "value": A_PARTING},
        "parting_of": {"marks": ((5, 5, 1), (5, "", 1), BadParting)},
        "lots_of": {"parting": A_PARTING},
        "lot_count": {"parting": A_PARTING},
    },
    "partingnumbers": {
        "partings_number": {"many": A_MANY},
        "all_partings": {"many": A_MANY},
        "parting_at": {"many": A_MANY, "number": (4, 5, BadNumber)},
        "number_of_parting": {"parting": A_PARTING},
    },
    "lattice": {
        "is_finer": {"one": A_PARTING, "other": A_PARTING},
        "common_parting": {"one": A_PARTING, "other": A_PARTING},
        "joined_parting": {"one": A_PARTING, "other": A_PARTING},
    },
    "pieces": {"pieces": {"many": A_MANY, "pairs": (((0, 1),), ((1, 0),), BadPairs)}},
    "packings": {
        "packing_fault": {"frame": A_FRAME, "value": ANYTHING},
        "is_packing": {"frame": A_FRAME, "value": ANYTHING},
        "need_packing": {"frame": A_FRAME, "value": A_PACKING},
        "count_of": {"packing": (PACKING, None, None)},
    },
    "renamings": {
        "renaming_fault": {"frame": A_FRAME, "value": ANYTHING},
        "renamed": {"frame": A_FRAME, "renaming": (RENAMING, ((0, 1), ()), BadRenaming)},
        "renamed_parting": {"parting": A_PARTING, "bodies": ((2, 0, 1), (2, 0, 2), BadRenaming)},
        "renamed_row": {"row": (("x", "y"), ["x", "y"], BadRow), "order": ((1, 0), (1, 1), BadRenaming)},
        "renaming_back": {"renaming": (RENAMING, ((0, 0), ()), BadRenaming)},
        "renaming_then": {
            "first": (RENAMING, ((0, 0), ()), BadRenaming),
            "second": (RENAMING, ((0, 1, 2), (0, 1)), BadRenaming),
        },
    },
    "oneform": {"one_form": {"frame": A_FRAME}, "like_renaming": {"one": A_FRAME, "other": A_FRAME}},
    "symmetries": {"symmetries": {"frame": A_FRAME}},
    "frametexts": {
        "frame_text": {"frame": A_FRAME},
        "parting_text": {"parting": A_PARTING},
        "read_frame": {"text": (FRAME_TEXT, "", BadText)},
        "read_parting": {"many": A_MANY, "text": ("lots 0 1 0", "", BadText)},
        "frame_text_fault": {"text": ANYTHING},
        "parting_text_fault": {"many": A_MANY, "text": ANYTHING},
    },
    "packingtexts": {
        "packing_text": {"frame": A_FRAME, "packing": A_PACKING},
        "read_packing": {"frame": A_FRAME, "text": (PACKING_TEXT, "", BadText)},
        "packing_text_fault": {"frame": A_FRAME, "text": ANYTHING},
    },
    "placementtexts": {
        "placement_text": {"frame": A_FRAME, "placement": A_PLACEMENT},
        "read_placement": {"frame": A_FRAME, "text": (PLACEMENT_TEXT, "", BadText)},
        "placement_text_fault": {"frame": A_FRAME, "text": ANYTHING},
    },
    "placements": {
        "placement_fault": {"frame": A_FRAME, "value": ANYTHING},
        "need_placement": {"frame": A_FRAME, "value": A_PLACEMENT},
    },
    "bounds": {
        "crossing_of": {"frame": A_FRAME, "parting": A_PARTING},
        "bound_of": {"frame": A_FRAME, "parting": A_PARTING, "*numbers": A_NUMBERS},
    },
    "woodways": {
        "way_in": {"frame": A_FRAME, "packing": A_PACKING, "joint": (1, 4, BadJoint), "number": (1, 3, BadNumber)},
        "tally_of": {"frame": A_FRAME, "packing": A_PACKING},
        "wood_sizes": {"frame": A_FRAME, "packing": A_PACKING},
    },
    "exchanges": {
        "exchange_fault": {"frame": A_FRAME, "packing": A_PACKING, "value": ANYTHING},
        "exchange_of": {"frame": A_FRAME, "packing": A_PACKING},
        "exchanged": {"frame": A_FRAME, "packing": A_PACKING, "exchange": (((1, 1),), (), BadExchange)},
        "growing": {"frame": A_FRAME, "packing": A_PACKING},
    },
    "woods": {
        "greatest_packing": {"frame": A_FRAME, "*numbers": A_NUMBERS},
        "grown": {"frame": A_FRAME, "packing": A_PACKING},
        "rank_of": {"frame": A_FRAME, "*numbers": A_NUMBERS},
        "free_of": {"frame": A_FRAME},
    },
    "extremes": {
        "reached": {"frame": A_FRAME, "packing": A_PACKING},
        "finest_parting": {"frame": A_FRAME, "*numbers": A_NUMBERS},
        "least_parting": {"frame": A_FRAME, "*numbers": A_NUMBERS},
        "least_partings": {"frame": A_FRAME, "*numbers": A_NUMBERS},
        "are_together": {"frame": A_FRAME, "one": (0, 3, BadBody), "other": (2, -1, BadBody)},
    },
    "tallies": {
        "tally_fault": {"frame": A_FRAME, "value": ANYTHING},
        "need_tally": {"frame": A_FRAME, "value": A_TALLY},
        "packing_with": {"frame": A_FRAME, "tally": A_TALLY},
        "is_met": {"frame": A_FRAME, "tally": A_TALLY},
        "overfull_lot": {"frame": A_FRAME, "tally": A_TALLY},
        "tally_paper": {"frame": A_FRAME, "tally": A_TALLY},
        "tally_paper_fault": {"frame": A_FRAME, "tally": A_TALLY, "paper": ANYTHING},
    },
    "swaps": {
        "is_greatest_tally": {"frame": A_FRAME, "tally": A_TALLY},
        "swap_of": {
            "frame": A_FRAME,
            "tally": ((2, 1, 0, 3), (2, 1, 0, 4), BadTally),
            "other": ((2, 0, 1, 3), (2, 0, 1), BadTally),
            "joint": (1, 4, BadJoint),
        },
        "greatest_tallies": {"frame": A_FRAME},
    },
    "levels": {
        "is_level": {"frame": A_FRAME, "packing": A_PACKING},
        "leveled": {"frame": A_FRAME, "packing": A_PACKING},
    },
    "principal": {"principal_row": {"frame": A_FRAME}},
    "woodpapers": {
        "woods_paper": {"frame": A_FRAME, "*numbers": A_NUMBERS},
        "woods_fault": {"frame": A_FRAME, "paper": ANYTHING, "*numbers": A_NUMBERS},
        "is_woods_paper": {"frame": A_FRAME, "paper": ANYTHING, "*numbers": A_NUMBERS},
    },
    "rows": {
        "need_rows": {"rows": SOME_ROWS, "wide": A_WIDTH},
        "reduced": {"rows": SOME_ROWS, "wide": A_WIDTH},
        "row_rank": {"rows": SOME_ROWS, "wide": A_WIDTH},
        "null_rows": {"rows": SOME_ROWS, "wide": A_WIDTH},
        "kept_rows": {"rows": SOME_ROWS, "wide": A_WIDTH},
        "determinant": {"rows": SOME_ROWS},
    },
    "spans": {
        "is_in_span": {"rows": SOME_ROWS, "wide": A_WIDTH, "row": A_ROW},
        "span_paper": {"rows": SOME_ROWS, "wide": A_WIDTH, "row": A_ROW},
        "span_fault": {"rows": SOME_ROWS, "wide": A_WIDTH, "row": A_ROW, "paper": ANYTHING},
    },
    "lines": {
        "need_place": {"dimension": A_DIMENSION, "place": A_PLACE},
        "line_of": {"dimension": A_DIMENSION, "one": A_PLACE, "other": ((3, 6), (3,), BadPlace)},
        "is_line_row": {"dimension": A_DIMENSION, "row": ANYTHING},
        "is_on": {"dimension": A_DIMENSION, "one": A_PLACE, "other": ((3, 6), (3,), BadPlace), "place": A_PLACE},
        "product": {"one": A_SCREW, "other": A_SCREW},
        "meeting": {"dimension": A_DIMENSION, "first": A_PAIR, "second": A_PAIR},
        "crossing_place": {"dimension": A_DIMENSION, "first": A_PAIR, "second": A_PAIR},
    },
    "screws": {
        "turn_about": {"dimension": A_DIMENSION, "places": A_PLACE},
        "velocity": {"dimension": A_DIMENSION, "motion": A_MOTION, "place": A_PLACE},
        "work": {"row": A_MOTION, "motion": A_MOTION},
        "centre": {"motion": A_MOTION},
        "axis": {"motion": A_SCREW},
        "pitch": {"motion": A_SCREW},
    },
    "maps": {
        "need_map": {"dimension": A_DIMENSION, "value": A_MAP},
        "moved_place": {"dimension": A_DIMENSION, "change": A_MAP, "place": A_PLACE},
        "moved_row": {"dimension": A_DIMENSION, "change": A_MAP, "row": A_MOTION},
        "composed": {"dimension": A_DIMENSION, "last": A_MAP, "first": A_MAP},
        "moved_placement": {"frame": A_FRAME, "placement": A_PLACEMENT, "change": A_MAP},
    },
    "jointrows": {
        "joint_rows": {"frame": A_FRAME, "placement": A_PLACEMENT, "joint": (1, 4, BadJoint)},
        "matrix_of": {"frame": A_FRAME, "placement": A_PLACEMENT},
    },
    "placed": {
        "rank_at": {"frame": A_FRAME, "placement": A_PLACEMENT},
        "left_at": {"frame": A_FRAME, "placement": A_PLACEMENT},
        "is_general": {"frame": A_FRAME, "placement": A_PLACEMENT},
    },
    "corners": {"corner_places": {"dimension": A_DIMENSION}, "corner_lines": {"dimension": A_DIMENSION}},
    "made": {
        "placement_of_packing": {"frame": A_FRAME, "packing": A_PACKING},
        "general_paper": {"frame": A_FRAME},
        "general_paper_fault": {"frame": A_FRAME, "paper": ANYTHING},
    },
    "specials": {
        "special_paper": {"frame": A_FRAME, "placement": A_PLACEMENT},
        "special_paper_fault": {"frame": A_FRAME, "placement": A_PLACEMENT, "paper": ANYTHING},
    },
    "alongs": {
        "along": {
            "frame": A_FRAME, "placement": A_PLACEMENT, "other": A_PLACEMENT, "number": (2, 1001, BadNumber),
        },
        "first_general": {"frame": A_FRAME, "placement": A_PLACEMENT},
    },
    "motions": {
        "motions_at": {"frame": A_FRAME, "placement": A_PLACEMENT},
        "held_motions": {"frame": A_FRAME, "placement": A_PLACEMENT, "body": (1, 3, BadBody)},
        "is_motion": {"frame": A_FRAME, "placement": A_PLACEMENT, "value": ANYTHING},
    },
}


def all_functions():
    for module, table in FUNCTIONS.items():
        for name, params in table.items():
            yield getattr(importlib.import_module(f"bodybars.{module}"), name), params


def call(function, params, at_place=None):
    """Calls with the right values but for those at the given places, which are wrong."""
    args, named = [], {}
    for place, (param, (right, wrong, _)) in enumerate(params.items()):
        value = wrong if at_place is not None and place in at_place else right
        if param.startswith("*"):
            named[param[1:]] = value
        else:
            args.append(value)
    told = function(*args, **named)
    return list(told) if inspect.isgenerator(told) else told


def is_judging(params):
    return any(value is ANYTHING for value in params.values())


class Interface(unittest.TestCase):
    def test_functions_stand_in_their_files_with_their_parameters(self):
        for module, table in FUNCTIONS.items():
            home = importlib.import_module(f"bodybars.{module}")
            for name, params in table.items():
                function = getattr(home, name)
                self.assertEqual(function.__module__, f"bodybars.{module}", name)
                told = inspect.signature(function).parameters
                self.assertEqual(list(told), [param.removeprefix("*") for param in params], name)
                for param, thing in zip(params, told.values()):
                    keyword = param.startswith("*")
                    kind = inspect.Parameter.KEYWORD_ONLY if keyword else inspect.Parameter.POSITIONAL_OR_KEYWORD
                    self.assertEqual(thing.kind, kind, (name, param))
                    self.assertEqual(thing.default, None if keyword else inspect.Parameter.empty, (name, param))

    def test_by_place_and_by_name_tells_the_same_again_and_again(self):
        for function, params in all_functions():
            by_place = call(function, params)
            named = {param.removeprefix("*"): value[0] for param, value in params.items()}
            by_name = function(**named)
            by_name = list(by_name) if inspect.isgenerator(by_name) else by_name
            self.assertEqual(by_place, by_name, function.__name__)
            self.assertEqual(by_place, call(function, params), function.__name__)

    def test_the_first_wrong_argument_is_told(self):
        for function, params in all_functions():
            asked = [place for place, value in enumerate(params.values()) if value[2] is not None]
            # The width is asked ahead of the rows.
            asked = sorted(asked, key=lambda place: list(params)[place] != "wide")
            for at, place in enumerate(asked):
                error = list(params.values())[place][2]
                for places in ([place], asked[at:]):
                    with self.assertRaises(BodyError) as caught:
                        call(function, params, places)
                    self.assertIs(caught.exception.__class__, error, (function.__name__, places))

    def test_every_kind_of_wrong_value_is_refused(self):
        for function, params in all_functions():
            for place, (param, (_, _, error)) in enumerate(params.items()):
                for value in STRANGE + (-1, -10 ** 999, ("x",), (None, None, None)):
                    if error is None or (value is None and param == "*numbers"):
                        continue
                    # A row to be renamed may have any things in it.
                    if function.__name__ == "renamed_row" and type(value) is tuple:
                        continue
                    changed = dict(params)
                    changed[param] = (None, value, error)
                    with self.assertRaises(error, msg=(function.__name__, param, type(value))):
                        call(function, changed, [place])

    def test_the_errors_that_keep_the_value_keep_the_very_one(self):
        keeping = (BadNumber, BadBodies, BadBody, BadJoint, BadPairs)
        for function, params in all_functions():
            for place, (_, (_, wrong, error)) in enumerate(params.items()):
                if error in keeping:
                    with self.assertRaises(error) as caught:
                        call(function, params, [place])
                    self.assertIs(caught.exception.value, wrong)

    def test_functions_that_judge_any_value_do_so(self):
        told = {
            "frame_fault": ("frame", ()), "is_frame": False, "parting_fault": -1, "packing_fault": (),
            "is_packing": False, "renaming_fault": (), "frame_text_fault": (None, None),
            "parting_text_fault": (None, None), "packing_text_fault": (None, None),
            "placement_text_fault": (None, None), "placement_fault": -1, "exchange_fault": "form",
            "tally_fault": -1, "tally_paper_fault": "form", "woods_fault": "form", "is_woods_paper": False,
            "span_fault": "form", "is_line_row": False, "general_paper_fault": "form", "special_paper_fault": "form",
            "is_motion": False,
        }
        judging = {f.__name__: (f, params) for f, params in all_functions() if is_judging(params)}
        self.assertEqual(sorted(judging), sorted(told))
        for name, (function, params) in judging.items():
            last = next(param for param, value in params.items() if value is ANYTHING)
            for value in STRANGE:
                if "text" in name and type(value) is str:
                    continue
                changed = dict(params)
                changed[last] = (value, None, None)
                self.assertEqual(call(function, changed), told[name], (name, type(value)))

    def test_tuples_strings_and_integers_that_are_told_are_plain(self):
        for function, params in all_functions():
            told = call(function, params)
            if function.__name__ == "growing":
                told = tuple(told)
            self.assertTrue(is_plain(told), function.__name__)

    def test_a_frame_is_asked_ahead_of_all_else(self):
        for function, params in all_functions():
            for param, value in params.items():
                if value is A_FRAME and param in ("frame", "one"):
                    with self.assertRaises(BadFrame) as caught:
                        call(function, params, range(len(params)))
                    self.assertEqual(caught.exception.word, "joints")
                    self.assertEqual(caught.exception.place, (2,))

    def test_what_is_kept_for_great_integers(self):
        for value in (10 ** 999, -10 ** 999):
            for function, params in all_functions():
                for place, (param, (_, _, error)) in enumerate(params.items()):
                    if error is BadNumber:
                        changed = dict(params)
                        changed[param] = (None, value, error)
                        with self.assertRaises(BadNumber) as caught:
                            call(function, changed, [place])
                        self.assertEqual(caught.exception.value, value)

    def test_too_great_is_told_behind_a_bad_frame(self):
        from bodybars.swaps import greatest_tallies
        joints = (("bar", 0, 1),) * 10
        with self.assertRaises(TooGreat):
            greatest_tallies((3, 2, joints))
        with self.assertRaises(BadFrame):
            greatest_tallies((3, 2, joints + (("bar", 1, 1),)))


def is_plain(value):
    if type(value) in (tuple, list):
        return all(is_plain(thing) for thing in value)
    return value is None or type(value) in (int, str, bool)
