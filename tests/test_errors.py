"""[4], [5]: the errors."""

import inspect
import unittest

from bodybars import errors
from tests.helper import STRANGE

# Each error of the interface with what it keeps.
KEPT = {
    "BadNumber": "value", "BadDimension": "", "TooGreat": "most", "TooMany": "most", "BadFrame": "word place",
    "BadBodies": "value", "BadBody": "value", "BadJoint": "value", "BadParting": "place", "BadPairs": "value",
    "BadPacking": "place", "BadRenaming": "place", "BadText": "line word", "BadExchange": "word",
    "BadTally": "place", "NotGreatest": "", "NoSpace": "", "BadWidth": "", "BadRows": "index", "BadRow": "index",
    "BadPlace": "index", "OnePlace": "", "BadMap": "", "BadPlacement": "number", "BadLoad": "index",
    "BadCompliance": "index", "Yields": "motion", "NotOne": "count", "BadLoss": "value", "BadCosts": "place",
    "BadBudget": "value", "BadOrder": "value", "NotBars": "", "NotJust": "", "BadFilling": "word",
    "BadMenu": "place", "BadSlide": "word", "BadPlan": "word", "NotSquare": "rows due", "NotBar": "joint",
    "NotPlane": "dimension", "NotChord": "joint", "Apart": "pieces", "BadFan": "place", "BadDeal": "place",
    "BadSupply": "place", "BadMix": "place", "BadPrices": "place", "BadWeb": "place", "NotStiff": "free",
    "BadEdit": "word place", "BadEdits": "", "BadLog": "entry word",
}


class Errors(unittest.TestCase):
    def test_all_errors_stand_there_and_no_others(self):
        told = [name for name, thing in vars(errors).items() if inspect.isclass(thing)]
        self.assertEqual(sorted(told), sorted(["BodyError", *KEPT]))

    def test_each_is_directly_below_body_error(self):
        self.assertEqual(errors.BodyError.__bases__, (ValueError,))
        for name in KEPT:
            self.assertEqual(getattr(errors, name).__bases__, (errors.BodyError,), name)
            self.assertEqual(getattr(errors, name).__module__, "bodybars.errors")

    def test_each_keeps_its_parameters_whatever_they_are(self):
        values = STRANGE + ((), (1, (2,)), 10 ** 5000, -1)
        for name, words in KEPT.items():
            words = words.split()
            for at in range(len(values)):
                given = [values[(at + step) % len(values)] for step in range(len(words))]
                by_place = getattr(errors, name)(*given)
                by_name = getattr(errors, name)(**dict(zip(words, given)))
                for word, value in zip(words, given):
                    self.assertIs(getattr(by_place, word), value)
                    self.assertIs(getattr(by_name, word), value)
                self.assertEqual(sorted(vars(by_place)), sorted(words))

    def test_each_can_be_raised_and_caught(self):
        for name, words in KEPT.items():
            for kind in (getattr(errors, name), errors.BodyError, ValueError):
                with self.assertRaises(kind):
                    raise getattr(errors, name)(*words.split())

    def test_operators_know_no_errors(self):
        for name, words in KEPT.items():
            error = getattr(errors, name)(*words.split())
            self.assertIs(error == 1, False)
            self.assertIs(error != 1, True)
            for call in (lambda: error < 1, lambda: error + 1, lambda: 1 - error, lambda: error[0], lambda: -error):
                with self.assertRaises(TypeError):
                    call()
