from lampwalks import errors
from lampwalks.errors import Refused
from tests.helpers import Case

NAMES = (
    "BadSize", "BadRoad", "Parted", "BadLength", "BadLamp", "BadPlace", "BadState", "BadDeed", "BadCount", "BadRow",
    "BadPurse", "BadWorth", "BadEnds", "NotTree", "NotRing", "TooMany", "Dear", "BadText", "BadWord",
    "NothingToUndo", "NothingToRedo",
)
KINDS = [getattr(errors, name) for name in NAMES]


class ErrorsTest(Case):
    def test_refused_is_a_value_error(self):
        self.assertTrue(issubclass(Refused, ValueError))
        self.assertEqual(Refused.__name__, "Refused")

    def test_each_stands_under_refused(self):
        for name, kind in zip(NAMES, KINDS):
            with self.subTest(name):
                self.assertEqual(kind.__name__, name)
                self.assertTrue(issubclass(kind, Refused))
                self.assertIsNot(kind, Refused)

    def test_none_stands_under_another_one(self):
        for one in KINDS:
            for other in KINDS:
                if one is not other:
                    self.assertFalse(issubclass(one, other), (one, other))

    def test_they_are_all_different(self):
        self.assertEqual(len(set(KINDS)), 21)

    def test_what_is_kept(self):
        for kind in [Refused] + KINDS:
            for what in (0, -3, 10 ** 40, (1,), (2, 0), "row", ()):
                with self.subTest(kind=kind.__name__, what=what):
                    self.same(kind(what).what, what)
                    self.same(kind(what=what).what, what)

    def test_one_argument_is_needed(self):
        for kind in [Refused] + KINDS:
            self.assertRaises(TypeError, kind)
            self.assertRaises(TypeError, kind, 1, 2)

    def test_they_are_caught_as_refused_and_as_value_error(self):
        for kind in KINDS:
            for wider in (kind, Refused, ValueError):
                try:
                    raise kind(7)
                except wider as error:
                    self.assertIs(type(error), kind)
                    self.assertEqual(error.what, 7)
