"""Tests of carriedparts.errors."""

import unittest

from carriedparts import errors

PLACED = ("BadLayout", "BadFile", "BadRow", "BadLog", "BadText")
PAIRED = ("Gap", "Waste")
BASES = {
    "PartsError": ValueError,
    "BadDeed": errors.PartsError,
    "BadQuestion": errors.PartsError,
    "Clash": RuntimeError,
    "Gap": RuntimeError,
    "Waste": RuntimeError,
    "Missing": KeyError,
}
BASES.update({name: errors.PartsError for name in PLACED})


class Bases(unittest.TestCase):
    def test_each_error_stands_straight_under_its_base(self):
        for name, base in BASES.items():
            with self.subTest(name=name):
                self.assertEqual(getattr(errors, name).__bases__, (base,))
                self.assertEqual(getattr(errors, name).__module__, "carriedparts.errors")

    def test_none_stands_under_another_one(self):
        for name in BASES:
            for other in BASES:
                if name != other and other != "PartsError":
                    self.assertFalse(issubclass(getattr(errors, name), getattr(errors, other)), (name, other))

    def test_which_are_parts_errors(self):
        under = [name for name in BASES if issubclass(getattr(errors, name), errors.PartsError)]
        self.assertEqual(sorted(under), sorted(("PartsError", "BadDeed", "BadQuestion") + PLACED))

    def test_there_are_no_other_errors(self):
        found = [name for name, thing in vars(errors).items() if isinstance(thing, type)]
        self.assertEqual(sorted(found), sorted(BASES))


class Attributes(unittest.TestCase):
    def test_place(self):
        for name in PLACED:
            for place in ((), (0,), (3, "form")):
                with self.subTest(name=name, place=place):
                    self.assertEqual(getattr(errors, name)(place).place, place)

    def test_word(self):
        self.assertEqual(errors.BadDeed("edition").word, "edition")
        self.assertEqual(repr(errors.BadDeed("unknown")), "BadDeed('unknown')")

    def test_question_is_made_with_a_text(self):
        self.assertEqual(str(errors.BadQuestion("no such thing")), "no such thing")

    def test_clash(self):
        self.assertEqual(errors.Clash("page").name, "page")
        self.assertEqual(repr(errors.Clash("page")), "Clash('page')")

    def test_pairs(self):
        for name in PAIRED:
            error = getattr(errors, name)("index", "page")
            self.assertEqual((error.kind, error.other), ("index", "page"))
            self.assertEqual(repr(error), name + "('index', 'page')")

    def test_missing(self):
        thing = object()
        self.assertEqual(errors.Missing("page").name, "page")
        self.assertIs(errors.Missing(thing).name, thing)
        with self.assertRaises(KeyError):
            raise errors.Missing("page")

    def test_each_is_told_in_words(self):
        for error in (errors.BadLayout(()), errors.BadFile((1,)), errors.Missing(["a"]), errors.Gap("a", "b")):
            self.assertTrue(str(error))


if __name__ == "__main__":
    unittest.main()
