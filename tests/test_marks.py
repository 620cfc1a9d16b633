"""Tests of carriedparts.marks."""

import unittest

import model
from carriedparts.errors import BadLayout
from carriedparts.judging import is_exact, is_safe
from carriedparts.layouts import need_layout
from carriedparts.marks import careful, exact, splits
from things import DEEP, LAYOUT, LETTERS, PAGE, WIDE, line_of, refusals, some_layouts

BARE = (PAGE, ("index", 2, ("page",), "i", ""))
SAME = (("a", 7, (), "x", LETTERS), ("b", 7, ("a",), "x", LETTERS), ("c", 7, (), "x", ""))
# "x" is the LETTER of a KIND beneath "c" and of another one, "y" that of two beneath "e".
SHARED = (
    ("a", 1, (), "x", ""),
    ("b", 1, (), "x", ""),
    ("c", 2, ("a",), "y", "y"),
    ("d", 2, ("b",), "y", ""),
    ("e", 3, ("d", "c"), "z", "z"),
    ("f", 4, ("c",), "z", "abc"),
)


def marks(layout):
    return [kind[4] for kind in layout]


def small_layouts():
    """LAYOUTs of which all MARKs can be gone through."""
    told = [layout for layout in some_layouts(60, 4, 51) if len({kind[3] for kind in layout}) <= 3]
    return told + [LAYOUT, BARE, SAME, SHARED[:4], WIDE[:4]]


class Careful(unittest.TestCase):
    """[13]"""

    def test_careful(self):
        self.assertEqual(careful(BARE), (PAGE, ("index", 2, ("page",), "i", "p")))
        self.assertEqual(marks(careful(LAYOUT)), ["", "p", "ip"])
        self.assertEqual(marks(careful(SHARED)), ["", "", "x", "x", "xy", "xy"])
        self.assertEqual(marks(careful(WIDE)), ["", "", "y", "xy", "xyz", ""])

    def test_only_the_marks_are_others(self):
        for layout in (LAYOUT, BARE, SHARED, WIDE, DEEP):
            self.assertEqual([kind[:4] for kind in careful(layout)], [kind[:4] for kind in layout])
            self.assertEqual(need_layout(careful(layout))[0][4], "")
            self.assertEqual(careful(careful(layout)), careful(layout))
            self.assertEqual(careful(model.with_marks(layout, [LETTERS] * len(layout))), careful(layout))
            self.assertEqual(careful(model.with_marks(layout, [""] * len(layout))), careful(layout))

    def test_limits(self):
        self.assertEqual(careful(DEEP), DEEP)
        self.assertEqual(careful((PAGE[:4] + (LETTERS,),)), (PAGE,))
        self.assertEqual(careful(line_of(24)), line_of(24))

    def test_one_edition(self):
        self.assertEqual(marks(careful(SAME)), ["", "", ""])

    def test_least_marks_that_are_safe(self):
        """By going through all MARKs of small LAYOUTs."""
        for layout in small_layouts():
            told = careful(layout)
            self.assertEqual(model.gaps(told), [])
            self.assertIs(is_safe(told), True)
            for other in model.all_marks(layout):
                if not model.gaps(other):
                    for mark, wider in zip(marks(told), marks(other)):
                        self.assertLessEqual(set(mark), set(wider), (layout, other))

    def test_marks_are_those_of_the_words(self):
        for layout in some_layouts(200):
            for kind in careful(layout):
                older = [other for other in model.beneath(layout, kind[0]) if model.is_older(layout, other, kind[0])]
                self.assertEqual(kind[4], "".join(sorted({model.kind_of(layout, other)[3] for other in older})))


class Splits(unittest.TestCase):
    """[14]"""

    def test_splits(self):
        self.assertEqual(list(splits(LAYOUT)), [])
        self.assertEqual(list(splits(SHARED)), [("c", "x"), ("d", "x"), ("f", "x"), ("f", "y")])
        self.assertEqual(list(splits(WIDE)), [("e", "x")])

    def test_order(self):
        layout = (("a", 1, (), "z", ""), ("b", 1, (), "b", ""), ("c", 1, (), "z", ""), ("d", 1, (), "b", ""),
                  ("z", 2, ("a", "b"), "q", ""), ("e", 2, ("b", "a"), "q", ""))
        self.assertEqual(list(splits(layout)), [("z", "b"), ("z", "z"), ("e", "b"), ("e", "z")])

    def test_kinds_of_the_same_edition_do_not_count(self):
        self.assertEqual(list(splits(SAME)), [])
        # Neither beside it, nor beneath it, nor itself.
        beside = (("a", 1, (), "x", ""), ("b", 2, (), "x", ""), ("c", 2, ("a",), "x", ""))
        self.assertEqual(list(splits(beside)), [])
        below = (("a", 1, (), "x", ""), ("b", 2, (), "x", ""), ("c", 2, ("b",), "y", ""))
        self.assertEqual(list(splits(below)), [])
        self.assertEqual(list(splits(below[:2] + (("c", 3, ("b",), "y", ""),))), [("c", "x")])

    def test_marks_do_not_count(self):
        for layout in (SHARED, WIDE, LAYOUT):
            for mark in ("", LETTERS, "x"):
                self.assertEqual(list(splits(model.with_marks(layout, [mark] * len(layout)))), list(splits(layout)))

    def test_limits(self):
        self.assertEqual(list(splits((PAGE,))), [])
        self.assertEqual(list(splits(line_of(24))), [])
        self.assertEqual(list(splits(DEEP)), [])
        # Of all but the last KIND, which is made from the first one alone.
        one = tuple([kind[:1] + (1, (), "x", "") for kind in DEEP[:23]]) + (("last", 2, ("abcdefga",), "x", ""),)
        self.assertEqual(list(splits(one)), [("last", "x")])

    def test_against_the_words_of_the_document(self):
        for layout in list(some_layouts(300)) + [LAYOUT, WIDE, SHARED, SAME]:
            self.assertEqual(list(splits(layout)), model.splits(layout))


class Exact(unittest.TestCase):
    """[13] and [14]"""

    def test_exact(self):
        self.assertEqual(exact(BARE), careful(BARE))
        self.assertEqual(exact(LAYOUT), LAYOUT)
        self.assertEqual(exact(DEEP), DEEP)
        self.assertEqual(marks(exact(SAME)), ["", "", ""])
        self.assertIsNone(exact(SHARED))
        self.assertIsNone(exact(WIDE))

    def test_whether_any_marks_make_it_exact(self):
        """By going through all MARKs of small LAYOUTs."""
        found = []
        for layout in small_layouts():
            can_be = any([not model.gaps(other) and not model.wastes(other) for other in model.all_marks(layout)])
            self.assertEqual(exact(layout), careful(layout) if can_be else None)
            self.assertIs(is_exact(careful(layout)), can_be)
            self.assertIs(list(splits(layout)) == [], can_be)
            found.append(can_be)
        self.assertEqual(len(set(found)), 2)


class Errors(unittest.TestCase):
    """[1] and the interface: which errors come."""

    def test_no_layout_is_refused(self):
        for layout, place in refusals():
            for call in (careful, exact, lambda thing: next(splits(thing)), lambda thing: list(splits(thing))):
                with self.assertRaises(BadLayout) as caught:
                    call(layout)
                self.assertEqual(caught.exception.place, place)

    def test_generator_raises_when_the_first_item_is_requested(self):
        asked = splits(None)
        with self.assertRaises(BadLayout):
            next(asked)
        with self.assertRaises(StopIteration):
            next(splits(LAYOUT))


class Calls(unittest.TestCase):
    """[1], what holds for every call."""

    def test_equal_calls_return_equal_results(self):
        same = tuple([tuple(list(kind)) for kind in SHARED])
        for call in (careful, exact, lambda thing: list(splits(thing))):
            self.assertEqual(call(SHARED), call(same))
        self.assertEqual([type(thing) for thing in (careful(SHARED),) + careful(SHARED)], [tuple] * 7)


class Examples(unittest.TestCase):
    def test_careful(self):
        bare = (("page", 1, (), "p", ""), ("index", 2, ("page",), "i", ""))
        self.assertEqual(careful(bare), (("page", 1, (), "p", ""), ("index", 2, ("page",), "i", "p")))


if __name__ == "__main__":
    unittest.main()
