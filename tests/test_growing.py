"""Tests of carriedparts.growing."""

import copy
import itertools
import random
import unittest

import model
from carriedparts.errors import BadLayout, BadQuestion
from carriedparts.growing import fits, widened, with_kinds
from carriedparts.judging import is_exact
from carriedparts.layouts import need_layout
from carriedparts.marks import careful, exact
from things import DEEP, INDEX, LAYOUT, LETTERS, PAGE, SUM, WIDE
from things import is_text, line_of, refusals, some_layouts, things, with_item

TWO = (("a", 1, (), "x", ""), ("b", 1, (), "x", ""))
# "c" has the LETTER of "a", "e" that of "d".
CHAIN = (
    ("a", 1, (), "x", ""),
    ("b", 1, ("a",), "y", ""),
    ("c", 1, (), "x", ""),
    ("d", 2, ("c",), "z", ""),
    ("e", 3, ("b",), "z", ""),
    ("f", 3, (), "w", ""),
)


def some_names(chance, layout, most=6):
    order = model.order_of(layout)
    return tuple(chance.sample(order, chance.randint(0, min(most, len(order)))))


class Case(unittest.TestCase):
    def ask(self, layout, names, told):
        self.assertEqual(widened(layout, names), told)
        alone = set(told) == model.with_all_beneath(layout, names)
        self.assertIs(fits(layout, names), alone)


class Fitting(Case):
    """[19] and [20]"""

    def test_nothing(self):
        for layout in (LAYOUT, TWO, CHAIN, WIDE, DEEP, line_of(24)):
            self.ask(layout, (), ())
            self.assertIs(fits(layout, ()), True)

    def test_ordinary_layouts(self):
        self.ask(LAYOUT, ("page",), ("page",))
        self.ask(LAYOUT, ("sum",), ("page", "index", "sum"))
        self.ask(LAYOUT, ("sum", "page"), ("page", "index", "sum"))
        self.ask(TWO, ("a",), ("a", "b"))
        self.ask(TWO, ("b", "a"), ("a", "b"))
        self.assertEqual([fits(TWO, names) for names in (("a",), ("b",), ("a", "b"))], [False, False, True])

    def test_one_letter_leads_to_the_next(self):
        self.ask(CHAIN, ("a",), ("a", "c"))
        self.ask(CHAIN, ("c",), ("a", "c"))
        self.ask(CHAIN, ("b",), ("a", "b", "c"))
        self.ask(CHAIN, ("d",), ("a", "b", "c", "d", "e"))
        self.ask(CHAIN, ("e",), ("a", "b", "c", "d", "e"))
        self.ask(CHAIN, ("f",), ("f",))
        self.ask(CHAIN, ("f", "d", "e"), tuple("abcdef"))
        self.assertIs(fits(CHAIN, ("f", "d", "e")), True)
        self.assertIs(fits(CHAIN, ("f", "d")), False)
        self.assertIs(fits(CHAIN, ("c", "b")), True)

    def test_marks_and_editions_mean_nothing(self):
        chance = random.Random(2)
        for layout in some_layouts(100, 9, 3):
            other = tuple([(kind[0], 7, kind[2], kind[3], LETTERS) for kind in layout])
            names = some_names(chance, layout)
            self.assertEqual((fits(layout, names), widened(layout, names)), (fits(other, names), widened(other, names)))

    def test_largest_layouts(self):
        same = tuple([kind[:3] + ("a", "") for kind in DEEP])
        self.assertEqual(widened(same, ("abcdefga",)), tuple(model.order_of(same)))
        self.assertIs(fits(same, ("abcdefgx",)), True)
        self.assertIs(fits(same, ("abcdefgw",)), False)
        self.ask(DEEP, ("abcdefgm",), tuple(model.order_of(DEEP)[:13]))
        # Each LETTER leads one KIND further down, so it takes many turns.
        steps = tuple([("k" + LETTERS[at], 1, ("k" + LETTERS[at - 1],) if at % 2 else (), LETTERS[(at + 1) // 2], "")
                       for at in range(24)])
        self.ask(steps, ("kx",), tuple(model.order_of(steps)))
        self.ask(steps, ("ka",), ("ka",))

    def test_against_the_words_of_the_document(self):
        """fits by its words; the WIDENED set is one of those that are asked for, and part of all of them."""
        chance = random.Random(8)
        answers = []
        for layout in some_layouts(250, 7, 12):
            for _ in range(3):
                names = some_names(chance, layout)
                answers.append(fits(layout, names))
                self.assertIs(answers[-1], model.fits(layout, names))
                told = widened(layout, names)
                self.assertEqual(told, tuple([name for name in model.order_of(layout) if name in told]))
                sets = list(model.widened_sets(layout, names))
                self.assertIn(frozenset(told), sets)
                self.assertTrue(all([frozenset(told) <= other for other in sets]))
                self.assertIs(answers[-1], set(told) == model.with_all_beneath(layout, names))
        self.assertGreater(min(answers.count(True), answers.count(False)), 100)

    def test_exact_exactly_if_they_fit(self):
        """[19], the fact: with a further KIND of a greater EDITION, whatever its LETTER and MARK."""
        chance = random.Random(4)
        answers = []
        for layout in some_layouts(900, 7, 14):
            layout = careful(layout)
            if not is_exact(layout) or layout[-1][1] == 99:
                continue
            names = some_names(chance, layout)
            for letter, mark in ((layout[0][3], ""), ("z", LETTERS)):
                longer = with_kinds(layout, ("new", layout[-1][1] + 1, names, letter, mark))
                self.assertIs(is_exact(careful(longer)), fits(layout, names))
                self.assertIs(exact(longer) is not None, fits(layout, names))
            answers.append(fits(layout, names))
        self.assertGreater(min(answers.count(True), answers.count(False)), 40)


class Further(Case):
    """with_kinds"""

    def test_ordinary_kinds(self):
        self.assertEqual(with_kinds(LAYOUT[:1], INDEX), LAYOUT[:2])
        self.assertEqual(with_kinds(LAYOUT[:1], INDEX, SUM), LAYOUT)
        self.assertEqual(with_kinds(LAYOUT, ("more", 3, ("sum", "page"), "m", "")),
                         LAYOUT + (("more", 3, ("sum", "page"), "m", ""),))

    def test_no_further_kinds(self):
        for layout in (LAYOUT, WIDE, DEEP, line_of(1)):
            self.assertEqual(with_kinds(layout), layout)

    def test_place_is_that_in_the_longer_tuple(self):
        for thing in things():
            for at in range(3):
                kinds = with_item((INDEX, SUM, ("more", 3, (), "m", "")), at, thing)
                self.refuse((1 + at,), LAYOUT[:1], kinds)
        self.refuse((3,), LAYOUT, (PAGE,))
        self.refuse((3,), LAYOUT, (("more", 2, (), "m", ""),))
        self.refuse((1,), LAYOUT[:1], (SUM, INDEX))
        self.refuse((2,), LAYOUT[:1], (INDEX, INDEX))

    def test_number_of_kinds(self):
        line = line_of(24)
        for many in (1, 12, 23):
            self.assertEqual(with_kinds(line[:many], *line[many:]), line)
            self.refuse((), line[:many], line[many:] + (PAGE,))
        self.refuse((), line, (None,))
        self.refuse((), line, (PAGE,))
        self.refuse((1,), line[:1], (None,) * 23)

    def refuse(self, place, layout, kinds):
        with self.assertRaises(BadLayout) as caught:
            with_kinds(layout, *kinds)
        self.assertEqual(caught.exception.place, place)


class Errors(Case):
    """[1] and the interface: which errors come, and which first."""

    def test_no_layout_is_refused_first(self):
        for layout, place in refusals():
            for call in (
                    lambda: fits(layout, ()), lambda: fits(layout, None), lambda: widened(layout, ("page",)),
                    lambda: widened(layout, ["page"]), lambda: with_kinds(layout), lambda: with_kinds(layout, None),
                    lambda: with_kinds(layout, INDEX)):
                with self.assertRaises(BadLayout) as caught:
                    call()
                self.assertEqual(caught.exception.place, place)

    def test_questions(self):
        for thing in things() + [("page", "nowhere"), ("page", None), ("page", ["page"]), ("index", "page", "index"),
                                 ["page", "index"], "page", ("Page",), ("page ",)]:
            if isinstance(thing, tuple) and thing in ((), ("page",)):
                continue
            for call in (fits, widened):
                with self.subTest(thing=thing), self.assertRaises(BadQuestion):
                    call(LAYOUT, thing)

    def test_each_of_the_names(self):
        for thing in things():
            for at in range(2):
                names = with_item(("page", "sum"), at, thing)
                if is_text(thing, "page|index") and names != ("page", "page"):
                    self.assertIs(fits(LAYOUT, names), True)
                    continue
                for call in (fits, widened):
                    with self.subTest(thing=thing), self.assertRaises(BadQuestion):
                        call(LAYOUT, names)

    def test_number_of_names(self):
        names = tuple(model.order_of(line_of(7)))
        for many in range(7):
            self.assertEqual(len(widened(line_of(7), names[:many])), 7 if many else 0)
        for wrong in (names, names[:6] + names[:1], names[:1] * 2, names[:1] * 7):
            for call in (fits, widened):
                with self.assertRaises(BadQuestion):
                    call(line_of(7), wrong)


class Calls(Case):
    """[1], what holds for every call."""

    def test_nothing_passed_is_changed(self):
        names = ["page"]
        kind = ["more", 3, ["sum"], "m", ""]
        ahead = copy.deepcopy((names, kind))
        with self.assertRaises(BadQuestion):
            widened(LAYOUT, names)
        with self.assertRaises(BadLayout):
            with_kinds(LAYOUT, kind)
        self.assertEqual((names, kind), ahead)

    def test_equal_calls_return_equal_results(self):
        for names in itertools.permutations(("a", "d", "f")):
            self.assertEqual(widened(CHAIN, names), widened(tuple(list(CHAIN)), tuple(list(names))))
            self.assertIs(type(widened(CHAIN, names)), tuple)
            self.assertIs(type(fits(CHAIN, names)), bool)
        longer = with_kinds(LAYOUT[:1], INDEX)
        self.assertIs(need_layout(longer), longer)
        self.assertEqual(with_kinds(LAYOUT[:1], INDEX), longer)


class Examples(Case):
    def test_fits_and_widened(self):
        two = (("a", 1, (), "x", ""), ("b", 1, (), "x", ""))
        self.assertEqual((fits(two, ("a",)), widened(two, ("a",))), (False, ("a", "b")))


if __name__ == "__main__":
    unittest.main()
