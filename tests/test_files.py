"""Tests of carriedparts.files."""

import copy
import itertools
import unittest

from carriedparts import files
from carriedparts.errors import BadFile, BadLayout, Missing
from carriedparts.files import is_current, is_sound, need_file, stale
from carriedparts.layouts import beneath, names, sources
from things import FILE, LAYOUT, PAGE, WIDE
from things import is_text, is_whole, line_of, some_layouts, things, with_item

PARTS = (("a", 1), ("b", 2), ("c", (2,)), ("d", (1, 2)), ("e", (1, 2)), ("f", 3))


class Case(unittest.TestCase):
    def refuse(self, layout, thing, place):
        calls = (need_file, stale, is_sound, lambda one, other: is_current(one, other, []))
        for call in calls:
            with self.assertRaises(BadFile) as caught:
                call(layout, thing)
            self.assertEqual(caught.exception.place, place, thing)
            self.assertIs(type(caught.exception.place), tuple)

    def take(self, layout, thing):
        self.assertIs(need_file(layout, thing), thing)


class Form(Case):
    """[4], what is a FILE, and where another thing is none."""

    def test_limit(self):
        self.assertEqual(files.MOST_CONTENT, 999999)

    def test_ordinary_files(self):
        self.take(LAYOUT, FILE)
        self.take(WIDE, PARTS)
        for many in range(7):
            for parts in itertools.combinations(PARTS, many):
                self.take(WIDE, parts)

    def test_empty_file(self):
        self.take(LAYOUT, ())
        self.take(line_of(24), ())

    def test_whole(self):
        for thing in things():
            with self.subTest(thing=thing):
                if not isinstance(thing, tuple):
                    self.refuse(LAYOUT, thing, ())
                elif thing not in ((), (("page", 5),)):
                    self.refuse(LAYOUT, thing, (0,))

    def test_number_of_parts(self):
        layout = line_of(24)
        full = tuple([(name, 0) for name in names(layout)])
        self.take(layout, full)
        self.refuse(layout, full + (("ka", 0),), ())
        self.refuse(layout, (None,) * 25, ())
        self.refuse(layout, (None,) * 24, (0,))
        self.refuse(LAYOUT[:1], (("page", 0),) * 25, ())
        self.refuse(LAYOUT[:1], (("page", 0),) * 24, (1,))
        self.refuse(layout, list(full), ())
        self.refuse(layout, dict(full), ())

    def test_part(self):
        for at in range(3):
            for thing in things():
                if at == 0 and isinstance(thing, tuple) and thing == ("page", 5):
                    continue
                with self.subTest(thing=thing, at=at):
                    self.refuse(LAYOUT, with_item(FILE, at, thing), (at,))

    def test_number_of_members(self):
        self.refuse(LAYOUT, (("page",),), (0,))
        self.refuse(LAYOUT, (("page", 5, 5),), (0,))
        self.refuse(LAYOUT, (["page", 5],), (0,))

    def test_name(self):
        for thing in things():
            with self.subTest(thing=thing):
                if is_text(thing, "page"):
                    self.take(LAYOUT, ((thing, 5),))
                else:
                    self.refuse(LAYOUT, ((thing, 5),), (0,))
                if not is_text(thing, "index"):
                    self.refuse(LAYOUT, (("page", 5), (thing, (5,))), (1,))

    def test_content_of_a_source(self):
        taken = 0
        for thing in things():
            with self.subTest(thing=thing):
                if is_whole(thing, 0, 999999):
                    taken += 1
                    self.take(LAYOUT, (("page", thing),))
                else:
                    self.refuse(LAYOUT, (("page", thing),), (0,))
        self.assertEqual(taken, 6)
        for content in (0, 1, 999998, 999999):
            self.take(LAYOUT, (("page", content),))
        for content in (-1, 1000000, True, False, (5,), "5", None):
            self.refuse(LAYOUT, (("page", content),), (0,))

    def test_content_of_a_made_kind(self):
        for name in ("index", "sum"):
            for thing in things():
                with self.subTest(thing=thing, name=name):
                    if isinstance(thing, tuple) and len(thing) == 1 and is_whole(thing[0], 0, 999999):
                        self.take(LAYOUT, ((name, thing),))
                    else:
                        self.refuse(LAYOUT, ((name, thing),), (0,))
                    if is_whole(thing, 0, 999999):
                        self.take(WIDE, (("d", (7, thing)),))
                        self.take(WIDE, (("d", (thing, 7)),))
                    else:
                        self.refuse(WIDE, (("d", (7, thing)),), (0,))
                        self.refuse(WIDE, (("d", (thing, 7)),), (0,))

    def test_as_many_contents_as_sources(self):
        self.take(WIDE, (("c", (0,)), ("d", (0, 999999)), ("e", (999999, 0))))
        for content in ((), (1, 2), 1, [1]):
            self.refuse(WIDE, (("c", content),), (0,))
        for content in ((), (1,), (1, 2, 3), 1, [1, 2]):
            self.refuse(WIDE, (("d", content),), (0,))
            self.refuse(WIDE, (("a", 1), ("e", content)), (1,))
        for number in (-1, 1000000, True, False, None):
            self.refuse(WIDE, (("d", (number, 2)),), (0,))

    def test_order(self):
        for one, other in itertools.combinations(PARTS, 2):
            self.refuse(WIDE, (other, one), (1,))
        for part in PARTS:
            self.refuse(WIDE, (part, part), (1,))
        self.refuse(WIDE, (PARTS[0], PARTS[2], PARTS[1]), (2,))
        self.refuse(WIDE, (PARTS[0], PARTS[1], PARTS[0]), (2,))

    def test_first_wrong_part_is_told(self):
        for tail in ((None,), (("page", 5),), (("sum", -1),)):
            self.refuse(LAYOUT, (("page", 5), None) + tail, (1,))
            self.refuse(LAYOUT, (("sum", (5,)), ("page", 5)) + tail, (1,))
            self.refuse(LAYOUT, (("page", -1), ("page", 5)) + tail, (0,))
            self.refuse(LAYOUT, FILE + tail, (3,))

    def test_wrong_numbers_behind_right_parts(self):
        """Also with a further part behind them that is wrong by its form, or none."""
        for number in (-1, 1000000, True, False, None, "5", (5,), [5]):
            for at, (name, content) in enumerate(PARTS):
                many = len(content) if isinstance(content, tuple) else 1
                for where in range(many):
                    wrong = with_item((7,) * many, where, number)
                    file = with_item(PARTS, at, (name, wrong if isinstance(content, tuple) else number))
                    self.refuse(WIDE, file, (at,))
                    self.refuse(WIDE, file[:at + 1], (at,))
                    self.refuse(WIDE, file[:at + 1] + (None,), (at,))
                    self.refuse(WIDE, (None,) + file, (0,))

    def test_a_file_of_another_layout(self):
        self.refuse(LAYOUT[:2], FILE, (2,))
        self.refuse((PAGE, ("index", 2, (), "i", "")), FILE, (1,))


class Current(Case):
    """[5], which parts are CURRENT."""

    def test_a_source_is_always_current(self):
        self.assertIs(is_current(LAYOUT, (("page", 5),), "page"), True)
        self.assertIs(is_current(WIDE, (("f", 0),), "f"), True)
        self.assertIs(is_current(WIDE, with_item(PARTS, 0, ("a", 9)), "a"), True)

    def test_all_current(self):
        for name in names(WIDE):
            self.assertIs(is_current(WIDE, PARTS, name), True)
        self.assertEqual(stale(WIDE, PARTS), ())
        self.assertIs(is_sound(WIDE, PARTS), True)
        self.assertIs(is_sound(LAYOUT, FILE), True)

    def test_empty_file_is_sound(self):
        self.assertIs(is_sound(LAYOUT, ()), True)
        self.assertEqual(stale(LAYOUT, ()), ())

    def test_other_content(self):
        file = (("page", 6), ("index", (5,)), ("sum", (6,)))
        self.assertIs(is_current(LAYOUT, file, "page"), True)
        self.assertIs(is_current(LAYOUT, file, "index"), False)
        # It has the contents of its SOURCES, but is made from what is not CURRENT.
        self.assertIs(is_current(LAYOUT, file, "sum"), False)
        self.assertEqual(stale(LAYOUT, file), ("index", "sum"))
        self.assertIs(is_sound(LAYOUT, file), False)

    def test_only_the_last_part_is_stale(self):
        file = (("page", 5), ("index", (5,)), ("sum", (6,)))
        self.assertEqual(stale(LAYOUT, file), ("sum",))
        self.assertIs(is_sound(LAYOUT, file), False)

    def test_base_does_not_stand(self):
        self.assertEqual(stale(LAYOUT, (("page", 5), ("sum", (5,)))), ("sum",))
        self.assertEqual(stale(LAYOUT, (("index", (5,)), ("sum", (5,)))), ("index", "sum"))
        self.assertEqual(stale(LAYOUT, (("sum", (0,)),)), ("sum",))
        self.assertIs(is_sound(LAYOUT, (("index", (5,)),)), False)

    def test_one_of_several_bases(self):
        self.assertEqual(stale(WIDE, PARTS[1:]), ("d", "e"))
        self.assertEqual(stale(WIDE, PARTS[:3] + PARTS[4:]), ("e",))
        self.assertEqual(stale(WIDE, PARTS[:1] + PARTS[2:]), ("c", "d", "e"))
        self.assertEqual(stale(WIDE, with_item(PARTS, 1, ("b", 9))), ("c", "d", "e"))

    def test_contents_stand_in_order_of_the_sources(self):
        self.assertEqual(stale(WIDE, with_item(PARTS, 3, ("d", (2, 1)))), ("d", "e"))
        self.assertEqual(stale(WIDE, with_item(PARTS, 4, ("e", (2, 1)))), ("e",))

    def test_missing(self):
        for thing in things():
            if not is_text(thing, "page|index"):
                with self.subTest(thing=thing), self.assertRaises(Missing) as caught:
                    is_current(LAYOUT, FILE[:2], thing)
                self.assertIs(caught.exception.name, thing)
        for name in names(LAYOUT):
            with self.assertRaises(Missing) as caught:
                is_current(LAYOUT, (), name)
            self.assertEqual(caught.exception.name, name)

    def test_against_the_words_of_the_document(self):
        layouts = [layout for layout in some_layouts(80) if len(layout) <= 6] + [WIDE]
        for layout in layouts:
            for choice in itertools.product((None, 1, 2), repeat=len(layout)):
                file = tuple([part for part in map(self.part, [layout] * len(layout), layout, choice) if part])
                has = dict(file)

                def current(name):
                    bases = dict([(kind[0], kind[2]) for kind in layout])[name]
                    if not bases:
                        return name in has
                    if name not in has or not all(current(base) for base in bases):
                        return False
                    return all(base in has for base in beneath(layout, name)) and list(has[name]) == [
                        has[source] for source in sources(layout, name)]

                told = [name for name, _ in file if not current(name)]
                self.assertEqual(stale(layout, file), tuple(told))
                self.assertIs(is_sound(layout, file), not told)
                for name, _ in file:
                    self.assertIs(is_current(layout, file, name), name not in told)

    @staticmethod
    def part(layout, kind, content):
        if content is None:
            return None
        if not kind[2]:
            return (kind[0], content)
        return (kind[0], (content,) * len(sources(layout, kind[0])))


class Errors(Case):
    """[1] and the interface: which errors come first."""

    def test_no_layout_is_refused_first(self):
        bad = [(thing, ()) for thing in (None, True, 5, "page", b"", [], {}, set(), (), object(), list(LAYOUT))]
        for layout, place in bad + [((PAGE, PAGE), (1,)), ((None,), (0,))]:
            for file in (FILE, (), None, [], "x", (None,)):
                for call in (need_file, stale, is_sound, lambda one, other: is_current(one, other, "nowhere")):
                    with self.assertRaises(BadLayout) as caught:
                        call(layout, file)
                    self.assertEqual(caught.exception.place, place)

    def test_no_file_is_refused_ahead_of_a_missing_name(self):
        for name in ("nowhere", None, [], {}, object()):
            with self.assertRaises(BadFile) as caught:
                is_current(LAYOUT, (None,), name)
            self.assertEqual(caught.exception.place, (0,))


class Calls(Case):
    """[1], what holds for every call."""

    def test_nothing_passed_is_changed(self):
        for thing in ([["page", 5]], {"page": [5]}, (["page", 5],), (("page", [5]),), (("index", [5]),)):
            ahead = copy.deepcopy(thing)
            with self.assertRaises(BadFile):
                need_file(LAYOUT, thing)
            with self.assertRaises(Missing):
                is_current(LAYOUT, FILE, thing)
            self.assertEqual(thing, ahead)

    def test_equal_calls_return_equal_results(self):
        file = (("page", 6),) + FILE[1:]
        for _ in range(2):
            self.assertEqual(stale(LAYOUT, file), ("index", "sum"))
            self.assertEqual(stale(LAYOUT, FILE), ())
            self.assertIs(is_sound(LAYOUT, file), False)
            self.assertIs(is_sound(LAYOUT, FILE), True)
            self.assertIs(type(stale(LAYOUT, file)), tuple)


if __name__ == "__main__":
    unittest.main()
