"""Tests of carriedparts.letters."""

import itertools
import unittest

import model
from carriedparts.errors import BadLayout, BadQuestion, Missing
from carriedparts.layouts import names, need_layout
from carriedparts.letters import are_alike, can_share, columns, fewest, parting_row, unlike
from carriedparts.programs import need_row, played
from things import DEEP, LAYOUT, LETTERS, PAGE, WIDE
from things import altered_layouts, is_text, line_of, refusals, some_layouts, things, with_item

BARE = (PAGE, ("index", 2, ("page",), "i", ""))
SAME = (("a", 7, (), "a", LETTERS), ("b", 7, ("a",), "b", LETTERS), ("c", 7, (), "c", ""))
# Two sources that are watched by others in turn, so that none of the LETTERs can be shared.
TURNS = (
    ("a", 1, (), "a", ""),
    ("b", 1, (), "b", ""),
    ("c", 2, ("a",), "c", "a"),
    ("d", 3, ("b",), "d", "b"),
    ("e", 3, ("c",), "e", "ac"),
)


def others_of(layout):
    """The LAYOUT with other LETTERs and MARKs: without any MARKs, with all, with one LETTER less, with turned ones."""
    yield model.with_marks(layout, [""] * len(layout))
    yield model.with_marks(layout, [LETTERS] * len(layout))
    yield model.with_marks(layout, [kind[4][1:] for kind in layout])
    yield tuple([kind[:3] + (other[3], kind[4]) for kind, other in zip(layout, layout[::-1])])


def watching(layout):
    return [(u, k) for u, k in model.pairs(layout) if model.watches(layout, u, k)]


def differences(one, other):
    return [(u, k) for u, k in model.pairs(one) if model.watches(one, u, k) != model.watches(other, u, k)]


def stand_otherwise(files, vain):
    return list(files[0]) != list(files[1])


class Alike(unittest.TestCase):
    """[12]"""

    def test_alike(self):
        self.assertIs(are_alike(LAYOUT, LAYOUT), True)
        self.assertIs(are_alike(LAYOUT, model.with_marks(LAYOUT, ["", "", ""])), False)
        renamed = (("page", 1, (), "x", ""), ("index", 2, ("page",), "y", "x"), ("sum", 3, ("index",), "x", "xy"))
        self.assertIs(are_alike(LAYOUT, renamed), True)
        self.assertIs(are_alike(renamed, LAYOUT), True)
        self.assertIs(are_alike(LAYOUT, with_item(renamed, 2, ("sum", 3, ("index",), "x", "y"))), False)

    def test_only_what_is_older_counts(self):
        self.assertIs(are_alike(SAME, model.with_marks(SAME, ["", "", LETTERS])), True)
        self.assertIs(are_alike(DEEP, model.with_marks(DEEP, [LETTERS] * 24)), True)
        self.assertIs(are_alike((PAGE,), (("page", 1, (), "q", LETTERS),)), True)

    def test_letters_that_no_kind_has(self):
        self.assertIs(are_alike(LAYOUT, model.with_marks(LAYOUT, ["q", "pq", "aipq"])), True)

    def test_against_the_words_of_the_document(self):
        found = []
        for layout in list(some_layouts(150)) + [LAYOUT, WIDE, TURNS]:
            for other in others_of(layout):
                told = watching(layout) == watching(other)
                self.assertIs(are_alike(layout, other), told)
                self.assertIs(parting_row(layout, other) is None, told)
                found.append(told)
        self.assertEqual(len(set(found)), 2)

    def test_small_layouts(self):
        """By going through all ROWs of small LAYOUTs, however long: by ALIKE ones the same KINDs always stand."""
        found = []
        for layout in some_layouts(40, 3, 61):
            for other in others_of(layout):
                told = model.fewest_steps([layout, other], stand_otherwise, 10 ** 6)
                self.assertIs(are_alike(layout, other), told is None, (layout, other))
                found.append(told is None)
        self.assertEqual(len(set(found)), 2)


class PartingRow(unittest.TestCase):
    """[12]"""

    def check(self, one, other):
        row = parting_row(one, other)
        apart = differences(one, other)
        if not apart:
            self.assertIsNone(row)
            return None
        self.assertIs(need_row(one, row), row)
        self.assertIs(need_row(other, row), row)
        self.assertEqual(len(row), min([model.cost(one, u, k) for u, k in apart]))
        for many in range(len(row)):
            self.assertEqual(list(dict(played(one, row[:many]))), list(dict(played(other, row[:many]))))
        self.assertNotEqual(list(dict(played(one, row))), list(dict(played(other, row))))
        return row

    def test_none(self):
        for layout in (LAYOUT, SAME, WIDE, DEEP, (PAGE,), line_of(24)):
            self.assertIsNone(parting_row(layout, layout))
        self.assertIsNone(parting_row(SAME, model.with_marks(SAME, [LETTERS] * 3)))

    def test_what_is_beneath(self):
        row = self.check(LAYOUT, with_item(LAYOUT, 2, LAYOUT[2][:4] + ("i",)))
        self.assertEqual(len(row), 4)
        row = self.check(LAYOUT, with_item(LAYOUT, 2, LAYOUT[2][:4] + ("p",)))
        self.assertEqual(len(row), 4)
        self.assertEqual(len(self.check(BARE, LAYOUT[:2])), 3)

    def test_what_is_not_beneath(self):
        self.assertEqual(len(self.check(TURNS, with_item(TURNS, 3, TURNS[3][:4] + ("ab",)))), 3)
        self.assertEqual(len(self.check(TURNS, with_item(TURNS, 3, TURNS[3][:4] + ("bc",)))), 4)
        self.assertEqual(len(self.check(TURNS, with_item(TURNS, 4, TURNS[4][:4] + ("abc",)))), 4)

    def test_limits(self):
        bare, full = [model.with_marks(DEEP, [mark] * 24) for mark in ("", LETTERS)]
        self.assertEqual(len(self.check(bare, full)), 3)
        self.assertEqual(len(self.check(full, with_item(full, 23, DEEP[23][:4] + (LETTERS[1:],)))), 25)
        self.assertIsNone(self.check(DEEP, full))

    def test_rows_do_what_is_asked(self):
        for layout in list(some_layouts(120)) + [LAYOUT, WIDE, TURNS]:
            for other in others_of(layout):
                self.check(layout, other)
                self.check(other, layout)

    def test_no_shorter_row_does_it(self):
        """For small LAYOUTs, by going through all shorter ROWs."""
        lengths = {}
        pairs = [(layout, other) for layout in some_layouts(40, 4, 67) for other in others_of(layout)]
        pairs += [(layout, other) for layout in altered_layouts(30, 4, 71) for other in list(others_of(layout))[2:]]
        for one in altered_layouts(25, 5, 73):
            letters = {kind[0]: kind[3] for kind in one}
            exact = [kind[:4] + ("".join(sorted([letters[base] for base in model.beneath(one, kind[0])])),) for kind in one]
            pairs.append((one, tuple(exact)))
        for one, other in pairs:
            row = self.check(one, other)
            if row is not None:
                self.assertEqual(model.fewest_steps([one, other], stand_otherwise, len(row)), len(row), (one, other))
                lengths[len(row)] = True
        self.assertLessEqual({2, 3, 4, 5}, set(lengths))


class Columns(unittest.TestCase):
    """[15]"""

    def test_columns(self):
        self.assertEqual(columns(LAYOUT), {"page": "11", "index": "1", "sum": ""})
        self.assertEqual(columns(BARE), {"page": "0", "index": ""})
        self.assertEqual(columns(TURNS), {"a": "101", "b": "010", "c": "10", "d": "", "e": ""})
        self.assertEqual(columns(WIDE), {"a": "1101", "b": "0101", "c": "11", "d": "01", "e": "", "f": ""})

    def test_kinds_of_the_newest_edition(self):
        self.assertEqual(columns(SAME), {"a": "", "b": "", "c": ""})
        self.assertEqual(columns((PAGE,)), {"page": ""})
        self.assertEqual(set(columns(line_of(24)).values()), {""})

    def test_order_of_the_names(self):
        for layout in (LAYOUT, WIDE, SAME, DEEP, line_of(24)):
            self.assertEqual(tuple(columns(layout)), names(layout))

    def test_largest(self):
        self.assertEqual(columns(DEEP), {name: "1" * (23 - at) for at, name in enumerate(names(DEEP))})
        bare = model.with_marks(DEEP, [""] * 24)
        self.assertEqual(columns(bare), {name: "0" * (23 - at) for at, name in enumerate(names(DEEP))})

    def test_against_the_words_of_the_document(self):
        for layout in list(some_layouts(200)) + [LAYOUT, WIDE, TURNS]:
            self.assertEqual(columns(layout), {name: model.column(layout, name) for name in names(layout)})

    def test_result_belongs_to_the_caller(self):
        told = columns(LAYOUT)
        told.clear()
        self.assertEqual(columns(LAYOUT), {"page": "11", "index": "1", "sum": ""})


def alike_with(layout, letters):
    """Whether a LAYOUT with these LETTERs can be ALIKE: whether no U watches only some of the OLDER KINDs with one."""
    order = names(layout)
    for u in order:
        older = [k for k in order if model.is_older(layout, k, u)]
        for one, other in itertools.combinations(older, 2):
            if letters[one] == letters[other] and model.watches(layout, u, one) != model.watches(layout, u, other):
                return False
    return True


class Sharing(unittest.TestCase):
    """[15]"""

    def test_can_share(self):
        self.assertIs(can_share(LAYOUT, "page", "index"), True)
        self.assertIs(can_share(LAYOUT, "sum", "page"), True)
        told = [[can_share(TURNS, one, other) for other in names(TURNS)] for one in names(TURNS)]
        self.assertEqual(told, [
            [True, False, True, True, True], [False, True, False, True, True], [True, False, True, True, True],
            [True, True, True, True, True], [True, True, True, True, True]])

    def test_with_itself(self):
        for layout in (LAYOUT, TURNS, WIDE, DEEP, SAME, (PAGE,)):
            for name in names(layout):
                self.assertIs(can_share(layout, name, name), True)

    def test_whatever_letters_they_have(self):
        layout = (("a", 1, (), "x", ""), ("b", 1, (), "x", ""), ("c", 2, (), "y", ""))
        self.assertIs(can_share(layout, "a", "b"), True)
        self.assertIs(can_share(with_item(layout, 1, ("b", 1, (), "z", "")), "a", "b"), True)
        self.assertIs(can_share(layout[:1] + (("b", 1, (), "z", ""), ("c", 2, (), "y", "z")), "a", "b"), False)

    def test_against_the_words_of_the_document(self):
        for layout in list(some_layouts(120)) + [LAYOUT, WIDE, TURNS]:
            order = names(layout)
            for one, other in model.pairs(layout):
                letters = {name: name for name in order}
                letters[one] = letters[other]
                self.assertIs(can_share(layout, one, other), alike_with(layout, letters))


def many_letters(layout):
    return len({kind[3] for kind in layout})


class Fewest(unittest.TestCase):
    """[15]"""

    def check(self, layout):
        """[15]: fewest and unlike show each other to be the best."""
        told = fewest(layout)
        self.assertIs(need_layout(told), told)
        self.assertEqual([kind[:3] for kind in told], [kind[:3] for kind in layout])
        self.assertEqual(watching(told), watching(layout))
        self.assertIs(are_alike(layout, told), True)
        for kind in told:
            older = {other[3] for other in told if other[1] < kind[1]}
            self.assertLessEqual(set(kind[4]), older)
        apart = unlike(layout)
        self.assertIs(type(apart), tuple)
        self.assertEqual(len(apart), many_letters(told))
        self.assertEqual(sorted(apart, key=names(layout).index), list(apart))
        self.assertEqual(len(set(apart)), len(apart))
        for one, other in itertools.combinations(apart, 2):
            self.assertIs(can_share(layout, one, other), False)
            self.assertFalse(model.column(layout, one).startswith(model.column(layout, other)))
            self.assertFalse(model.column(layout, other).startswith(model.column(layout, one)))
        return many_letters(told)

    def test_fewest(self):
        self.assertEqual(self.check(LAYOUT), 1)
        self.assertEqual(self.check(BARE), 1)
        self.assertEqual(self.check(TURNS), 2)
        self.assertEqual(self.check(WIDE), 2)

    def test_one_edition(self):
        for layout in (SAME, (PAGE,), line_of(24), (("a", 1, (), "x", LETTERS),)):
            self.assertEqual(self.check(layout), 1)
            self.assertEqual([kind[4] for kind in fewest(layout)], [""] * len(layout))
            self.assertEqual(len(unlike(layout)), 1)

    def test_marks_have_no_letters_of_other_kinds(self):
        layout = (("a", 1, (), "x", LETTERS), ("b", 2, (), "y", "xz"), ("c", 2, (), "z", "xyz"))
        self.check(layout)
        self.assertEqual([len(kind[4]) for kind in fewest(layout)], [0, 1, 1])

    def test_limits(self):
        self.assertEqual(self.check(DEEP), 1)
        self.assertEqual(self.check(model.with_marks(DEEP, [LETTERS] * 24)), 1)
        self.assertEqual(self.check(model.with_marks(DEEP, [""] * 24)), 1)
        # Twelve sources, each of which has a KIND that watches it alone.
        most = tuple([("a" + LETTERS[at], 1, (), LETTERS[at], "") for at in range(12)])
        most += tuple([("b" + LETTERS[at], 2, (), "z", LETTERS[at]) for at in range(12)])
        self.assertEqual(self.check(most), 12)
        # As many sources as four KINDs can watch in different ways, and more of each.
        ways = tuple([("a" + LETTERS[at], 1, (), LETTERS[at], "") for at in range(20)])
        ways += tuple([("b" + LETTERS[bit], 2, (), "z", "".join([LETTERS[at] for at in range(20) if at >> bit & 1]))
                       for bit in range(4)])
        self.assertEqual(self.check(ways), 16)

    def test_any_layouts(self):
        for layout in some_layouts(300):
            self.check(layout)

    def test_fewer_letters_do_not_do(self):
        """For small LAYOUTs, by going through all ways to give them fewer LETTERs."""
        found = []
        for layout in list(some_layouts(150, 6, 83)) + [LAYOUT, BARE, SAME, TURNS, WIDE]:
            order = names(layout)
            many = self.check(layout)
            found.append(many)
            for choice in itertools.product(range(many - 1), repeat=len(order)):
                self.assertFalse(alike_with(layout, dict(zip(order, choice))), layout)
        self.assertLessEqual({1, 2, 3}, set(found))


class Errors(unittest.TestCase):
    """[1] and the interface: which errors come, and which first."""

    def test_no_layout_is_refused_first(self):
        calls = [columns, fewest, unlike]
        for name in ("page", "nowhere", None, []):
            calls.append(lambda layout, name=name: can_share(layout, name, name))
        for call in (are_alike, parting_row):
            for other in (None, LAYOUT, BARE, ((),)):
                calls.append(lambda layout, call=call, other=other: call(layout, other))
            calls.append(lambda layout, call=call: call(LAYOUT, layout))
            calls.append(lambda layout, call=call: call(BARE, layout))
        for layout, place in refusals():
            for call in calls:
                with self.assertRaises(BadLayout) as caught:
                    call(layout)
                self.assertEqual(caught.exception.place, place)

    def test_first_of_two_layouts_is_told(self):
        for call in (are_alike, parting_row):
            for one, other, place in (((PAGE, PAGE), None, (1,)), (None, (PAGE, PAGE), ()), ((None,), (PAGE, PAGE), (0,))):
                with self.assertRaises(BadLayout) as caught:
                    call(one, other)
                self.assertEqual(caught.exception.place, place)

    def test_other_frames(self):
        others = [
            LAYOUT[:2], LAYOUT + (("more", 3, (), "m", ""),), BARE,
            with_item(LAYOUT, 0, ("pages", 1, (), "p", ""))[:1],
            with_item(LAYOUT, 2, ("sums", 3, ("index",), "s", "ip")),
            with_item(LAYOUT, 2, ("sum", 4, ("index",), "s", "ip")),
            with_item(LAYOUT, 2, ("sum", 3, ("page",), "s", "ip")),
            with_item(LAYOUT, 2, ("sum", 3, ("index", "page"), "s", "ip")),
            with_item(LAYOUT, 2, ("sum", 3, (), "s", "ip")),
            (LAYOUT[0], ("b", 1, (), "b", "")) + LAYOUT[1:],
        ]
        for call in (are_alike, parting_row):
            for other in others:
                for one, two in ((LAYOUT, other), (other, LAYOUT)):
                    with self.assertRaises(BadQuestion) as caught:
                        call(one, two)
                    self.assertTrue(str(caught.exception))

    def test_order_of_the_bases_is_part_of_the_frame(self):
        one = (("a", 1, (), "x", ""), ("b", 1, (), "y", ""), ("c", 2, ("a", "b"), "z", ""))
        for call in (are_alike, parting_row):
            with self.assertRaises(BadQuestion):
                call(one, with_item(one, 2, ("c", 2, ("b", "a"), "z", "")))

    def test_missing_names(self):
        for thing in things():
            if is_text(thing, "page|index"):
                continue
            for one, other in ((thing, "page"), ("page", thing), (thing, thing), (thing, "nowhere")):
                with self.subTest(thing=thing), self.assertRaises(Missing) as caught:
                    can_share(LAYOUT, one, other)
                self.assertIs(caught.exception.name, thing)

    def test_first_of_two_names_is_told(self):
        for one, other in (("x", "y"), ("y", "x"), (["x"], None), (None, {})):
            with self.assertRaises(Missing) as caught:
                can_share(LAYOUT, one, other)
            self.assertIs(caught.exception.name, one)


class Calls(unittest.TestCase):
    """[1], what holds for every call."""

    def test_equal_calls_return_equal_results(self):
        same = tuple([tuple(list(kind)) for kind in WIDE])
        bare = model.with_marks(WIDE, [""] * 6)
        for call in (columns, fewest, unlike, lambda thing: parting_row(thing, bare), lambda thing: are_alike(thing, bare)):
            told = call(WIDE)
            self.assertEqual(told, call(same))
            self.assertEqual(told, call(WIDE))


class Examples(unittest.TestCase):
    def test_columns_and_can_share(self):
        layout = (("page", 1, (), "p", ""), ("index", 2, ("page",), "i", "p"), ("sum", 3, ("index",), "s", "ip"))
        self.assertEqual((columns(layout), can_share(layout, "page", "index")),
                         ({"page": "11", "index": "1", "sum": ""}, True))


if __name__ == "__main__":
    unittest.main()
