"""Tests of carriedparts.judging."""

import unittest

import model
from carriedparts.errors import BadLayout, Missing
from carriedparts.files import is_sound
from carriedparts.judging import cost, gaps, is_exact, is_safe, is_sparing, unsound_row, vain_row, wastes
from carriedparts.layouts import names
from carriedparts.programs import done, need_row, played
from things import DEEP, LAYOUT, LETTERS, PAGE, WIDE
from things import altered_layouts, is_text, line_of, refusals, some_layouts, things

BARE = (PAGE, ("index", 2, ("page",), "i", ""))
# A GAP of what is beneath, one of what is watched beneath, and WASTEs.
CROSS = (
    ("a", 1, (), "x", ""),
    ("b", 1, (), "y", ""),
    ("c", 2, ("a",), "z", "xy"),
    ("d", 3, ("c",), "w", "xz"),
    ("e", 3, ("c", "b"), "w", "wy"),
)
# All KINDs of one EDITION: whatever the MARKs are, nothing is watched.
SAME = (("a", 7, (), "a", LETTERS), ("b", 7, ("a",), "b", LETTERS), ("c", 7, (), "c", ""))
DEEP_BARE = model.with_marks(DEEP, [""] * 24)
DEEP_FULL = model.with_marks(DEEP, [LETTERS] * 24)


def small_layouts(many, seed):
    """LAYOUTs of one to four KINDs and of few EDITIONs, whose ROWs can all be gone through."""
    told = list(some_layouts(many, 4, seed)) + list(altered_layouts(many // 2, 4, seed))
    return told + [LAYOUT, BARE, SAME, CROSS[:4], WIDE[:4]]


class Case(unittest.TestCase):
    def judge(self, layout):
        """What the words of the document say of all GAPs and WASTEs."""
        told = (model.gaps(layout), model.wastes(layout))
        self.assertEqual((list(gaps(layout)), list(wastes(layout))), told)
        self.assertIs(is_safe(layout), not told[0])
        self.assertIs(is_sparing(layout), not told[1])
        self.assertIs(is_exact(layout), not told[0] and not told[1])

    def least(self, layout, pairs):
        return min([model.cost(layout, name, other) for name, other in pairs])

    def check_unsound(self, layout):
        """The ROW can be played, all its FILEs are SOUND but the last one, and it is as long as the least COST."""
        row = unsound_row(layout)
        if not model.gaps(layout):
            self.assertIsNone(row)
            return
        self.assertIs(need_row(layout, row), row)
        self.assertEqual(len(row), self.least(layout, model.gaps(layout)))
        for many in range(len(row)):
            self.assertTrue(model.is_sound(layout, dict(played(layout, row[:many]))))
        self.assertFalse(model.is_sound(layout, dict(played(layout, row))))
        self.assertIs(is_sound(layout, played(layout, row)), False)

    def check_vain(self, layout):
        """The ROW can be played, and a part is LOST IN VAIN in its last STEP, which is the one of the least COST."""
        row = vain_row(layout)
        if not model.wastes(layout):
            self.assertIsNone(row)
            return
        self.assertIs(need_row(layout, row), row)
        self.assertEqual(len(row), self.least(layout, model.wastes(layout)))
        file = played(layout, row[:-1])
        self.assertTrue(model.done(layout, row[-1][0], dict(file), row[-1][1])[2])
        self.assertTrue(done(layout, row[-1][0], file, row[-1][1])[2])


class Pairs(Case):
    """[10]"""

    def test_gaps(self):
        self.assertEqual(list(gaps(LAYOUT)), [])
        self.assertEqual(list(gaps(BARE)), [("index", "page")])
        self.assertEqual(list(gaps(LAYOUT[:2] + (("sum", 3, ("index",), "s", ""),))), [("sum", "page"), ("sum", "index")])
        self.assertEqual(list(gaps(LAYOUT[:2] + (("sum", 3, ("index",), "s", "i"),))), [("sum", "page")])

    def test_what_is_watched_beneath(self):
        self.assertEqual(list(gaps(CROSS)), [("d", "b"), ("e", "a"), ("e", "c")])
        # What is watched further down is not to be forgotten, though what stands between does not watch it.
        layout = CROSS[:3] + (("d", 2, ("c",), "w", "x"), ("e", 2, ("d",), "v", "x"))
        self.assertEqual(list(gaps(layout)), [("d", "b"), ("e", "b")])

    def test_wastes(self):
        self.assertEqual(list(wastes(LAYOUT)), [])
        self.assertEqual(list(wastes(BARE)), [])
        self.assertEqual(list(wastes(CROSS)), [("c", "b")])
        # A LETTER that two KINDs have is watched as that of both.
        self.assertEqual(list(wastes(CROSS[:2] + (("c", 2, ("b",), "y", "xy"), ("d", 3, ("a",), "q", "y")))),
                         [("c", "a"), ("d", "b"), ("d", "c")])

    def test_only_older_kinds_count(self):
        for layout in (SAME, line_of(24), (PAGE,), (PAGE[:4] + ("p",),)):
            self.assertEqual((list(gaps(layout)), list(wastes(layout))), ([], []))
            self.assertIs(is_exact(layout), True)
        # The same BASES, but of a later EDITION.
        later = SAME[:1] + (("b", 8, ("a",), "b", ""), ("c", 8, (), "c", LETTERS))
        self.assertEqual((list(gaps(later)), list(wastes(later))), ([("b", "a")], [("c", "a")]))

    def test_order(self):
        order = names(DEEP)
        below = [(order[u], order[k]) for u in range(24) for k in range(u)]
        self.assertEqual(list(gaps(DEEP_BARE)), below)
        self.assertEqual(list(wastes(DEEP_BARE)), [])
        sources = tuple([kind[:2] + ((),) + kind[3:] for kind in DEEP_FULL])
        self.assertEqual(list(wastes(sources)), below)
        self.assertEqual(list(gaps(sources)), [])

    def test_judgements(self):
        for layout, told in (
                (LAYOUT, (True, True, True)), (BARE, (False, True, False)), (SAME, (True, True, True)),
                (CROSS, (False, False, False)), (CROSS[:3], (True, False, False)), (CROSS[:2], (True, True, True)),
                (DEEP, (True, True, True)), (DEEP_BARE, (False, True, False)), (DEEP_FULL, (True, True, True))):
            self.assertEqual((is_safe(layout), is_sparing(layout), is_exact(layout)), told)
            for call in (is_safe, is_sparing, is_exact):
                self.assertIs(type(call(layout)), bool)

    def test_against_the_words_of_the_document(self):
        for layout in list(some_layouts(300)) + [LAYOUT, WIDE, CROSS]:
            self.judge(layout)


class Facts(Case):
    """[9] and [10], for small LAYOUTs, by going through all ROWs, however long."""

    def test_safe_and_sparing(self):
        found = []
        for layout in small_layouts(60, 41):
            unsound = model.fewest_steps([layout], lambda files, vain: not model.is_sound(layout, files[0]), 10 ** 6)
            wasted = model.fewest_steps([layout], lambda files, vain: vain[0] != (), 10 ** 6)
            self.assertIs(is_safe(layout), unsound is None, layout)
            self.assertIs(is_sparing(layout), wasted is None, layout)
            self.assertIs(is_exact(layout), unsound is None and wasted is None)
            found.append((unsound is None, wasted is None))
        self.assertEqual(len(set(found)), 4)


class Cost(Case):
    """[11]"""

    def test_cost(self):
        self.assertEqual([cost(LAYOUT, "sum", other) for other in names(LAYOUT)], [4, 4, 4])
        self.assertEqual([cost(LAYOUT, other, "page") for other in names(LAYOUT)], [2, 3, 4])
        self.assertEqual(cost(BARE, "index", "page"), 3)
        self.assertEqual(cost(CROSS, "d", "e"), 5)
        self.assertEqual(cost(CROSS, "c", "b"), 3)

    def test_the_same_name_twice(self):
        self.assertEqual([cost(CROSS, name, name) for name in names(CROSS)], [2, 2, 3, 4, 5])
        self.assertEqual(cost(SAME[:1], "a", "a"), 2)

    def test_most(self):
        order = names(DEEP)
        self.assertEqual([cost(DEEP, name, order[0]) for name in order], list(range(2, 26)))
        self.assertEqual(cost(DEEP, order[3], order[23]), 25)
        self.assertEqual(cost(line_of(24), "ka", "kx"), 2)

    def test_against_the_words_of_the_document(self):
        for layout in some_layouts(100):
            for name, other in model.pairs(layout):
                self.assertEqual(cost(layout, name, other), model.cost(layout, name, other))


class Rows(Case):
    """[11]"""

    def test_none(self):
        for layout in (LAYOUT, SAME, DEEP, (PAGE,), line_of(24)):
            self.assertIsNone(unsound_row(layout))
            self.assertIsNone(vain_row(layout))
        self.assertIsNone(unsound_row(CROSS[:3]))
        self.assertIsNone(vain_row(BARE))

    def test_rows_do_what_is_asked(self):
        for layout in list(some_layouts(300)) + [BARE, WIDE, CROSS, CROSS[:3], DEEP_BARE, DEEP_FULL]:
            self.check_unsound(layout)
            self.check_vain(layout)

    def test_of_what_is_watched_beneath(self):
        """The only GAP is of a KIND that is made, and that is watched by what is beneath."""
        layout = (("a", 1, (), "x", ""), ("b", 1, (), "q", ""), ("c", 1, ("a",), "y", ""),
                  ("d", 2, ("b",), "z", "qy"), ("e", 3, ("d",), "w", "qz"))
        self.assertEqual(list(gaps(layout)), [("e", "c")])
        self.assertEqual(len(unsound_row(layout)), 5)
        self.check_unsound(layout)

    def test_of_a_waste_beneath_a_waste(self):
        """What is LOST with its own base is not LOST IN VAIN, so the base is the one to be told."""
        layout = (("a", 1, (), "x", ""), ("b", 1, (), "q", ""), ("c", 2, ("b",), "y", "qx"), ("d", 2, ("c",), "z", "qxy"))
        self.assertEqual(list(wastes(layout)), [("c", "a"), ("d", "a")])
        self.assertEqual(len(vain_row(layout)), 3)
        self.check_vain(layout)

    def test_longest_rows(self):
        marks = [""] + ["".join(LETTERS[:at]) for at in range(1, 23)] + [LETTERS[1:23]]
        layout = model.with_marks(DEEP, marks)
        self.assertEqual(list(gaps(layout)), [("abcdefgx", "abcdefga")])
        self.assertEqual(len(unsound_row(layout)), 25)
        self.check_unsound(layout)
        other = DEEP[:22] + (("last", 22, (), "z", ""), DEEP[23][:4] + (LETTERS,))
        other = other[:23] + (("abcdefgx", 24, ("abcdefgv",), "x", LETTERS),)
        self.assertEqual(list(wastes(other)), [("abcdefgx", "last")])
        self.assertEqual(len(vain_row(other)), 24)
        self.check_vain(other)

    def test_no_shorter_row_does_it(self):
        """For small LAYOUTs, by going through all shorter ROWs."""
        lengths = {}
        for layout in small_layouts(150, 43) + list(altered_layouts(30, 5, 47)):
            row = unsound_row(layout)
            self.check_unsound(layout)
            if row is not None:
                lengths["unsound", len(row)] = True
                found = model.fewest_steps([layout], lambda files, vain: not model.is_sound(layout, files[0]), len(row))
                self.assertEqual(found, len(row), layout)
            row = vain_row(layout)
            self.check_vain(layout)
            if row is not None:
                lengths["vain", len(row)] = True
                self.assertEqual(model.fewest_steps([layout], lambda files, vain: vain[0] != (), len(row)), len(row), layout)
        for what in ("unsound", "vain"):
            self.assertGreaterEqual(len([many for kind, many in lengths if kind == what]), 3, lengths)

    def test_no_shorter_row_of_a_line_does_it(self):
        """Each KIND is made from the one ahead, and the last one does not watch that one, or watches a further one."""
        for many in range(2, 8):
            line = tuple([(LETTERS[at], 1 + at, tuple(LETTERS[max(0, at - 1):at]), LETTERS[at], LETTERS[:at])
                          for at in range(many)])
            layout = line[:-1] + (line[-1][:4] + (LETTERS[:many - 2],),)
            row = unsound_row(layout)
            self.assertEqual(len(row), many + 1)
            self.assertEqual(
                model.fewest_steps([layout], lambda files, vain: not model.is_sound(layout, files[0]), many + 1), len(row))
            layout = (("z", 1, (), "z", ""),) + line[:-1] + (line[-1][:4] + (LETTERS[:many - 1] + "z",),)
            row = vain_row(layout)
            self.assertEqual(len(row), many + 1)
            if many < 6:
                self.assertEqual(model.fewest_steps([layout], lambda files, vain: vain[0] != (), many + 1), len(row))

    def test_form(self):
        for layout in (BARE, CROSS, DEEP_BARE):
            for call in (unsound_row, vain_row):
                row = call(layout)
                if row is not None:
                    self.assertEqual([type(thing) for thing in (row,) + row], [tuple] * (1 + len(row)))


class Errors(Case):
    """[1] and the interface: which errors come, and which first."""

    def test_no_layout_is_refused_first(self):
        calls = [is_safe, is_sparing, is_exact, unsound_row, vain_row]
        calls += [lambda layout: list(gaps(layout)), lambda layout: list(wastes(layout))]
        for name in ("page", "nowhere", None, []):
            calls.append(lambda layout, name=name: cost(layout, name, name))
        for layout, place in refusals():
            for call in calls:
                with self.assertRaises(BadLayout) as caught:
                    call(layout)
                self.assertEqual(caught.exception.place, place)

    def test_generators_raise_when_the_first_item_is_requested(self):
        for call in (gaps, wastes):
            for layout, place in refusals():
                asked = call(layout)
                with self.assertRaises(BadLayout) as caught:
                    next(asked)
                self.assertEqual(caught.exception.place, place)
            asked = call(LAYOUT)
            self.assertIs(iter(asked), asked)
            with self.assertRaises(StopIteration):
                next(asked)

    def test_missing_names(self):
        for thing in things():
            if is_text(thing, "page|index"):
                continue
            for one, other in ((thing, "page"), ("page", thing), (thing, thing), (thing, "nowhere")):
                with self.subTest(thing=thing), self.assertRaises(Missing) as caught:
                    cost(LAYOUT, one, other)
                self.assertIs(caught.exception.name, thing)

    def test_first_of_two_names_is_told(self):
        for one, other in (("x", "y"), ("y", "x"), (["x"], None), (None, {})):
            with self.assertRaises(Missing) as caught:
                cost(LAYOUT, one, other)
            self.assertIs(caught.exception.name, one)


class Calls(Case):
    """[1], what holds for every call."""

    def test_equal_calls_return_equal_results(self):
        same = tuple([tuple(list(kind)) for kind in CROSS])
        for call in (is_safe, is_sparing, is_exact, unsound_row, vain_row):
            self.assertEqual(call(CROSS), call(same))
            self.assertEqual(call(CROSS), call(same))
        for call in (gaps, wastes):
            one, other = call(CROSS), call(same)
            self.assertEqual(next(one), next(other))
            self.assertEqual(list(one), list(other))


class Examples(Case):
    def test_gaps_and_cost(self):
        bare = (("page", 1, (), "p", ""), ("index", 2, ("page",), "i", ""))
        self.assertEqual((list(gaps(bare)), cost(bare, "index", "page")), ([("index", "page")], 3))


if __name__ == "__main__":
    unittest.main()
