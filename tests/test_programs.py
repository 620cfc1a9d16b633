"""Tests of carriedparts.programs."""

import copy
import random
import unittest

import model
from carriedparts import programs
from carriedparts.errors import BadDeed, BadFile, BadLayout, BadRow
from carriedparts.files import is_sound, need_file
from carriedparts.layouts import names, newest, sources
from carriedparts.programs import done, need_row, played
from things import DEEP, DEEP_FILE, FILE, LAYOUT, LETTERS, WIDE
from things import is_text, is_whole, line_of, refusals, some_file, some_layouts, things, with_item

# Two sources of one EDITION, with what is made from them in later ones, and a source that is not known at first.
MIXED = (
    ("a", 1, (), "x", ""),
    ("b", 1, (), "y", ""),
    ("c", 2, ("a",), "x", "y"),
    ("d", 3, ("c", "b"), "z", "x"),
    ("e", 3, (), "w", "xz"),
    ("f", 3, ("e",), "w", ""),
)
PARTS = (("a", 1), ("b", 2), ("c", (1,)), ("d", (1, 2)), ("e", 3), ("f", (3,)))


class Case(unittest.TestCase):
    def refuse(self, word, layout, edition, file, deed):
        with self.assertRaises(BadDeed) as caught:
            done(layout, edition, file, deed)
        self.assertEqual(caught.exception.word, word, (edition, file, deed))

    def refuse_row(self, place, layout, row):
        for call in (need_row, played):
            with self.assertRaises(BadRow) as caught:
                call(layout, row)
            self.assertEqual(caught.exception.place, place, row)
            self.assertIs(type(caught.exception.place), tuple)

    def take(self, layout, row, file):
        self.assertIs(need_row(layout, row), row)
        self.assertEqual(played(layout, row), file)


class Deeds(Case):
    """[6], what a DEED does."""

    def test_set(self):
        self.assertEqual(done(LAYOUT, 1, (), ("set", "page", 7)), ((("page", 7),), (), ()))
        self.assertEqual(done(LAYOUT[:1], 1, (("page", 6),), ("set", "page", 7)), ((("page", 7),), (), ()))
        self.assertEqual(done(LAYOUT, 3, FILE, ("set", "page", 7)),
                         ((("page", 7), ("index", (7,)), ("sum", (7,))), (), ()))

    def test_contents_at_the_limits(self):
        for content in (0, 1, 999998, 999999):
            self.assertEqual(done(LAYOUT, 2, FILE, ("set", "page", content)),
                             ((("page", content), ("index", (content,))), ("sum",), ()))
            self.assertEqual(done(LAYOUT, 1, (), ("set", "page", content))[0], (("page", content),))

    def test_same_content_changes_nothing_at_all(self):
        stale = (("page", 5), ("index", (6,)), ("sum", (7,)))
        loose = (("page", 5), ("sum", (5,)))
        for file in (FILE, stale, loose, FILE[:1]):
            for edition in (1, 2, 3):
                self.assertEqual(done(LAYOUT, edition, file, ("set", "page", 5)), (file, (), ()))
        self.assertEqual(done(MIXED, 3, PARTS, ("set", "e", 3)), (PARTS, (), ()))
        self.assertEqual(done(LAYOUT, 1, (("page", 0),), ("set", "page", 0)), ((("page", 0),), (), ()))

    def test_make(self):
        self.assertEqual(done(LAYOUT, 2, FILE[:1], ("make", "index")), (FILE[:2], (), ()))
        self.assertEqual(done(MIXED, 3, PARTS[:3], ("make", "d")), (PARTS[:4], (), ()))
        self.assertEqual(done(MIXED, 2, PARTS[:2], ("make", "c")), (PARTS[:3], (), ()))

    def test_make_brings_up_to_date_what_it_is_made_from(self):
        file = (("page", 5), ("index", (6,)))
        self.assertEqual(done(LAYOUT, 3, file, ("make", "sum")), (FILE, (), ()))

    def test_make_takes_parts_away(self):
        layout = (("a", 1, (), "x", ""), ("b", 1, ("a",), "y", ""), ("c", 2, ("a",), "z", "y"))
        file = (("a", 1), ("c", (1,)))
        self.assertEqual(done(layout, 1, file, ("make", "b")), ((("a", 1), ("b", (1,))), ("c",), ("c",)))
        self.assertEqual(done(layout, 2, file, ("make", "b")), ((("a", 1), ("b", (1,)), ("c", (1,))), (), ()))

    def test_drop(self):
        self.assertEqual(done(LAYOUT, 3, FILE, ("drop", "sum")), (FILE[:2], (), ()))
        self.assertEqual(done(LAYOUT, 2, FILE, ("drop", "index")), (FILE[:1], ("sum",), ()))
        self.assertEqual(done(LAYOUT, 1, FILE, ("drop", "page")), ((), ("index", "sum"), ()))

    def test_a_part_leaves_because_its_base_has_just_left(self):
        self.assertEqual(done(LAYOUT, 3, FILE, ("drop", "page")), ((), (), ()))
        self.assertEqual(done(MIXED, 3, PARTS, ("drop", "a")), ((PARTS[1], PARTS[4], PARTS[5]), (), ()))
        self.assertEqual(done(DEEP, 24, DEEP_FILE, ("drop", "abcdefga")), ((), (), ()))

    def test_all_that_is_known_is_brought_up_to_date(self):
        """Also what has nothing to do with the deed, and what was not SOUND before."""
        file = (("a", 1), ("c", (9,)), ("d", (8, 8)), ("e", 3), ("f", (7,)))
        self.assertEqual(done(MIXED, 3, file, ("set", "e", 4)), ((("a", 1), ("c", (1,)), ("e", 4), ("f", (4,))), (), ()))
        self.assertEqual(done(MIXED, 2, file, ("set", "b", 4)),
                         ((("a", 1), ("b", 4), ("c", (1,)), ("d", (8, 8)), ("e", 3), ("f", (7,))), (), ()))
        self.assertEqual(done(MIXED, 1, file[1:], ("set", "b", 4)),
                         ((("b", 4), ("d", (8, 8)), ("e", 3), ("f", (7,))), ("c",), ()))

    def test_what_is_not_known_stays_as_it_is(self):
        self.assertEqual(done(LAYOUT[:2] + (("sum", 3, ("index",), "s", ""),), 1, FILE, ("drop", "page")),
                         ((("sum", (5,)),), ("index",), ()))
        bare = tuple([kind[:4] + ("",) for kind in DEEP])
        self.assertEqual(done(bare, 1, DEEP_FILE, ("set", "abcdefga", 6)),
                         ((("abcdefga", 6),) + DEEP_FILE[1:], (), ()))

    def test_all_leave_whose_mark_has_the_letter_whatever_they_are_made_from(self):
        self.assertEqual(done(MIXED, 1, PARTS, ("set", "a", 9)),
                         ((("a", 9), ("b", 2), ("c", (1,)), ("f", (3,))), ("d", "e"), ("e",)))
        self.assertEqual(done(MIXED, 1, PARTS, ("set", "b", 9)),
                         ((("a", 1), ("b", 9), ("d", (1, 2)), ("e", 3), ("f", (3,))), ("c",), ("c",)))
        self.assertEqual(done(MIXED, 2, PARTS, ("drop", "c")),
                         ((("a", 1), ("b", 2), ("f", (3,))), ("d", "e"), ("e",)))
        full = tuple([kind[:4] + (LETTERS,) for kind in DEEP])
        self.assertEqual(done(full, 1, DEEP_FILE, ("set", "abcdefga", 6)),
                         ((("abcdefga", 6),), names(full)[1:], ()))

    def test_what_is_known_leaves_by_no_mark(self):
        one = tuple([kind[:1] + (1,) + kind[2:4] + (LETTERS,) for kind in DEEP])
        self.assertEqual(done(one, 1, DEEP_FILE, ("set", "abcdefga", 6))[1:], ((), ()))
        self.assertEqual(len(done(one, 1, DEEP_FILE, ("drop", "abcdefgx"))[0]), 23)

    def test_one_kind(self):
        layout = (("a", 1, (), "x", "x"),)
        self.assertEqual(done(layout, 1, (), ("set", "a", 0)), ((("a", 0),), (), ()))
        self.assertEqual(done(layout, 1, (("a", 0),), ("drop", "a")), ((), (), ()))

    def test_against_the_words_of_the_document(self):
        chance = random.Random(5)
        for layout in some_layouts(150, 8, 21):
            for _ in range(12):
                file = some_file(chance, layout, lambda name: len(sources(layout, name)))
                edition = chance.randint(0, newest(layout) + 1)
                for name in names(layout):
                    for deed in (("set", name, 0), ("set", name, 1), ("make", name), ("drop", name)):
                        self.compare(layout, edition, file, deed)

    def compare(self, layout, edition, file, deed):
        word = model.word_of(layout, edition, dict(file), deed)
        if word is not None:
            self.refuse(word, layout, edition, file, deed)
            return
        behind, lost, vain = model.done(layout, edition, dict(file), deed)
        self.assertEqual(done(layout, edition, file, deed), (model.told(layout, behind), lost, vain))
        need_file(layout, done(layout, edition, file, deed)[0])


class Vain(Case):
    """[7], what is LOST IN VAIN."""

    def test_not_in_vain_if_it_would_not_be_current(self):
        self.assertEqual(done(LAYOUT, 1, FILE, ("set", "page", 6))[1:], (("index", "sum"), ()))
        self.assertEqual(done(LAYOUT, 1, FILE, ("drop", "page"))[1:], (("index", "sum"), ()))

    def test_not_in_vain_if_it_was_not_current(self):
        layout = (("a", 1, (), "x", ""), ("b", 1, (), "y", ""), ("c", 2, ("a",), "z", "y"))
        self.assertEqual(done(layout, 1, (("a", 1), ("c", (1,))), ("set", "b", 0))[1:], (("c",), ("c",)))
        self.assertEqual(done(layout, 1, (("a", 1), ("c", (2,))), ("set", "b", 0))[1:], (("c",), ()))
        self.assertEqual(done(layout, 1, (("c", (2,)),), ("set", "b", 0))[1:], (("c",), ()))

    def test_not_in_vain_though_current_behind_alone(self):
        """It was not CURRENT ahead, and the deed makes the content that it has."""
        layout = (("a", 1, (), "x", ""), ("c", 2, ("a",), "z", "x"))
        self.assertEqual(done(layout, 1, (("a", 1), ("c", (2,))), ("set", "a", 2))[1:], (("c",), ()))

    def test_only_the_one_part_is_put_back(self):
        """Both would be CURRENT together, but the second one is not without the first one."""
        layout = (("a", 1, (), "x", ""), ("b", 1, (), "y", ""), ("c", 2, ("a",), "z", "y"), ("d", 2, ("c",), "z", "y"))
        file = (("a", 1), ("c", (1,)), ("d", (1,)))
        self.assertEqual(done(layout, 1, file, ("set", "b", 0)),
                         ((("a", 1), ("b", 0)), ("c", "d"), ("c",)))

    def test_a_source_is_lost_in_vain(self):
        layout = (("a", 1, (), "x", ""), ("b", 2, (), "y", "x"))
        self.assertEqual(done(layout, 1, (("b", 1),), ("set", "a", 0)), ((("a", 0),), ("b",), ("b",)))

    def test_what_is_brought_up_to_date_is_not_lost(self):
        self.assertEqual(done(LAYOUT, 3, FILE, ("drop", "index")), ((("page", 5),), (), ()))
        self.assertEqual(done(LAYOUT, 2, FILE[:2], ("drop", "page")), ((), (), ()))


class Words(Case):
    """[7], the words, in their order."""

    def test_edition(self):
        taken = 0
        for thing in things():
            with self.subTest(thing=thing):
                if is_whole(thing, 1, 3):
                    taken += 1
                    done(LAYOUT, thing, FILE, ("drop", "page"))
                else:
                    self.refuse("edition", LAYOUT, thing, FILE, ("drop", "page"))
        self.assertEqual(taken, 2)
        for edition in (0, 4, -1, 99, True, False, "1", (1,), None):
            self.refuse("edition", LAYOUT, edition, (), ("set", "page", 5))
        late = (("a", 99, (), "x", ""),)
        self.assertEqual(done(late, 99, (), ("set", "a", 0)), ((("a", 0),), (), ()))
        for edition in (0, 100, 10 ** 30 - 1):
            self.refuse("edition", late, edition, (), ("set", "a", 0))

    def test_form(self):
        for thing in things():
            with self.subTest(thing=thing):
                self.refuse("form", LAYOUT, 3, FILE, thing)

    def test_length(self):
        for deed in ((), ("set",), ("make",), ("drop",), ("set", "page"), ("set", "page", 5, 5), ("make", "index", 5),
                     ("drop", "page", 5), ("make", "index", ()), ("drop", "page", "index"), ("drop", "page", 5, 5)):
            self.refuse("form", LAYOUT, 3, (), deed)
            self.refuse("form", LAYOUT, 3, FILE, deed)
            self.refuse("form", LAYOUT, 3, FILE, list(deed))

    def test_word_of_the_deed(self):
        for thing in things() + ["Set", "set ", "sets", "do", "makes", "mak"]:
            for deed in ((thing, "page", 5), (thing, "page"), (thing, "index")):
                with self.subTest(deed=deed):
                    self.refuse("form", LAYOUT, 3, FILE, deed)

    def test_name(self):
        for thing in things():
            for deed in (("set", thing, 5), ("make", thing), ("drop", thing)):
                with self.subTest(deed=deed):
                    if is_text(thing, "page|index"):
                        continue
                    word = "unknown" if isinstance(thing, str) else "form"
                    self.refuse(word, LAYOUT, 3, FILE, deed)

    def test_content(self):
        taken = 0
        for thing in things():
            with self.subTest(thing=thing):
                if is_whole(thing, 0, 999999):
                    taken += 1
                    self.assertEqual(done(LAYOUT, 1, (), ("set", "page", thing)), ((("page", thing),), (), ()))
                else:
                    self.refuse("form", LAYOUT, 1, (), ("set", "page", thing))
        self.assertEqual(taken, 6)

    def test_unknown(self):
        for deed in (("make", "index"), ("drop", "index"), ("set", "index", 5), ("make", "nowhere"), ("drop", ""),
                     ("set", "Page", 5), ("set", "page ", 5), ("drop", "sum"), ("set", "abcdefghi", 5)):
            self.refuse("unknown", LAYOUT, 1, FILE, deed)
        self.refuse("unknown", LAYOUT, 2, FILE, ("drop", "sum"))
        self.refuse("unknown", (("a", 2, (), "x", ""),), 1, (), ("set", "a", 0))

    def test_made_and_source(self):
        for file in ((), FILE):
            self.refuse("made", LAYOUT, 3, file, ("set", "index", 5))
            self.refuse("made", LAYOUT, 3, file, ("set", "sum", 0))
            self.refuse("source", LAYOUT, 3, file, ("make", "page"))

    def test_stands(self):
        self.refuse("stands", LAYOUT, 3, FILE, ("make", "index"))
        self.refuse("stands", LAYOUT, 3, FILE, ("make", "sum"))
        # What is beneath it does not stand, but that comes later.
        self.refuse("stands", LAYOUT, 3, (("sum", (5,)),), ("make", "sum"))

    def test_lacks(self):
        for file in ((), FILE[1:2], FILE[:1], FILE[1:2]):
            self.refuse("lacks", LAYOUT, 3, file, ("make", "sum"))
        self.refuse("lacks", LAYOUT, 3, (), ("make", "index"))
        self.refuse("lacks", LAYOUT, 3, (("sum", (5,)),), ("make", "index"))
        for without in range(3):
            self.refuse("lacks", MIXED, 3, PARTS[:without] + PARTS[without + 1:3] + PARTS[4:], ("make", "d"))
        for at, name in enumerate(names(LAYOUT)):
            self.refuse("lacks", LAYOUT, 3, FILE[:at] + FILE[at + 1:], ("drop", name))

    def test_first_word_that_holds(self):
        self.refuse("edition", LAYOUT, 0, FILE, None)
        self.refuse("edition", LAYOUT, True, FILE, ("drop", "nowhere"))
        self.refuse("edition", LAYOUT, 4, FILE, ("make", "page"))
        self.refuse("form", LAYOUT, 3, FILE, ("set", "nowhere", -1))
        self.refuse("form", LAYOUT, 3, FILE, ("set", "index", True))
        self.refuse("form", LAYOUT, 3, FILE, ("make", "page", 5))
        self.refuse("unknown", LAYOUT, 1, FILE, ("set", "index", 5))
        self.refuse("unknown", LAYOUT, 1, FILE, ("make", "index"))
        self.refuse("unknown", LAYOUT, 1, (), ("drop", "sum"))
        self.refuse("source", LAYOUT, 1, FILE, ("make", "page"))
        self.refuse("source", LAYOUT, 1, (), ("make", "page"))
        self.refuse("stands", LAYOUT, 2, FILE[1:], ("make", "index"))


class Rows(Case):
    """[8]"""

    def test_limit(self):
        self.assertEqual(programs.MOST_STEPS, 400)

    def test_empty_row(self):
        for layout in (LAYOUT, WIDE, DEEP, line_of(1)):
            self.take(layout, (), ())

    def test_ordinary_rows(self):
        row = ((3, ("set", "page", 5)), (2, ("make", "index")), (3, ("make", "sum")))
        for many in range(4):
            self.take(LAYOUT, row[:many], FILE[:many])
        self.take(LAYOUT, row + ((1, ("set", "page", 6)),), (("page", 6),))
        self.take(LAYOUT, row + ((2, ("set", "page", 6)),), (("page", 6), ("index", (6,))))
        self.take(LAYOUT, row + ((1, ("set", "page", 5)),), FILE)
        self.take(LAYOUT, row + ((1, ("drop", "page")), (1, ("set", "page", 999999))), (("page", 999999),))

    def test_numbers_of_steps(self):
        for many in (1, 399, 400):
            self.take(LAYOUT, ((1, ("set", "page", 5)),) * many, FILE[:1])
        turns = ((1, ("set", "page", 5)), (1, ("drop", "page")))
        self.take(LAYOUT, turns * 200, ())
        self.refuse_row((), LAYOUT, turns * 200 + turns[:1])
        self.refuse_row((), LAYOUT, ((1, ("set", "page", 5)),) * 401)
        self.refuse_row((), LAYOUT, (None,) * 401)
        self.refuse_row((0,), LAYOUT, (None,) * 400)
        self.refuse_row((399,), LAYOUT, ((1, ("set", "page", 5)),) * 399 + (None,))
        self.refuse_row((399, "edition"), LAYOUT, ((1, ("set", "page", 5)),) * 399 + ((0, None),))

    def test_whole(self):
        for thing in things():
            with self.subTest(thing=thing):
                if not isinstance(thing, tuple):
                    self.refuse_row((), LAYOUT, thing)
                elif thing == (("page", 5),):
                    self.refuse_row((0, "edition"), LAYOUT, thing)
                elif thing != ():
                    self.refuse_row((0,), LAYOUT, thing)
        self.refuse_row((), LAYOUT, [(1, ("set", "page", 5))])
        self.refuse_row((), LAYOUT, [])

    def test_step(self):
        ahead = ((1, ("set", "page", 5)),)
        for thing in things():
            with self.subTest(thing=thing):
                if isinstance(thing, tuple) and len(thing) == 2:
                    self.refuse_row((1, "edition"), LAYOUT, ahead + (thing,))
                else:
                    self.refuse_row((1,), LAYOUT, ahead + (thing,))
        for step in ([1, ("set", "page", 5)], (1,), (1, "set", "page", 5), (1, ("set", "page", 5), ()), ()):
            self.refuse_row((0,), LAYOUT, (step,))

    def test_edition_and_deed(self):
        for thing in things():
            with self.subTest(thing=thing):
                if not is_whole(thing, 1, 3):
                    self.refuse_row((1, "edition"), LAYOUT, ((1, ("set", "page", 5)), (thing, ("drop", "page"))))
                self.refuse_row((1, "form"), LAYOUT, ((1, ("set", "page", 5)), (1, thing)))
        self.refuse_row((0, "form"), LAYOUT, ((1, ["set", "page", 5]),))

    def test_words(self):
        ahead = ((3, ("set", "page", 5)), (2, ("make", "index")))
        for word, step in (
                ("edition", (4, ("drop", "page"))), ("form", (3, ("set", "page", 1000000))),
                ("unknown", (1, ("drop", "index"))), ("made", (2, ("set", "index", 5))),
                ("source", (1, ("make", "page"))), ("stands", (2, ("make", "index"))), ("lacks", (3, ("drop", "sum")))):
            self.refuse_row((2, word), LAYOUT, ahead + (step,))
            self.refuse_row((2, word), LAYOUT, ahead + (step, None))
            self.refuse_row((2, word), LAYOUT, ahead + (step, step))
        self.refuse_row((0, "lacks"), LAYOUT, ((3, ("make", "sum")),))
        self.refuse_row((0, "lacks"), LAYOUT, ((3, ("drop", "page")), None))

    def test_a_step_may_become_impossible(self):
        """What a STEP takes away is not there for the next one."""
        row = ((3, ("set", "page", 5)), (2, ("make", "index")), (1, ("drop", "page")), (2, ("drop", "index")))
        self.refuse_row((3, "lacks"), LAYOUT, row)
        self.take(LAYOUT, row[:3], ())

    def test_step_by_step(self):
        chance = random.Random(3)
        for layout in some_layouts(60, 7, 31):
            row, file = (), {}
            for _ in range(25):
                steps = list(model.steps_from(layout, file, (0, 7, 999999)))
                row += (chance.choice(steps),)
                file = model.done(layout, row[-1][0], file, row[-1][1])[0]
                self.take(layout, row, model.told(layout, file))
            edition, deed = 1 + chance.randrange(newest(layout)), ("make", chance.choice(names(layout)))
            word = model.word_of(layout, edition, file, deed)
            if word is not None:
                self.refuse_row((25, word), layout, row + ((edition, deed),))

    def test_largest_row_is_quick(self):
        row = ((24, ("set", "abcdefga", 5)),) + tuple([(24, ("make", name)) for name in names(DEEP)[1:]])
        self.take(DEEP, row, DEEP_FILE)
        row += tuple([(24, ("set", "abcdefga", at)) for at in range(376)])
        self.assertEqual(len(row), 400)
        self.assertIs(is_sound(DEEP, played(DEEP, row)), True)


class Errors(Case):
    """[1] and the interface: which errors come, and which first."""

    def test_no_layout_is_refused_first(self):
        for layout, place in refusals():
            for call in (
                    lambda: done(layout, 1, FILE, ("drop", "page")), lambda: done(layout, 0, None, None),
                    lambda: need_row(layout, ()), lambda: need_row(layout, None),
                    lambda: played(layout, ()), lambda: played(layout, (None,))):
                with self.assertRaises(BadLayout) as caught:
                    call()
                self.assertEqual(caught.exception.place, place)

    def test_no_file_is_refused_ahead_of_a_deed(self):
        for thing in things():
            if not isinstance(thing, tuple) or thing not in ((), (("page", 5),)):
                for edition, deed in ((1, ("drop", "page")), (0, ("drop", "page")), (None, None), (True, [])):
                    with self.subTest(thing=thing), self.assertRaises(BadFile) as caught:
                        done(LAYOUT, edition, thing, deed)
                    self.assertEqual(caught.exception.place, (0,) if isinstance(thing, tuple) else ())
        with self.assertRaises(BadFile) as caught:
            done(LAYOUT, 0, with_item(FILE, 2, ("sum", 5)), None)
        self.assertEqual(caught.exception.place, (2,))


class Calls(Case):
    """[1], what holds for every call."""

    def test_nothing_passed_is_changed(self):
        for thing in ([["set", "page", 5]], ["set", "page", 5], {"page": [5]}, ("set", ["page"], 5), ("set", "page", [5])):
            ahead = copy.deepcopy(thing)
            self.refuse("form", LAYOUT, 1, FILE, thing)
            self.refuse_row((0, "form"), LAYOUT, ((1, thing),))
            self.assertEqual(thing, ahead)
        file = tuple(list(FILE))
        done(LAYOUT, 1, file, ("set", "page", 6))
        self.assertEqual(file, FILE)

    def test_equal_calls_return_equal_results(self):
        row = ((3, ("set", "page", 5)), (2, ("make", "index")), (3, ("make", "sum")))
        for _ in range(2):
            self.assertEqual(done(LAYOUT, 1, FILE, ("set", "page", 6)), ((("page", 6),), ("index", "sum"), ()))
            self.assertEqual(done(LAYOUT, 2, FILE, ("set", "page", 6)),
                             ((("page", 6), ("index", (6,))), ("sum",), ()))
            self.assertEqual(played(LAYOUT, row), FILE)
            with self.assertRaises(BadDeed):
                done(LAYOUT, 0, FILE, ("set", "page", 6))

    def test_kinds_of_values(self):
        for deed in (("set", "page", 5), ("set", "page", 6), ("drop", "page")):
            told = done(LAYOUT, 1, FILE, deed)
            self.assertIs(type(told), tuple)
            self.assertEqual([type(member) for member in told], [tuple] * 3)
            self.assertEqual([type(part) for part in told[0]], [tuple] * len(told[0]))
        self.assertIs(type(played(LAYOUT, ())), tuple)


class Examples(Case):
    def test_done(self):
        layout = (("page", 1, (), "p", ""), ("index", 2, ("page",), "i", "p"), ("sum", 3, ("index",), "s", "ip"))
        file = (("page", 5), ("index", (5,)), ("sum", (5,)))
        self.assertEqual(done(layout, 1, file, ("set", "page", 6)), ((("page", 6),), ("index", "sum"), ()))
        self.assertEqual(done(layout, 2, file, ("set", "page", 6)),
                         ((("page", 6), ("index", (6,))), ("sum",), ()))
        self.refuse("unknown", layout, 2, file, ("drop", "sum"))


if __name__ == "__main__":
    unittest.main()
