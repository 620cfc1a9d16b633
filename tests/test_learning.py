"""Tests of carriedparts.learning."""

import copy
import itertools
import random
import unittest

import model
from carriedparts.errors import BadLayout, BadLog
from carriedparts.layouts import names, newest
from carriedparts.learning import agrees, learned, need_log, open_letters, questions
from carriedparts.programs import done
from things import DEEP, INDEX, LAYOUT, LETTERS, PAGE, WIDE
from things import is_text, line_of, refusals, some_layouts, things, with_item

CALLS = (need_log, learned, open_letters, questions, agrees)
# "a" and "c" have one LETTER, and "b" is of the same EDITION as "c".
SHARED = (
    ("a", 1, (), "x", ""),
    ("b", 2, (), "y", "x"),
    ("c", 2, (), "x", ""),
    ("d", 3, ("a",), "z", "xy"),
    ("e", 3, (), "x", "y"),
)


def some_sight(chance, layout, marks=None):
    """A SIGHT of a LAYOUT; if MARKs are given, one that is true of them."""
    name = chance.choice(model.order_of(layout))
    newer = [other for other in model.order_of(layout) if model.is_older(layout, name, other)]
    letter = model.kind_of(layout, name)[3]
    stayed, left = [], []
    for other in newer:
        if chance.random() < 0.6:
            leaves = chance.random() < 0.5 if marks is None else letter in marks[other]
            (left if leaves else stayed).append(other)
    return name, tuple(stayed), tuple(left)


def marks_of(layout):
    return {kind[0]: kind[4] for kind in layout}


class Case(unittest.TestCase):
    def refuse(self, layout, thing, place):
        for call in CALLS:
            with self.assertRaises(BadLog) as caught:
                call(layout, thing)
            self.assertEqual(caught.exception.place, place, thing)
            self.assertIs(type(caught.exception.place), tuple)

    def take(self, layout, thing):
        self.assertIs(need_log(layout, thing), thing)
        for call in CALLS:
            call(layout, thing)


class Form(Case):
    """[21], what is a LOG, and where another thing is none."""

    def test_ordinary_logs(self):
        self.take(LAYOUT, ())
        self.take(LAYOUT, (("page", (), ()),))
        self.take(LAYOUT, (("page", (), ("index", "sum")), ("index", ("sum",), ()), ("sum", (), ())))
        self.take(LAYOUT, (("page", ("index",), ("sum",)), ("page", ("index",), ()), ("page", (), ("sum",))))
        self.take(SHARED, (("b", ("e",), ("d",)), ("a", ("c",), ("b",)), ("a", (), ("d", "e"))))

    def test_whole(self):
        for thing in things():
            with self.subTest(thing=thing):
                if not isinstance(thing, tuple):
                    self.refuse(LAYOUT, thing, ())
                elif thing != ():
                    self.refuse(LAYOUT, thing, (0,))

    def test_number_of_sights(self):
        sight = ("page", ("index",), ("sum",))
        for many in (1, 199, 200):
            self.take(LAYOUT, (sight,) * many)
        self.refuse(LAYOUT, (sight,) * 201, ())
        self.refuse(LAYOUT, (None,) * 201, ())
        self.refuse(LAYOUT, (None,) * 200, (0,))
        self.refuse(LAYOUT, (sight,) * 199 + (None,), (199,))
        self.refuse(LAYOUT, [sight], ())

    def test_sight(self):
        ahead = (("page", (), ("index",)),)
        for thing in things():
            with self.subTest(thing=thing):
                self.refuse(LAYOUT, ahead + (thing,), (1,))
        for sight in (("page",), ("page", ()), ("page", (), (), ()), ["page", (), ()], ("page", [], ()), ("page", (), []),
                      ("page", "", ()), ("page", (), "index"), ("page", {}, ())):
            self.refuse(LAYOUT, (sight,), (0,))

    def test_name(self):
        for thing in things():
            with self.subTest(thing=thing):
                if is_text(thing, "page|index"):
                    self.take(LAYOUT, ((thing, (), ("sum",)),))
                else:
                    self.refuse(LAYOUT, ((thing, (), ()),), (0,))

    def test_what_stayed_and_what_left(self):
        for thing in things():
            for sight in (("page", thing, ()), ("page", (), thing)):
                with self.subTest(sight=sight):
                    if isinstance(thing, tuple) and thing == ():
                        self.take(LAYOUT, (sight,))
                    else:
                        self.refuse(LAYOUT, (sight,), (0,))
            for sight in (("page", (thing,), ()), ("page", (), (thing,)), ("page", ("index", thing), ()),
                          ("page", (thing, "sum"), ())):
                with self.subTest(sight=sight):
                    if is_text(thing, "index") and sight[1] != ("index", "index"):
                        self.take(LAYOUT, (sight,))
                    else:
                        self.refuse(LAYOUT, (sight,), (0,))

    def test_only_newer_kinds(self):
        for name, other in itertools.product(names(WIDE), repeat=2):
            for sight in ((name, (other,), ()), (name, (), (other,))):
                if model.is_older(WIDE, name, other):
                    self.take(WIDE, (sight,))
                else:
                    self.refuse(WIDE, (sight,), (0,))

    def test_order(self):
        for some in itertools.product(names(WIDE)[2:], repeat=2):
            for sight in (("a", some, ()), ("a", (), some)):
                if list(some) == sorted(set(some)):
                    self.take(WIDE, (sight,))
                else:
                    self.refuse(WIDE, (sight,), (0,))
        self.take(WIDE, (("a", ("d", "f"), ("c", "e")),))

    def test_no_kind_in_both(self):
        self.refuse(WIDE, (("a", ("c", "d"), ("d",)),), (0,))
        self.refuse(WIDE, (("a", ("c",), ("c",)),), (0,))
        self.refuse(LAYOUT, (("page", (), ()), ("page", ("index", "sum"), ("sum",))), (1,))

    def test_contradictions(self):
        stayed, left = ("page", ("index",), ()), ("page", (), ("index",))
        self.refuse(LAYOUT, (stayed, left), (1,))
        self.refuse(LAYOUT, (left, stayed), (1,))
        self.refuse(LAYOUT, (left, ("index", (), ()), left, stayed, None), (3,))
        self.refuse(LAYOUT, (left, None, stayed), (1,))
        # Of another KIND, but with the same LETTER.
        self.refuse(SHARED, (("a", ("d",), ()), ("c", (), ("d",))), (1,))
        self.refuse(SHARED, (("c", ("e",), ("d",)), ("b", ("d",), ("e",)), ("a", ("b", "d"), ())), (2,))
        # With another LETTER it is none.
        self.take(SHARED, (("a", ("d",), ()), ("b", (), ("d",))))

    def test_against_the_words_of_the_document(self):
        chance = random.Random(13)
        wrong = 0
        for layout in some_layouts(400, 7, 19):
            log = tuple([some_sight(chance, layout) for _ in range(chance.randint(0, 5))])
            if log and chance.random() < 0.3:
                at = chance.randrange(len(log))
                names_there = tuple(chance.sample(names(layout), chance.randint(0, min(2, len(layout)))))
                log = with_item(log, at, with_item(log[at], chance.randint(1, 2), names_there))
            at = model.first_wrong_sight(layout, log)
            wrong += at is not None
            if at is None:
                self.take(layout, log)
            else:
                self.refuse(layout, log, (at,))
        self.assertTrue(80 < wrong < 320, wrong)


class Learned(Case):
    """[21], what follows from a LOG."""

    def test_nothing_seen(self):
        for layout in (LAYOUT, WIDE, DEEP, line_of(1)):
            self.assertEqual(learned(layout, ()), {name: ("", "") for name in names(layout)})

    def test_all_names_in_order(self):
        for layout in (LAYOUT, WIDE, DEEP):
            self.assertEqual(list(learned(layout, ())), list(names(layout)))

    def test_letters_that_are_in_the_mark_and_that_are_not(self):
        log = (("b", ("e",), ("d",)), ("a", ("e",), ("b",)), ("c", (), ("d",)))
        self.assertEqual(learned(SHARED, log), {
            "a": ("", ""), "b": ("x", ""), "c": ("", ""), "d": ("xy", ""), "e": ("", "xy")})
        self.assertEqual(learned(LAYOUT, (("index", ("sum",), ()),)), {
            "page": ("", ""), "index": ("", ""), "sum": ("", "i")})

    def test_marks_are_not_looked_at(self):
        log = (("b", ("e",), ("d",)), ("a", ("e",), ("b",)))
        for mark in ("", "y", LETTERS):
            other = tuple([kind[:4] + (mark,) for kind in SHARED])
            for call in CALLS[:4]:
                self.assertEqual(call(other, log), call(SHARED, log))

    def test_against_the_words_of_the_document(self):
        chance = random.Random(43)
        for layout in some_layouts(300, 8, 47):
            log = tuple([some_sight(chance, layout, marks_of(layout)) for _ in range(chance.randint(0, 6))])
            facts = model.seen(layout, log)
            told = learned(layout, log)
            self.assertEqual(list(told), list(names(layout)))
            for name in names(layout):
                self.assertEqual(told[name], tuple([
                    "".join([letter for letter in LETTERS if facts.get((name, letter)) is wanted])
                    for wanted in (True, False)]))

    def test_only_what_follows(self):
        """Of two LETTERs both answers are left exactly if some MARKs that allow the LOG have it and some have not."""
        layout = (("a", 1, (), "x", ""), ("b", 1, (), "y", ""), ("c", 2, (), "z", ""), ("d", 3, (), "x", ""))
        for sights in itertools.product(((), (("a", ("c",), ("d",)),)), ((), (("b", ("d",), ()),)), ((), (("c", (), ("d",)),))):
            log = sum(sights, ())
            allowed = [other for other in model.all_marks(layout) if agrees(other, log)]
            for at, name in enumerate(names(layout)):
                for letter in "xyz":
                    answers = {letter in other[at][4] for other in allowed}
                    told = learned(layout, log)[name]
                    self.assertEqual((letter in told[0], letter in told[1]), (answers == {True}, answers == {False}))


class Agreeing(Case):
    """[21], whether a LOG is true of the MARKs."""

    def test_ordinary_logs(self):
        for log, told in (
                ((), True), ((("page", (), ("index", "sum")),), True), ((("page", (), ("index",)),), True),
                ((("page", ("index",), ()),), False), ((("page", (), ()),), True), ((("index", ("sum",), ()),), False),
                ((("page", (), ("sum",)), ("index", (), ("sum",))), True),
                ((("page", (), ("sum",)), ("index", ("sum",), ())), False)):
            self.assertIs(agrees(LAYOUT, log), told)

    def test_log_of_a_program(self):
        """What programs really do to a whole FILE is true of the MARKs."""
        contents = {"a": 1, "b": 2, "c": (2,), "d": (1, 2), "e": (1, 2), "f": 3}
        file = tuple(contents.items())
        log = ()
        for edition in range(1, newest(WIDE) + 1):
            for name in "abf":
                if model.kind_of(WIDE, name)[1] == edition:
                    behind, lost, _ = done(WIDE, edition, file, ("set", name, 9))
                    newer = [other for other in names(WIDE) if model.is_older(WIDE, name, other)]
                    log += ((name, tuple([other for other in newer if other not in lost]), lost),)
        self.assertEqual(len(log), 3)
        self.assertIs(agrees(WIDE, log), True)
        for at, (name, stayed, left) in enumerate(log[:2]):
            self.assertIs(agrees(WIDE, with_item(log, at, (name, left, stayed))), False)

    def test_against_the_words_of_the_document(self):
        chance = random.Random(53)
        answers = []
        for layout in some_layouts(500, 7, 59):
            marks = marks_of(layout) if chance.random() < 0.5 else None
            log = tuple([some_sight(chance, layout, marks) for _ in range(chance.randint(0, 3))])
            if model.first_wrong_sight(layout, log) is None:
                facts = model.seen(layout, log)
                answers.append(all([(letter in marks_of(layout)[name]) is told for (name, letter), told in facts.items()]))
                self.assertIs(agrees(layout, log), answers[-1])
        self.assertGreater(min(answers.count(True), answers.count(False)), 50)


class Questions(Case):
    """[22]"""

    def test_ordinary_logs(self):
        self.assertEqual((open_letters(LAYOUT, ()), questions(LAYOUT, ())), ("ip", ("page", "index")))
        log = (("page", (), ("index", "sum")),)
        self.assertEqual((open_letters(LAYOUT, log), questions(LAYOUT, log)), ("i", ("index",)))
        log += (("index", ("sum",), ()),)
        self.assertEqual((open_letters(LAYOUT, log), questions(LAYOUT, log)), ("", ()))
        self.assertEqual((open_letters(SHARED, ()), questions(SHARED, ())), ("xy", ("a", "b")))

    def test_no_kind_is_newer(self):
        for layout in (line_of(24), LAYOUT[:1], tuple([kind[:1] + (5,) + kind[2:] for kind in WIDE])):
            self.assertEqual((open_letters(layout, ()), questions(layout, ())), ("", ()))

    def test_first_kind_with_the_letter(self):
        # What is open is left open by "c" alone, but the first one in order is told.
        log = (("a", ("b", "c"), ("d",)),)
        self.assertEqual((open_letters(SHARED, log), questions(SHARED, log)), ("xy", ("a", "b")))
        self.assertEqual((open_letters(SHARED, log + (("c", ("e",), ()),)), questions(SHARED, log + (("c", ("e",), ()),))),
                         ("y", ("b",)))

    def test_order_of_letters_and_of_names(self):
        layout = (("a", 1, (), "z", ""), ("b", 1, (), "m", ""), ("c", 2, (), "a", ""), ("d", 3, (), "q", ""))
        self.assertEqual((open_letters(layout, ()), questions(layout, ())), ("amz", ("a", "b", "c")))

    def test_against_the_words_of_the_document(self):
        chance = random.Random(61)
        for layout in some_layouts(300, 9, 67):
            log = tuple([some_sight(chance, layout, marks_of(layout)) for _ in range(chance.randint(0, 8))])
            letters = model.open_letters(layout, log)
            self.assertEqual(open_letters(layout, log), letters)
            first = {}
            for kind in layout:
                first.setdefault(kind[3], kind[0])
            self.assertEqual(questions(layout, log), tuple([
                name for name in names(layout) if name in [first[letter] for letter in letters]]))

    def test_answers_settle_all_and_none_can_be_left_out(self):
        chance = random.Random(71)
        for layout in some_layouts(200, 9, 73):
            log = tuple([some_sight(chance, layout, marks_of(layout)) for _ in range(chance.randint(0, 4))])
            asked = questions(layout, log)
            self.assertEqual(len(asked), len(open_letters(layout, log)))
            answers = tuple([model.answer(layout, marks_of(layout), name) for name in asked])
            self.assertEqual(open_letters(layout, log + answers), "")
            self.assertEqual(questions(layout, log + answers), ())
            self.assertIs(agrees(layout, log + answers), True)
            for at in range(len(answers)):
                self.assertNotEqual(open_letters(layout, log + answers[:at] + answers[at + 1:]), "")

    def test_no_fewer_questions_do(self):
        """Going through all smaller sets of questions."""
        for layout in list(some_layouts(60, 6, 79)) + [SHARED, WIDE]:
            asked = questions(layout, ())
            for some in itertools.combinations(names(layout), max(0, len(asked) - 1)):
                answers = tuple([model.answer(layout, marks_of(layout), name) for name in some])
                self.assertTrue(not asked or open_letters(layout, answers))

    def test_largest_log_is_quick(self):
        order = names(DEEP)
        log = tuple([(order[at % 23], (), order[at % 23 + 1:]) for at in range(200)])
        self.assertIs(agrees(DEEP, log), True)
        self.assertEqual(open_letters(DEEP, log), "")
        self.assertEqual(learned(DEEP, log)[order[23]], (LETTERS[:23], ""))


class Errors(Case):
    """[1] and the interface: which errors come first."""

    def test_no_layout_is_refused_first(self):
        for layout, place in refusals():
            for log in ((), (("page", (), ()),), None, [], (None,), (None,) * 201):
                for call in CALLS:
                    with self.assertRaises(BadLayout) as caught:
                        call(layout, log)
                    self.assertEqual(caught.exception.place, place)


class Calls(Case):
    """[1], what holds for every call."""

    def test_nothing_passed_is_changed(self):
        for thing in ([("page", (), ())], (["page", (), ()],), (("page", ["index"], ()),), {"page": []}):
            ahead = copy.deepcopy(thing)
            self.refuse(LAYOUT, thing, (0,) if isinstance(thing, tuple) else ())
            self.assertEqual(thing, ahead)

    def test_what_is_returned_belongs_to_the_caller(self):
        log = (("page", (), ("index", "sum")),)
        told = learned(LAYOUT, log)
        told.clear()
        self.assertEqual(learned(LAYOUT, log), {"page": ("", ""), "index": ("p", ""), "sum": ("p", "")})

    def test_equal_calls_return_equal_results(self):
        log = (("b", ("e",), ("d",)), ("a", ("e",), ("b",)))
        for call in CALLS:
            self.assertEqual(call(SHARED, log), call(tuple(list(SHARED)), tuple(list(log))))
        self.assertEqual([type(call(SHARED, log)) for call in CALLS], [tuple, dict, str, tuple, bool])


class Examples(Case):
    def test_learned_and_questions(self):
        layout = (("page", 1, (), "p", ""), ("index", 2, ("page",), "i", "p"), ("sum", 3, ("index",), "s", "ip"))
        log = (("page", (), ("index", "sum")),)
        self.assertEqual((learned(layout, log), questions(layout, log)),
                         ({"page": ("", ""), "index": ("p", ""), "sum": ("p", "")}, ("index",)))
        self.assertEqual((PAGE, INDEX), layout[:2])


if __name__ == "__main__":
    unittest.main()
