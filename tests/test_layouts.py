"""Tests of carriedparts.layouts."""

import copy
import itertools
import random
import unittest

from carriedparts import layouts
from carriedparts.errors import BadDeed, BadLayout, Missing
from carriedparts.layouts import above, beneath, is_layout, is_older, known, minds, names, need_layout, newest
from carriedparts.layouts import sources, watches
from things import DEEP, FULL, INDEX, LAYOUT, LETTERS, PAGE, SUM, WIDE
from things import is_text, is_whole, line_of, some_layouts, things, with_item

ONE_NAME = (beneath, above, sources, watches, minds)


def kind_with(**members):
    """A source that is right, but for the members that are given."""
    kind = {"name": "page", "edition": 1, "bases": (), "letter": "p", "mark": ""}
    kind.update(members)
    return tuple(kind.values())


class Case(unittest.TestCase):
    def refuse(self, thing, place):
        with self.assertRaises(BadLayout) as caught:
            need_layout(thing)
        self.assertEqual(caught.exception.place, place, thing)
        self.assertIs(type(caught.exception.place), tuple)
        self.assertIs(is_layout(thing), False)

    def take(self, thing):
        self.assertIs(need_layout(thing), thing)
        self.assertIs(is_layout(thing), True)

    def refuse_each_but(self, is_right, layout_with, place):
        """Each thing that is not right is refused at a place, each one that is right is taken."""
        taken = 0
        for thing in things():
            with self.subTest(thing=thing):
                if is_right(thing):
                    taken += 1
                    self.take(layout_with(thing))
                else:
                    self.refuse(layout_with(thing), place)
        return taken


class Constants(Case):
    def test_limits(self):
        self.assertEqual((layouts.MOST_KINDS, layouts.MOST_BASES, layouts.MOST_EDITION), (24, 6, 99))


class Form(Case):
    """[2], the form of each KIND by itself."""

    def test_ordinary_layouts(self):
        for layout in (LAYOUT, LAYOUT[:1], LAYOUT[:2], WIDE):
            self.take(layout)
        for layout in some_layouts(100):
            self.take(layout)

    def test_whole(self):
        for thing in things():
            with self.subTest(thing=thing):
                place = (0,) if isinstance(thing, tuple) and thing else ()
                self.refuse(thing, place)

    def test_number_of_kinds(self):
        self.take(line_of(1))
        self.take(line_of(24))
        self.refuse((), ())
        self.refuse(line_of(25), ())
        self.refuse(list(LAYOUT), ())
        self.refuse((None,) * 25, ())
        self.refuse((None,) * 24, (0,))

    def test_kind(self):
        for at in range(3):
            self.refuse_each_but(lambda thing: False, lambda thing: with_item(line_of(3), at, thing), (at,))

    def test_number_of_members(self):
        self.refuse((PAGE[:4],), (0,))
        self.refuse((PAGE + ("",),), (0,))
        self.refuse((list(PAGE),), (0,))

    def test_name(self):
        taken = self.refuse_each_but(
            lambda thing: is_text(thing, "[a-z]{1,8}"), lambda thing: (kind_with(name=thing),), (0,))
        self.assertGreater(taken, 0)
        for name in ("a", "z", "abcdefgh", "zzzzzzzz"):
            self.take((kind_with(name=name),))
        for name in ("\u00e9", "a\u00e9", "\u0430", "\ud800", "", "abcdefghi", "Page", "pAge", "page1", "page ", " page",
                     "a-b", "a_b", "a{", "a`", "ab\n", "\n"):
            self.refuse((kind_with(name=name),), (0,))

    def test_edition(self):
        taken = self.refuse_each_but(
            lambda thing: is_whole(thing, 1, 99), lambda thing: (kind_with(edition=thing),), (0,))
        self.assertEqual(taken, 3)
        for edition in (1, 2, 98, 99):
            self.take((kind_with(edition=edition),))
        for edition in (0, 100, -1, 10 ** 30 - 1, True, False, "1"):
            self.refuse((kind_with(edition=edition),), (0,))

    def test_bases(self):
        taken = self.refuse_each_but(
            lambda thing: isinstance(thing, tuple) and thing in ((), ("page",)),
            lambda thing: (PAGE, kind_with(name="other", bases=thing)), (1,))
        self.assertEqual(taken, 2)

    def test_number_of_bases(self):
        ahead = line_of(7)
        given = names(ahead)
        for many in range(7):
            self.take(ahead + (kind_with(bases=given[:many]),))
        self.refuse(ahead + (kind_with(bases=given),), (7,))
        self.refuse(ahead + (kind_with(bases=list(given[:2])),), (7,))

    def test_bases_are_different(self):
        self.refuse(line_of(2) + (kind_with(bases=("ka", "ka")),), (2,))
        self.refuse(line_of(2) + (kind_with(bases=("ka", "kb", "ka")),), (2,))
        self.take(line_of(2) + (kind_with(bases=("kb", "ka")),))

    def test_each_of_the_bases(self):
        for at in range(2):
            taken = self.refuse_each_but(
                lambda thing: is_text(thing, "page"),
                lambda thing: (PAGE, kind_with(name="q"), kind_with(name="r", bases=with_item(("q", "q"), at, thing))),
                (2,))
            self.assertEqual(taken, 1)

    def test_letter(self):
        taken = self.refuse_each_but(
            lambda thing: is_text(thing, "[a-z]"), lambda thing: (kind_with(letter=thing),), (0,))
        self.assertEqual(taken, 2)
        for letter in LETTERS:
            self.take((kind_with(letter=letter),))
        for letter in ("", "ab", "abc", LETTERS, "A", "1", "-", " ", "\n", "a\n", "`", "{"):
            self.refuse((kind_with(letter=letter),), (0,))

    def test_mark(self):
        taken = self.refuse_each_but(
            lambda thing: is_text(thing, "[a-z]*") and thing == "".join(sorted(set(thing))),
            lambda thing: (kind_with(mark=thing),), (0,))
        self.assertGreater(taken, 0)
        for mark in ("", "a", "z", "az", "abc", LETTERS):
            self.take((kind_with(mark=mark),))
        for mark in ("\u00e9", "a\u00e9", "\u0430", "\ud800", "aa", "abb", "aab", "ba", "acb", "abca", LETTERS[::-1],
                     LETTERS + "z", "A", "aB", "-", " ", "a b"):
            self.refuse((kind_with(mark=mark),), (0,))


class Together(Case):
    """[2], the KINDs beside each other, and the place."""

    def test_names_are_different(self):
        self.refuse((PAGE, PAGE), (1,))
        self.refuse((PAGE, INDEX, kind_with(edition=9, letter="q")), (2,))

    def test_editions_do_not_fall(self):
        self.take((kind_with(name="a", edition=5), kind_with(name="b", edition=5), kind_with(name="c", edition=99)))
        self.refuse((kind_with(name="a", edition=5), kind_with(name="b", edition=4)), (1,))
        three = (kind_with(name="a", edition=1), kind_with(name="b", edition=9), kind_with(name="c", edition=8))
        self.refuse(three, (2,))

    def test_bases_stand_ahead(self):
        self.refuse((kind_with(bases=("page",)),), (0,))
        self.refuse((kind_with(bases=("index",)), kind_with(name="index")), (0,))
        self.refuse((PAGE, kind_with(name="a", bases=("page", "nowhere"))), (1,))
        self.refuse((INDEX, SUM), (0,))
        self.refuse((PAGE, SUM), (1,))

    def test_an_empty_name_at_each_place(self):
        for many in (1, 2, 24):
            for at in range(many):
                layout = line_of(many)
                self.refuse(with_item(layout, at, ("",) + layout[at][1:]), (at,))

    def test_bases_that_are_named_twice(self):
        given = names(line_of(6))
        for many in range(2, 7):
            for one, other in itertools.combinations(range(many), 2):
                self.refuse(line_of(6) + (kind_with(bases=with_item(given[:many], one, given[other])),), (6,))

    def test_first_wrong_kind_is_told(self):
        wrong = ((PAGE, PAGE), (kind_with(bases=("index",)),), (kind_with(edition=0),), (None,))
        for tail in wrong:
            self.refuse((PAGE, None) + tail, (1,))
            self.refuse((PAGE, PAGE) + tail, (1,))
            self.refuse((PAGE, INDEX, PAGE) + tail, (2,))
            self.refuse((INDEX,) + tail, (0,))
        self.refuse((PAGE, kind_with(name="b", edition=9), INDEX, PAGE), (2,))
        self.refuse(line_of(23) + (None,), (23,))
        self.refuse(line_of(24) + (None,), ())

    def test_signs_of_each_name_and_mark(self):
        """Each of them is looked at, wherever it stands and whatever stands beside it."""
        for at in range(24):
            name, edition, bases, letter, mark = DEEP[at]
            for wrong in ("abcdef" + sign + "x" for sign in "`{A1 \n-~"):
                renamed = [kind[:2] + ((),) + kind[3:] for kind in DEEP]
                renamed[at] = (wrong, edition, (), letter, mark)
                self.refuse(tuple(renamed), (at,))
            for wrong in ("ba", "aa", "abcb", "`", "`a", "a`b", "{", "z{", "yz{", "A", "aB", " ", "a b", "~", "zz"):
                self.refuse(with_item(DEEP, at, DEEP[at][:4] + (wrong,)), (at,))
            for right in ("", "a", "z", "az", "by", LETTERS):
                self.take(with_item(DEEP, at, DEEP[at][:4] + (right,)))

    def test_marks_of_all_lengths(self):
        for many in range(1, 25):
            for marks in ((LETTERS,) * many, ("",) * many, ("z", "a", "") * 8, ("az", LETTERS, "m") * 8):
                self.take(tuple([("k" + LETTERS[at], 1, (), "a", marks[at]) for at in range(many)]))

    def test_marks_at_every_place_of_layouts_of_several_sizes(self):
        """Also where the other MARKs are empty, and where they have all LETTERs."""
        chance = random.Random(17)
        rights = [LETTERS[:many] for many in range(27)] + [LETTERS[many:] for many in range(27)]
        rights += ["".join(sorted(chance.sample(LETTERS, many))) for many in range(27)]
        wrongs = [right[:at] + right[at + 1] + right[at] + right[at + 2:] for right in (LETTERS, "acegmz")
                  for at in range(len(right) - 1)]
        wrongs += [LETTERS[:at] + LETTERS[at] + LETTERS[at:] for at in range(26)]
        wrongs += [right[:at] + sign + right[at:] for right in ("", "bdx", LETTERS[:25], LETTERS[1:], LETTERS)
                   for at in {0, 1, len(right) // 2, len(right)} for sign in "`{ABZ1-~ @[_\n"]
        wrongs += [LETTERS.upper(), "Abc", "abC", LETTERS * 2, LETTERS * 13, "a" * 27, "ab" * 300, "z" * 1000]
        for many in (1, 2, 24):
            for other in ("", "m", LETTERS):
                layout = tuple([kind[:4] + (other,) for kind in line_of(many)])
                for at in range(many):
                    for mark in rights if many < 24 else rights[at::4]:
                        self.take(with_item(layout, at, layout[at][:4] + (mark,)))
                    for mark in wrongs if many < 24 else wrongs[at::4]:
                        self.refuse(with_item(layout, at, layout[at][:4] + (mark,)), (at,))

    def test_first_of_several_wrong_marks_is_told(self):
        for one in range(24):
            for other in range(one + 1, 24):
                for wrong in ("ba", LETTERS + "z"):
                    layout = with_item(DEEP, other, DEEP[other][:4] + ("B",))
                    self.refuse(with_item(layout, one, layout[one][:4] + (wrong,)), (one,))

    def test_first_of_the_same_wrong_marks_is_told(self):
        for one, other in itertools.combinations(range(24), 2):
            layout = with_item(FULL, other, FULL[other][:4] + ("ba",))
            self.refuse(with_item(layout, one, layout[one][:4] + ("ba",)), (one,))

    def test_first_of_wrong_signs_and_wrong_forms_is_told(self):
        signs = [kind_with(name="A"), kind_with(name="b", mark="ba"), kind_with(name="c", letter="C")]
        forms = [None, PAGE, kind_with(name="b", edition=0), kind_with(name="c", bases=("nowhere",)), INDEX[:4]]
        for one in signs + forms:
            for other in signs + forms:
                self.refuse((PAGE, one, other), (1,))
                self.refuse((PAGE, INDEX, one, SUM, other), (2,))
                self.refuse((PAGE, INDEX, SUM, one), (3,))

    def test_against_the_words_of_the_document(self):
        chance = random.Random(11)
        signs = LETTERS + "`{A1 "
        for layout in some_layouts(400):
            kinds = [list(kind) for kind in layout]
            for _ in range(chance.choice((1, 1, 2))):
                kind = chance.choice(kinds)
                member = chance.choice((0, 1, 2, 3, 4, 4))
                kind[member] = {
                    0: chance.choice(("", "abcdefghi", chance.choice(kinds)[0], kind[0][:7] + chance.choice(signs))),
                    1: chance.choice((0, 1, kind[1] + 1, 99, 100, True)),
                    2: tuple([chance.choice(kinds)[0] for _ in range(chance.randint(0, 7))]),
                    3: chance.choice(("", "ab") + tuple(signs)),
                    4: "".join(chance.sample(signs, chance.randint(0, 3))),
                }[member]
            changed = tuple([tuple(kind) for kind in kinds])
            place = place_by_the_words(changed)
            if place is None:
                self.take(changed)
            else:
                self.refuse(changed, place)


def place_by_the_words(layout):
    """[2], member by member: the place of the first KIND that is wrong, None if there is none."""
    for at, (name, edition, bases, letter, mark) in enumerate(layout):
        ahead = [kind[0] for kind in layout[:at]]
        right = (
            is_text(name, "[a-z]{1,8}") and name not in ahead and is_whole(edition, 1, 99)
            and (at == 0 or edition >= layout[at - 1][1])
            and len(bases) <= 6 and len(set(bases)) == len(bases) and set(bases) <= set(ahead)
            and is_text(letter, "[a-z]") and is_text(mark, "[a-z]*") and mark == "".join(sorted(set(mark))))
        if not right:
            return (at,)
    return None


class Tells(Case):
    def test_newest(self):
        self.assertEqual([newest(LAYOUT), newest(LAYOUT[:1]), newest(WIDE)], [3, 1, 4])
        self.assertEqual(newest((kind_with(edition=99),)), 99)

    def test_names(self):
        self.assertEqual(names(LAYOUT), ("page", "index", "sum"))
        self.assertEqual(names(LAYOUT[:1]), ("page",))
        self.assertEqual(names((kind_with(name="z"), kind_with(name="a"))), ("z", "a"))

    def test_known(self):
        self.assertEqual([known(LAYOUT, edition) for edition in (1, 2, 3)],
                         [("page",), ("page", "index"), ("page", "index", "sum")])
        self.assertEqual([known(WIDE, edition) for edition in (1, 2, 3, 4)],
                         [tuple("ab"), tuple("abcd"), tuple("abcd"), tuple("abcdef")])
        self.assertEqual(known((kind_with(edition=5),), 4), ())

    def test_edition_of_a_program(self):
        for layout in (LAYOUT, (kind_with(edition=99),), (kind_with(edition=1),)):
            for thing in things():
                with self.subTest(layout=layout, thing=thing):
                    if is_whole(thing, 1, layout[-1][1]):
                        known(layout, thing)
                        continue
                    with self.assertRaises(BadDeed) as caught:
                        known(layout, thing)
                    self.assertEqual(caught.exception.word, "edition")
        for edition in (0, 4, 99, -1, True):
            with self.assertRaises(BadDeed):
                known(LAYOUT, edition)

    def test_what_a_program_knows_is_closed(self):
        for layout in some_layouts(60):
            for edition in range(1, newest(layout) + 1):
                told = known(layout, edition)
                for name in told:
                    self.assertLessEqual(set(beneath(layout, name)), set(told))

    def test_beneath(self):
        self.assertEqual([beneath(LAYOUT, name) for name in names(LAYOUT)], [(), ("page",), ("page", "index")])
        self.assertEqual([beneath(WIDE, name) for name in names(WIDE)],
                         [(), (), ("b",), ("a", "b"), ("a", "b", "d"), ()])

    def test_above(self):
        self.assertEqual([above(LAYOUT, name) for name in names(LAYOUT)], [("index", "sum"), ("sum",), ()])
        self.assertEqual([above(WIDE, name) for name in names(WIDE)],
                         [("d", "e"), ("c", "d", "e"), (), ("e",), (), ()])

    def test_sources(self):
        self.assertEqual([sources(LAYOUT, name) for name in names(LAYOUT)], [(), ("page",), ("page",)])
        self.assertEqual([sources(WIDE, name) for name in names(WIDE)],
                         [(), (), ("b",), ("a", "b"), ("a", "b"), ()])

    def test_older(self):
        self.assertIs(is_older(LAYOUT, "page", "index"), True)
        self.assertIs(is_older(LAYOUT, "index", "page"), False)
        self.assertIs(is_older(LAYOUT, "page", "page"), False)
        self.assertIs(is_older(WIDE, "a", "b"), False)
        self.assertIs(is_older(WIDE, "b", "f"), True)

    def test_watches(self):
        """[10]: only what is OLDER is watched, beneath or not."""
        self.assertEqual([watches(LAYOUT, name) for name in names(LAYOUT)], [(), ("page",), ("page", "index")])
        self.assertEqual([watches(WIDE, name) for name in names(WIDE)],
                         [(), (), ("a", "b"), (), ("a", "b", "c", "d"), ("a", "c")])

    def test_minds(self):
        """[17]: whatever the EDITIONs, but another KIND."""
        self.assertEqual([minds(LAYOUT, name) for name in names(LAYOUT)], [(), ("page",), ("page", "index")])
        self.assertEqual([minds(WIDE, name) for name in names(WIDE)],
                         [(), ("a", "c", "d"), ("a", "b"), (), ("a", "b", "c", "d"), ("a", "c", "e")])
        self.assertEqual(minds((kind_with(mark="p"),), "page"), ())

    def test_against_plain_search(self):
        for layout in some_layouts(200):
            order = [kind[0] for kind in layout]
            by_name = dict(zip(order, layout))

            def reached(name):
                return {name}.union(*[reached(base) for base in by_name[name][2]])

            for name in order:
                kind = by_name[name]
                below = tuple([other for other in order if other in reached(name) and other != name])
                self.assertEqual(beneath(layout, name), below)
                self.assertEqual(sources(layout, name), tuple([other for other in below if not by_name[other][2]]))
                over = [other for other in order if name in reached(other) and other != name]
                self.assertEqual(above(layout, name), tuple(over))
                seen = [other for other in order if by_name[other][3] in kind[4]]
                self.assertEqual(watches(layout, name), tuple([k for k in seen if by_name[k][1] < kind[1]]))
                self.assertEqual(minds(layout, name), tuple([k for k in seen if k != name]))
                for other in order:
                    self.assertIs(is_older(layout, name, other), kind[1] < by_name[other][1])

    def test_largest_layout_is_quick(self):
        """Each KIND is made from the six ahead of it, so there are very many ways down."""
        layout = line_of(6)
        for at in range(6, 24):
            layout += ((LETTERS[at], 1, names(layout)[-6:], "a", ""),)
        self.assertEqual(beneath(layout, "x"), names(layout)[:-1])
        self.assertEqual(sources(layout, "x"), names(layout)[:6])
        self.assertEqual(above(layout, "kf"), names(layout)[6:])


class Errors(Case):
    """[1] and the interface: which errors come, and which first."""

    def test_no_layout_is_refused_first(self):
        bad = (None, True, 5, "page", b"", [], {}, set(), (), object(), list(LAYOUT))
        calls = [newest, names]
        for other in (None, "page", "nowhere", [], {}, object()):
            calls.append(lambda layout, other=other: known(layout, other))
            calls.append(lambda layout, other=other: is_older(layout, other, other))
            for call in ONE_NAME:
                calls.append(lambda layout, other=other, call=call: call(layout, other))
        for call in calls:
            for layout, place in [(thing, ()) for thing in bad] + [((PAGE, PAGE), (1,)), ((None,), (0,))]:
                with self.assertRaises(BadLayout) as caught:
                    call(layout)
                self.assertEqual(caught.exception.place, place)

    def test_missing_names(self):
        for thing in things():
            if is_text(thing, "page|index"):
                continue
            calls = [lambda call=call: call(LAYOUT, thing) for call in ONE_NAME]
            calls.append(lambda: is_older(LAYOUT, thing, "page"))
            calls.append(lambda: is_older(LAYOUT, "page", thing))
            for call in calls:
                with self.subTest(thing=thing), self.assertRaises(Missing) as caught:
                    call()
                self.assertIs(caught.exception.name, thing)

    def test_first_of_two_names_is_told(self):
        for one, other in (("x", "y"), ("y", "x"), (["x"], None), (None, {})):
            with self.assertRaises(Missing) as caught:
                is_older(LAYOUT, one, other)
            self.assertIs(caught.exception.name, one)


class Calls(Case):
    """[1], what holds for every call."""

    def test_nothing_passed_is_changed(self):
        for thing in ([list(PAGE)], {"page": [1]}, [PAGE], (["page", 1, [], "p", ""],)):
            ahead = copy.deepcopy(thing)
            self.assertFalse(is_layout(thing))
            with self.assertRaises(Missing):
                beneath(LAYOUT, thing)
            with self.assertRaises(BadDeed):
                known(LAYOUT, thing)
            self.assertEqual(thing, ahead)

    def test_equal_calls_return_equal_results(self):
        same = tuple([tuple(list(kind)) for kind in WIDE])
        for name in names(WIDE):
            for call in ONE_NAME:
                told = call(WIDE, name)
                self.assertIs(type(told), tuple)
                self.assertEqual(told, call(WIDE, name))
                self.assertEqual(told, call(same, "".join(list(name))))
        self.assertEqual(known(WIDE, 2), known(same, 2))

    def test_what_was_passed_before_has_no_effect(self):
        other = (("page", 1, (), "p", ""), ("index", 1, (), "q", ""))
        self.assertEqual((beneath(LAYOUT, "index"), beneath(other, "index"), beneath(LAYOUT, "index")),
                         (("page",), (), ("page",)))
        self.assertFalse(is_layout((PAGE, PAGE)))
        self.assertTrue(is_layout(LAYOUT))


class Examples(Case):
    def test_beneath_and_watches(self):
        layout = (("page", 1, (), "p", ""), ("index", 2, ("page",), "i", "p"), ("sum", 3, ("index",), "s", "ip"))
        self.assertEqual((beneath(layout, "sum"), watches(layout, "index")), (("page", "index"), ("page",)))

    def test_layouts_of_the_other_examples(self):
        self.take((("page", 1, (), "p", ""), ("index", 2, ("page",), "i", "")))
        self.take((("a", 1, (), "x", ""), ("b", 1, (), "x", "")))


if __name__ == "__main__":
    unittest.main()
