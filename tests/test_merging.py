"""Tests of carriedparts.merging."""

import copy
import itertools
import random
import time
import unittest

import model
from carriedparts.errors import BadDeed, BadFile, BadLayout, Clash
from carriedparts.files import is_sound, need_file
from carriedparts.judging import is_safe
from carriedparts.layouts import minds, newest, sources
from carriedparts.marks import careful
from carriedparts.merging import is_merge_safe, is_merge_sparing, merge_fault, merge_waste, merged
from things import DEEP, DEEP_FILE, FILE, FULL, LAYOUT, LETTERS, WIDE
from things import altered_layouts, is_whole, line_of, refusals, some_file, some_layouts, things, with_item

A = ("a", 1, (), "x", "")
B = ("b", 1, (), "y", "")


def numbered_letters(layout, marks):
    """The LAYOUT with a LETTER of its own for each KIND, and MARKs that are told by numbers."""
    return tuple([kind[:3] + (LETTERS[at], "".join([LETTERS[other] for other in sorted(marks[at])]))
                  for at, kind in enumerate(layout)])


def exact_for_merging(layout):
    """The LAYOUT in which each KIND minds just what is beneath it."""
    order = model.order_of(layout)
    return numbered_letters(layout, [{order.index(name) for name in model.beneath(layout, kind[0])} for kind in layout])


def small_layouts():
    """LAYOUTs of one to three KINDs whose mergings can all be gone through: MERGE SAFE and SPARING ones and others."""
    chance = random.Random(23)
    told = [LAYOUT[:1], LAYOUT[:2], LAYOUT, (A, B, ("c", 2, ("a",), "z", "x")), (A, B, ("c", 2, ("a",), "z", "y"))]
    told += [(A, ("b", 2, (), "y", "z"), ("c", 3, ("b",), "z", "y")), (A, ("b", 2, ("a",), "x", "x"))]
    for layout in itertools.islice(some_layouts(4000, 3, 41), 0, 4000, 110):
        whole = exact_for_merging(layout)
        at, other = chance.randrange(len(layout)), chance.choice("abc"[:len(layout)])
        mark = "".join(sorted(set(whole[at][4]) ^ {other}))
        told += [layout, whole, with_item(whole, at, whole[at][:4] + (mark,))]
    return [layout for layout in told if len(list(model.all_files(layout))) <= 30]


class Case(unittest.TestCase):
    def compare(self, layout, edition, base, one, other):
        """What is merged is what the words of the document say; tells it."""
        expected = model.merged(layout, edition, dict(base), dict(one), dict(other))
        if isinstance(expected, str):
            self.refuse(expected, layout, edition, base, one, other)
            return None
        told = merged(layout, edition, base, one, other)
        self.assertEqual(told, (model.told(layout, expected[0]), expected[1], expected[2]))
        need_file(layout, told[0])
        return told

    def refuse(self, name, layout, edition, base, one, other):
        with self.assertRaises(Clash) as caught:
            merged(layout, edition, base, one, other)
        self.assertEqual(caught.exception.name, name)


class Sources(Case):
    """[16], the first of the three kinds of KINDs."""

    def test_three_ways(self):
        five, six = (("page", 5),), (("page", 6),)
        for edition in (1, 2, 3):
            for base, one, other, told in (
                    (five, five, five, five), (five, six, five, six), (five, five, six, six), (five, six, six, six),
                    ((), five, five, five), ((), five, (), five), ((), (), five, five), ((), (), (), ()),
                    (five, (), five, ()), (five, five, (), ()), (five, (), (), ()), (six, five, five, five)):
                self.assertEqual(merged(LAYOUT, edition, base, one, other), (told, (), ()))

    def test_zero_is_a_content(self):
        zero, six = (("page", 0),), (("page", 6),)
        self.assertEqual(merged(LAYOUT, 1, (), zero, ())[0], zero)
        self.assertEqual(merged(LAYOUT, 1, zero, (), zero)[0], ())
        self.assertEqual(merged(LAYOUT, 1, six, zero, six)[0], zero)
        self.refuse("page", LAYOUT, 1, (), zero, six)

    def test_clash(self):
        five, six, seven = (("page", 5),), (("page", 6),), (("page", 7),)
        for base, one, other in ((five, six, seven), ((), six, seven), (five, (), seven), (five, six, ())):
            for edition in (1, 2, 3):
                self.refuse("page", LAYOUT, edition, base, one, other)
                self.refuse("page", LAYOUT, edition, base, other, one)

    def test_first_clash_in_order_whether_known_or_not(self):
        layout = (A, ("b", 2, (), "y", ""), ("c", 3, (), "z", ""))
        base, one, other = ((("a", 0), ("b", 0), ("c", 0)), (("a", 1), ("b", 1), ("c", 1)), (("a", 2), ("b", 2), ("c", 2)))
        for edition in (1, 2, 3):
            self.refuse("a", layout, edition, base, one, other)
            self.refuse("b", layout, edition, base, base[:1] + one[1:], other)
            self.refuse("c", layout, edition, base, one, other[:0] + base[:2] + other[2:])
            self.refuse("c", layout, edition, (), one[2:], other[2:])

    def test_clash_comes_ahead_of_all_that_leaves(self):
        layout = (A, ("b", 2, (), "y", "x"))
        self.refuse("b", layout, 1, (), (("a", 1), ("b", 1)), (("b", 2),))


class Made(Case):
    """[16], the made kinds."""

    def test_known_kinds_are_made_anew(self):
        one = (("page", 5), ("index", (5,)))
        self.assertEqual(merged(LAYOUT, 2, (("page", 5),), one, (("page", 6),)), ((("page", 6), ("index", (6,))), (), ()))
        # Their CONTENTs do not matter, and they never clash.
        self.assertEqual(merged(LAYOUT, 2, (("page", 5), ("index", (7,))), (("page", 5), ("index", (8,))),
                                (("page", 5), ("index", (9,)))), (one, (), ()))

    def test_whether_a_known_kind_stands(self):
        page, both, made = (("page", 5),), (("page", 5), ("index", (5,))), (("index", (9,)),)
        for base, one, other, stands in (
                (page, both, page, True), (both, page, both, False), (page, page, both, True), (both, both, page, False),
                (both, page, page, False), (page, both, both, True), (page, page + made, page, True)):
            self.assertEqual(merged(LAYOUT, 2, base, one, other), (both if stands else page, (), ()))

    def test_known_kind_leaves_with_its_base(self):
        both = (("page", 5), ("index", (5,)))
        self.assertEqual(merged(LAYOUT, 2, both, both, ()), ((), (), ()))
        self.assertEqual(merged(LAYOUT, 3, FILE, FILE, both[:1]), (both[:1], (), ()))
        # To stand it needs all its BASES, though none of the FILEs has what is missing.
        self.assertEqual(merged(LAYOUT, 3, (), (("sum", (5,)),), ()), ((), (), ()))

    def test_unknown_kinds_are_taken_as_they_are(self):
        layout = (A, ("b", 2, ("a",), "y", ""))
        had = {None: (("a", 1),), 7: (("a", 1), ("b", (7,))), 8: (("a", 1), ("b", (8,))), 9: (("a", 1), ("b", (9,)))}
        for base, one, other, told in (
                (None, 7, None, 7), (None, None, 7, 7), (7, 8, 7, 8), (7, 7, 8, 8), (7, 8, 8, 8), (7, None, 7, None),
                (7, 7, None, None), (None, 7, 7, 7)):
            self.assertEqual(merged(layout, 1, had[base], had[one], had[other]), (had[told], (), ()))

    def test_three_different_things_do_not_stand(self):
        """That is no Clash, and nothing is LOST by it."""
        layout = (A, ("b", 2, ("a",), "y", "xy"))
        had = [(("a", 1),), (("a", 1), ("b", (7,))), (("a", 1), ("b", (8,))), (("a", 1), ("b", (9,)))]
        for base, one, other in itertools.permutations(had, 3):
            self.assertEqual(merged(layout, 1, base, one, other), ((("a", 1),), (), ()))
            self.assertEqual(merged(layout, 2, base, one, other)[1:], ((), ()))

    def test_any_files(self):
        """FILEs that did not come from one another, and such as are not SOUND."""
        base, one, other = (("sum", (1,)),), (("index", (2,)), ("sum", (1,))), (("page", 3), ("sum", (4,)))
        self.assertEqual(merged(LAYOUT[:2] + (("sum", 3, ("index",), "s", ""),), 1, base, one, other),
                         ((("page", 3), ("sum", (4,))), ("index",), ()))
        self.compare(LAYOUT, 1, base, one, other)
        self.compare(LAYOUT, 3, base, one, other)


class Leaving(Case):
    """[16], CAUSEs, what is LOST, and what is LOST IN VAIN."""

    def test_source_as_a_cause(self):
        one = (("page", 5), ("index", (5,)))
        self.assertEqual(merged(LAYOUT, 1, (("page", 5),), one, (("page", 6),)), ((("page", 6),), ("index",), ()))
        self.assertEqual(merged(LAYOUT, 1, (("page", 5),), (("page", 6),), one), ((("page", 6),), ("index",), ()))

    def test_no_cause_if_the_side_has_what_is_merged(self):
        one = (("page", 6), ("index", (6,)))
        self.assertEqual(merged(LAYOUT, 1, (("page", 5),), one, (("page", 5),)), (one, (), ()))
        self.assertEqual(merged(LAYOUT, 1, (("page", 5),), one, (("page", 6),)), (one, (), ()))

    def test_what_both_have_stays(self):
        """A part that the other side has, too, does not leave, nor one that BASE has not and both have."""
        layout = (A, ("b", 2, (), "y", "x"))
        both = (("a", 0), ("b", 1))
        self.assertEqual(merged(layout, 1, both, both, (("a", 5), ("b", 1)))[1:], ((), ()))
        self.assertEqual(merged(layout, 1, (("a", 0),), both, (("a", 5), ("b", 1)))[1:], ((), ()))
        # Here the other side has what BASE has, which is something else.
        self.assertEqual(merged(layout, 1, (("a", 0), ("b", 2)), both, (("a", 5), ("b", 2)))[1:], (("b",), ("b",)))

    def test_a_source_leaves_too(self):
        layout = (A, ("b", 2, (), "y", "x"))
        self.assertEqual(merged(layout, 1, (), (("b", 1),), (("a", 0),)), ((("a", 0),), ("b",), ("b",)))
        self.assertEqual(merged(layout, 2, (), (("b", 1),), (("a", 0),)), ((("a", 0), ("b", 1)), (), ()))

    def test_a_known_cause_needs_the_same_beneath_it(self):
        """index changes only because page does, so the LETTER of page counts alone."""
        for mark, lost in (("i", ()), ("p", ("sum",))):
            layout = LAYOUT[:2] + (("sum", 3, (), "s", mark),)
            base = (("page", 5), ("index", (5,)))
            self.assertEqual(merged(layout, 2, base, base + (("sum", 1),), (("page", 6), ("index", (6,))))[1], lost)
        # What stands itself is a CAUSE.
        layout = LAYOUT[:2] + (("sum", 3, (), "s", "i"),)
        self.assertEqual(merged(layout, 2, base[:1], base[:1] + (("sum", 1),), base), (base, ("sum",), ("sum",)))

    def test_an_unknown_cause_does_not(self):
        layout = LAYOUT[:2] + (("sum", 3, (), "s", "i"),)
        base = (("page", 5), ("index", (5,)))
        told = merged(layout, 1, base, base + (("sum", 1),), (("page", 6), ("index", (6,))))
        self.assertEqual(told, ((("page", 6), ("index", (6,))), ("sum",), ("sum",)))

    def test_the_letter_of_another_kind(self):
        """The own LETTER in the MARK is that of another KIND if one has it, of any EDITION."""
        alone = (A, ("b", 2, (), "y", "y"))
        self.assertEqual(merged(alone, 1, (), (("b", 1),), (("a", 0),)), ((("a", 0), ("b", 1)), (), ()))
        later = (A, ("b", 2, (), "y", "y"), ("c", 3, (), "y", ""))
        self.assertEqual(merged(later, 1, (), (("b", 1),), (("c", 0),)), ((("c", 0),), ("b",), ("b",)))

    def test_all_causes_are_found_before_the_first_part_leaves(self):
        """b leaves because of a, but that does not make it a CAUSE against c."""
        layout = (A, ("b", 2, (), "y", "x"), ("c", 2, (), "z", "y"))
        self.assertEqual(merged(layout, 1, (), (("b", 1), ("c", 1)), (("a", 0),)), ((("a", 0), ("c", 1)), ("b",), ("b",)))
        # What does not stand because all three are different is one.
        told = merged((A, ("b", 2, ("a",), "y", ""), ("c", 2, (), "z", "y")), 1, (("a", 1),),
                      (("a", 1), ("b", (1,)), ("c", 1)), (("a", 1), ("b", (2,))))
        self.assertEqual(told, ((("a", 1),), ("c",), ("c",)))

    def test_both_sides_lose(self):
        layout = (A, B, ("c", 2, (), "z", "y"), ("d", 2, (), "w", "x"), ("e", 2, (), "v", "xy"))
        one, other = (("a", 1), ("c", 1)), (("b", 1), ("d", 1), ("e", 1))
        self.assertEqual(merged(layout, 1, (), one, other), ((("a", 1), ("b", 1)), ("c", "d", "e"), ("c", "d", "e")))

    def test_against_one_side_alone(self):
        """a has changed in ONE, which is a CAUSE against OTHER, not against ONE."""
        layout = (A, ("c", 2, (), "z", "x"), ("d", 2, (), "w", "x"))
        self.assertEqual(merged(layout, 1, (), (("a", 1), ("c", 1)), (("d", 1),)),
                         ((("a", 1), ("c", 1)), ("d",), ("d",)))

    def test_in_vain_only_if_it_was_current_where_it_came_from(self):
        layout = (A, B, ("c", 2, ("a",), "z", "y"))
        base = (("a", 1),)
        for content, vain in ((1, ("c",)), (2, ())):
            one, other = base + (("c", (content,)),), base + (("b", 0),)
            self.assertEqual(merged(layout, 1, base, one, other), (other, ("c",), vain))
            self.assertEqual(merged(layout, 1, base, other, one), (other, ("c",), vain))
        # It would be CURRENT if it were put back, but was not in the FILE that it came from.
        one, other = (("a", 1), ("c", (2,))), (("a", 2), ("b", 0))
        self.assertEqual(merged(layout, 1, (("a", 1),), one, other), (other, ("c",), ()))

    def test_in_vain_only_if_it_would_be_current(self):
        layout = (A, B, ("c", 2, ("a",), "z", "xy"), ("d", 2, ("c",), "w", "y"))
        one = (("a", 1), ("c", (1,)), ("d", (1,)))
        self.assertEqual(merged(layout, 1, (("a", 1),), one, (("a", 2), ("b", 0)))[1:], (("c", "d"), ()))
        self.assertEqual(merged(layout, 1, (("a", 1),), one, (("a", 1), ("b", 0)))[1:], (("c", "d"), ("c",)))

    def test_against_the_words_of_the_document(self):
        chance = random.Random(29)
        lost = vain = clashes = 0
        for layout in some_layouts(250, 8, 77):
            for _ in range(25):
                base, one, other = [some_file(chance, layout, lambda name: len(sources(layout, name))) for _ in range(3)]
                # FILEs that came from one another have much in common.
                if chance.random() < 0.7:
                    one, other = [self.changed(chance, layout, base, side) for side in (one, other)]
                told = self.compare(layout, chance.randint(1, newest(layout)), base, one, other)
                clashes += told is None
                lost += told is not None and told[1] != ()
                vain += told is not None and told[2] != ()
        self.assertGreater(min(lost, vain, clashes), 150)

    def changed(self, chance, layout, base, other):
        """The FILE base with some parts as another FILE has them, or with what is made from them."""
        file = dict(base)
        for name in chance.sample(model.order_of(layout), min(len(layout), chance.randint(0, 3))):
            file.pop(name, None)
            if name in dict(other):
                file[name] = dict(other)[name]
        if chance.random() < 0.6:
            for kind in layout:
                name = kind[0]
                if kind[2] and name in file and all([base in file for base in model.beneath(layout, name)]):
                    file[name] = tuple([file[source] for source in model.sources(layout, name)])
        return model.told(layout, file)


class Facts(Case):
    """[17] and [18]"""

    def test_judgements(self):
        for layout, told in (
                (LAYOUT, (True, True)), (DEEP, (True, True)), (line_of(24), (True, True)), (LAYOUT[:1], (True, True)),
                (LAYOUT[:2] + (("sum", 3, ("index",), "s", "i"),), (False, True)),
                (LAYOUT[:2] + (("sum", 3, ("index",), "s", "ips"),), (True, True)),
                (LAYOUT[:2] + (("sum", 3, (), "s", "p"),), (True, False)), (WIDE, (False, False)), (FULL, (True, False))):
            self.assertEqual((is_merge_safe(layout), is_merge_sparing(layout)), told)
            for call in (is_merge_safe, is_merge_sparing):
                self.assertIs(type(call(layout)), bool)

    def test_only_later_editions_have_to_mind(self):
        first = (("a", 1, (), "x", "xyz"), ("b", 1, ("a",), "y", ""), ("c", 1, ("b",), "z", "q"))
        self.assertEqual((is_merge_safe(first), is_merge_sparing(first)), (True, True))
        later = tuple([kind[:1] + (2,) + kind[2:] for kind in first])
        self.assertEqual((is_merge_safe(later), is_merge_sparing(later)), (False, False))

    def test_kinds_of_the_same_edition_are_minded_too(self):
        """Unlike with [10]: the LAYOUT is SAFE, but not MERGE SAFE."""
        layout = (("a", 2, (), "x", ""), ("b", 2, ("a",), "y", ""))
        self.assertEqual((is_safe(layout), is_merge_safe(layout)), (True, False))

    def test_what_is_minded_beneath(self):
        """Only by a KIND of EDITION 2 or more; each KIND but itself."""
        for edition, mark, told in ((1, "x", True), (2, "x", False), (2, "xy", True), (2, "yz", False), (2, "xyz", True)):
            layout = (("a", 1, (), "x", ""), ("z", 1, (), "y", ""), ("b", edition, (), "b", "yz"),
                      ("c", 3, ("b",), "z", "b" + mark if edition == 1 else "b" + mark))
            self.assertIs(is_merge_safe(layout), model.is_merge_safe(layout))
        layout = (("b", 2, (), "b", "z"), ("c", 3, ("b",), "z", "b"))
        self.assertIs(is_merge_safe(layout), True)

    def test_against_the_words_of_the_document(self):
        layouts = list(some_layouts(300, 9, 5)) + list(altered_layouts(60, 6, 6))
        layouts += [exact_for_merging(layout) for layout in some_layouts(60, 9, 8)]
        for layout in layouts:
            self.assertIs(is_merge_safe(layout), model.is_merge_safe(layout))
            self.assertIs(is_merge_sparing(layout), model.is_merge_sparing(layout))
            if is_merge_safe(layout):
                self.assertIs(is_safe(layout), True)

    def test_against_all_mergings(self):
        counts = {}
        for layout in small_layouts():
            safe = sparing = True
            for one, other, (file, _, vain) in model.mergings(layout):
                sparing = sparing and not vain
                if safe and model.is_sound(layout, one) and model.is_sound(layout, other):
                    safe = model.is_sound(layout, file)
            self.assertEqual((is_merge_safe(layout), is_merge_sparing(layout)), (safe, sparing), layout)
            counts[safe, sparing] = counts.get((safe, sparing), 0) + 1
        self.assertEqual(len(counts), 4)

    def test_fault_and_waste(self):
        chance = random.Random(6)
        faults = wastes = 0
        layouts = small_layouts() + list(some_layouts(300, 9, 15)) + list(altered_layouts(60, 7, 16)) + [WIDE, FULL, DEEP]
        for layout in layouts + [exact_for_merging(layout) for layout in some_layouts(40, 9, 18)]:
            # A LETTER of its own for each KIND, the MARKs as they come.
            for again in (layout, numbered_letters(layout, [
                    set(chance.sample(range(len(layout)), chance.randint(0, len(layout)))) for _ in layout])):
                faults += self.check_fault(again)
                wastes += self.check_waste(again)
        self.assertGreater(min(faults, wastes), 100)

    def check_fault(self, layout):
        told = merge_fault(layout)
        if model.is_merge_safe(layout):
            self.assertIsNone(told)
            return 0
        self.assertEqual((type(told), len(told)), (tuple, 4))
        edition, base, one, other = told
        self.assertTrue(1 <= edition <= newest(layout))
        for file in (one, other):
            self.assertIs(is_sound(layout, file), True)
        left = self.compare(layout, edition, base, one, other)[0]
        self.assertFalse(model.is_sound(layout, dict(left)))
        return 1

    def check_waste(self, layout):
        told = merge_waste(layout)
        if model.is_merge_sparing(layout):
            self.assertIsNone(told)
            return 0
        self.assertEqual((type(told), len(told)), (tuple, 4))
        edition, base, one, other = told
        self.assertTrue(1 <= edition <= newest(layout))
        self.assertNotEqual(self.compare(layout, edition, base, one, other)[2], ())
        return 1

    def test_each_fault_of_large_layouts(self):
        """One LETTER too many or too few at each place of a LAYOUT of 24 KINDs."""
        for at in range(1, 24):
            for letter in LETTERS[:at:3] + LETTERS[at + 1:24:5]:
                mark = "".join(sorted(set(DEEP[at][4]) ^ {letter}))
                layout = with_item(DEEP, at, DEEP[at][:4] + (mark,))
                self.assertEqual(self.check_fault(layout) + self.check_waste(layout) > 0, True)

    def test_they_are_quick(self):
        start = time.process_time()
        for layout in (DEEP, FULL, WIDE, careful(FULL), tuple([kind[:4] + ("",) for kind in FULL])):
            for _ in range(20):
                for call in (is_merge_safe, is_merge_sparing, merge_fault, merge_waste):
                    call(layout)
        for _ in range(100):
            merged(DEEP, 1, (), DEEP_FILE, (("abcdefga", 5),))
        self.assertLess(time.process_time() - start, 2)

    def test_exchanged(self):
        """[18]: neither what is merged nor what is LOST changes, nor the Clash."""
        chance = random.Random(31)
        for layout in some_layouts(150, 8, 37):
            for _ in range(15):
                base, one, other = [some_file(chance, layout, lambda name: len(sources(layout, name))) for _ in range(3)]
                edition = chance.randint(1, newest(layout))
                one, other = chance.choice(((one, other), (base, other), (one, base), (one, one)))
                try:
                    told = merged(layout, edition, base, one, other)
                except Clash as clash:
                    self.refuse(clash.name, layout, edition, base, other, one)
                else:
                    self.assertEqual(merged(layout, edition, base, other, one), told)

    def test_other_same_as_base(self):
        """[18]: the merging leaves ONE itself, if it is SOUND, and nothing is LOST."""
        for layout in small_layouts()[:40]:
            files = [model.told(layout, file) for file in model.all_files(layout)]
            for one in files:
                if is_sound(layout, one):
                    for base in files:
                        for edition in range(1, newest(layout) + 1):
                            self.assertEqual(merged(layout, edition, base, one, base), (one, (), ()))
                            self.assertEqual(merged(layout, edition, base, base, one), (one, (), ()))


class Errors(Case):
    """[1] and the interface: which errors come, and which first."""

    def test_no_layout_is_refused_first(self):
        for layout, place in refusals():
            for call in (
                    lambda: merged(layout, 1, (), (), ()), lambda: merged(layout, None, None, None, None),
                    lambda: is_merge_safe(layout), lambda: is_merge_sparing(layout), lambda: merge_fault(layout),
                    lambda: merge_waste(layout)):
                with self.assertRaises(BadLayout) as caught:
                    call()
                self.assertEqual(caught.exception.place, place)

    def test_files_are_refused_in_their_order(self):
        for thing in things():
            if isinstance(thing, tuple) and thing in ((), (("page", 5),)):
                continue
            place = (0,) if isinstance(thing, tuple) else ()
            wrong = (("page", 5), None)
            for files, where in (
                    ((thing, FILE, FILE), place), ((FILE, thing, FILE), place), ((FILE, FILE, thing), place),
                    ((thing, wrong, wrong), place), ((wrong, thing, thing), (1,)), ((FILE, wrong, thing), (1,)),
                    ((FILE, thing, wrong), place)):
                for edition in (1, 0, None, True):
                    with self.subTest(thing=thing), self.assertRaises(BadFile) as caught:
                        merged(LAYOUT, edition, files[0], files[1], files[2])
                    self.assertEqual(caught.exception.place, where)

    def test_edition_is_refused_ahead_of_a_clash(self):
        clash = ((("page", 5),), (("page", 6),), (("page", 7),))
        for thing in things() + [0, 4, 1.5]:
            for files in (((), (), ()), clash):
                if is_whole(thing, 1, 3):
                    continue
                with self.subTest(thing=thing), self.assertRaises(BadDeed) as caught:
                    merged(LAYOUT, thing, files[0], files[1], files[2])
                self.assertEqual(caught.exception.word, "edition")
        late = (("a", 99, (), "x", ""),)
        for edition in (1, 98, 99):
            self.assertEqual(merged(late, edition, (), (("a", 1),), ()), ((("a", 1),), (), ()))
        for edition in (0, 100):
            with self.assertRaises(BadDeed):
                merged(late, edition, (), (), ())


class Calls(Case):
    """[1], what holds for every call."""

    def test_nothing_passed_is_changed(self):
        base, one, other = [["page", 5]], (["page", 6],), {"page": 7}
        ahead = copy.deepcopy((base, one, other))
        for files in itertools.permutations((base, one, other)):
            with self.assertRaises(BadFile):
                merged(LAYOUT, 1, files[0], files[1], files[2])
        self.assertEqual((base, one, other), ahead)

    def test_equal_calls_return_equal_results(self):
        for _ in range(2):
            self.assertEqual(merged(LAYOUT, 1, FILE[:1], FILE, (("page", 6),)), ((("page", 6),), ("index", "sum"), ()))
            self.assertEqual(merge_fault(WIDE), merge_fault(tuple(list(WIDE))))
            self.assertEqual(merge_waste(WIDE), merge_waste(tuple(list(WIDE))))
            self.refuse("page", LAYOUT, 1, FILE, (("page", 6),), (("page", 7),))

    def test_kinds_of_values(self):
        told = merged(LAYOUT, 1, FILE[:1], FILE, (("page", 6),))
        self.assertEqual([type(member) for member in told], [tuple] * 3)
        self.assertEqual([type(part) for part in told[0]], [tuple])
        self.assertEqual(minds(LAYOUT, "sum"), ("page", "index"))


class Examples(Case):
    def test_merged(self):
        layout = (("page", 1, (), "p", ""), ("index", 2, ("page",), "i", "p"), ("sum", 3, ("index",), "s", "ip"))
        one = (("page", 5), ("index", (5,)))
        self.assertEqual(merged(layout, 1, (("page", 5),), one, (("page", 6),)), ((("page", 6),), ("index",), ()))
        self.assertEqual(merged(layout, 2, (("page", 5),), one, (("page", 6),)),
                         ((("page", 6), ("index", (6,))), (), ()))
        self.refuse("page", layout, 1, (("page", 5),), (("page", 6),), (("page", 7),))


if __name__ == "__main__":
    unittest.main()
