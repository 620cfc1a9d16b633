"""Tests of carriedparts.releases."""

import random
import unittest

import model
from carriedparts.errors import BadLayout, BadQuestion, Gap, Missing, Waste
from carriedparts.judging import gaps, is_safe, wastes
from carriedparts.layouts import need_layout
from carriedparts.releases import Releases
from things import DEEP, INDEX, LAYOUT, LETTERS, PAGE, SUM, WIDE
from things import is_whole, line_of, refusals, some_layouts, things

BARE = ("index", 2, ("page",), "i", "")
WASTEFUL = ("more", 2, (), "m", "p")


def state_of(releases):
    return [releases[number] for number in range(len(releases))], releases.last


class Case(unittest.TestCase):
    def refuse(self, error, releases, kinds, *attributes, sparing=False):
        ahead = state_of(releases)
        with self.assertRaises(error) as caught:
            releases.release(*kinds, sparing=sparing)
        if error is BadLayout:
            self.assertEqual(caught.exception.place, attributes[0], kinds)
        elif attributes:
            self.assertEqual((caught.exception.kind, caught.exception.other), attributes)
        self.assertEqual(state_of(releases), ahead)


class Releasing(Case):
    """[2], [6] and [10]"""

    def test_version_0(self):
        for layout in (LAYOUT, WIDE, DEEP, LAYOUT[:1], (PAGE, BARE)):
            releases = Releases(layout)
            self.assertEqual((len(releases), releases[0], releases.last, releases.undo()), (1, layout, layout, False))

    def test_versions(self):
        releases = Releases(LAYOUT[:1])
        self.assertEqual([releases.release(INDEX), releases.release(SUM)], [1, 2])
        self.assertEqual((len(releases), releases.last), (3, LAYOUT))
        self.assertEqual([releases[number] for number in range(3)], [LAYOUT[:1], LAYOUT[:2], LAYOUT])

    def test_several_kinds(self):
        releases = Releases(LAYOUT[:1])
        other = ("other", 2, ("index", "page"), "o", "p")
        self.assertEqual(releases.release(INDEX, other), 1)
        self.assertEqual(releases.last, (PAGE, INDEX, other))

    def test_sparing(self):
        for sparing in (False, True):
            releases = Releases(LAYOUT[:1])
            self.assertEqual(releases.release(INDEX, sparing=sparing), 1)
        releases = Releases(LAYOUT[:1])
        self.refuse(Waste, releases, (WASTEFUL,), "more", "page", sparing=True)
        self.assertEqual(releases.release(WASTEFUL), 1)
        # What is wasteful already is refused for the next version.
        self.refuse(Waste, releases, (("n", 3, (), "n", ""),), "more", "page", sparing=True)
        self.assertEqual(releases.release(("n", 3, (), "n", ""), sparing=False), 2)

    def test_sparing_is_passed_by_name(self):
        releases = Releases(LAYOUT[:1])
        self.refuse(BadLayout, releases, (INDEX, True), (2,))
        with self.assertRaises(TypeError):
            releases.release(INDEX, waste=True)

    def test_first_gap(self):
        releases = Releases(LAYOUT[:1])
        self.refuse(Gap, releases, (BARE,), "index", "page")
        self.refuse(Gap, releases, (INDEX, ("b", 2, ("index",), "b", ""), ("c", 2, ("page",), "c", "")), "b", "page")
        releases.release(INDEX)
        self.refuse(Gap, releases, (("sum", 3, ("index",), "s", "q"),), "sum", "page")
        self.refuse(Gap, releases, (("sum", 3, ("index",), "s", "p"),), "sum", "index")
        # A LAYOUT that is not SAFE at first can have no further version.
        self.refuse(Gap, Releases((PAGE, BARE)), (("more", 3, (), "m", ""),), "index", "page")

    def test_gap_ahead_of_waste(self):
        for sparing in (False, True):
            self.refuse(Gap, Releases(LAYOUT[:1]), (WASTEFUL, BARE), "index", "page", sparing=sparing)

    def test_questions(self):
        for number in range(3):
            releases = Releases(LAYOUT[:number + 1])
            self.refuse(BadQuestion, releases, ())
            self.refuse(BadQuestion, releases, (), sparing=True)
            for edition in (number + 1, number + 3, 99):
                self.refuse(BadQuestion, releases, (("more", edition, (), "m", ""),))
            self.refuse(BadQuestion, releases, (("more", number + 2, (), "m", ""), ("n", number + 3, (), "n", "")))
            self.assertEqual(releases.release(("more", number + 2, (), "m", "")), 1)

    def test_question_ahead_of_gap_and_waste(self):
        self.refuse(BadQuestion, Releases((PAGE, BARE)), ())
        self.refuse(BadQuestion, Releases(LAYOUT[:1]), (("index", 3, ("page",), "i", ""),))
        self.refuse(BadQuestion, Releases(LAYOUT[:1]), (("more", 3, (), "m", "p"),), sparing=True)

    def test_layout_ahead_of_all(self):
        releases = Releases(LAYOUT[:2])
        for thing in things():
            self.refuse(BadLayout, releases, (thing,), (2,))
            self.refuse(BadLayout, releases, (SUM, thing), (3,))
            self.refuse(BadLayout, releases, (thing, None), (2,))
        self.refuse(BadLayout, releases, (PAGE,), (2,))
        self.refuse(BadLayout, releases, (("more", 1, (), "m", ""),), (2,))
        self.refuse(BadLayout, releases, (("more", 4, (), "m", ""), SUM), (3,))

    def test_limits(self):
        late = Releases((("a", 98, (), "a", ""),))
        self.assertEqual(late.release(("b", 99, (), "b", "")), 1)
        self.refuse(BadLayout, late, (("c", 100, (), "c", ""),), (2,))
        self.refuse(BadQuestion, late, (("c", 99, (), "c", ""),))
        full = Releases(line_of(23))
        self.assertEqual(full.release(("more", 2, (), "m", "")), 1)
        self.refuse(BadLayout, full, (("n", 3, (), "n", ""),), ())
        self.refuse(BadLayout, Releases(line_of(23)), (None, None), ())
        self.refuse(BadQuestion, full, ())

    def test_no_layout(self):
        for layout, place in refusals():
            with self.assertRaises(BadLayout) as caught:
                Releases(layout)
            self.assertEqual(caught.exception.place, place)


class Asking(Case):
    def releases(self):
        releases = Releases(LAYOUT[:1])
        releases.release(INDEX)
        releases.release(SUM)
        return releases

    def test_numbers(self):
        releases = self.releases()
        for thing in things() + [3, -3, 1.5]:
            if is_whole(thing, 0, 2):
                self.assertEqual(releases[thing], LAYOUT[:thing + 1])
                continue
            with self.subTest(thing=thing), self.assertRaises(Missing) as caught:
                releases[thing]
            self.assertIs(caught.exception.name, thing)

    def test_carried(self):
        releases = self.releases()
        self.assertEqual([[releases.carried(number, other) for other in range(3)] for number in range(3)], [
            [(), ("index",), ("index", "sum")], [(), (), ("sum",)], [(), (), ()]])

    def test_carried_by_the_newest_edition(self):
        releases = Releases((("a", 3, (), "a", ""), ("b", 5, (), "b", "")))
        releases.release(("c", 6, (), "c", ""), ("d", 6, ("c",), "d", ""))
        self.assertEqual((releases.carried(0, 1), releases.carried(1, 0), releases.carried(0, 0)), (("c", "d"), (), ()))

    def test_carried_of_what_is_no_number(self):
        releases = self.releases()
        for thing in things() + [3, -1, True]:
            if is_whole(thing, 0, 2):
                continue
            for number, other, told in ((thing, 0, thing), (0, thing, thing), (thing, [], thing), (thing, None, thing)):
                with self.subTest(thing=thing), self.assertRaises(Missing) as caught:
                    releases.carried(number, other)
                self.assertIs(caught.exception.name, told)

    def test_undo(self):
        releases = self.releases()
        self.assertEqual([releases.undo(), releases.last, len(releases)], [True, LAYOUT[:2], 2])
        with self.assertRaises(Missing):
            releases[2]
        self.assertEqual([releases.undo(), releases.undo(), releases.undo(), len(releases)], [True, False, False, 1])
        self.assertEqual((releases.release(INDEX), releases.last), (1, LAYOUT[:2]))

    def test_last(self):
        self.assertIsInstance(Releases.last, property)
        with self.assertRaises(AttributeError):
            self.releases().last = LAYOUT


class Long(Case):
    """Long rows of releases and undos, beside a list of LAYOUTs."""

    def test_against_a_list(self):
        chance = random.Random(107)
        told = {}
        for layout in some_layouts(150, 4, 109):
            releases, versions = Releases(layout), [layout]
            for _ in range(25):
                if chance.random() < 0.25:
                    self.assertIs(releases.undo(), len(versions) > 1)
                    versions = versions[:max(1, len(versions) - 1)]
                else:
                    result = self.turn(chance, releases, versions)
                    told[result] = told.get(result, 0) + 1
                self.assertEqual(state_of(releases), (versions, versions[-1]))
                one, other = chance.randrange(len(versions)), chance.randrange(len(versions))
                self.assertEqual(releases.carried(one, other), tuple([
                    kind[0] for kind in versions[other] if kind[1] > versions[one][-1][1]]))
        self.assertGreater(min(told.values()), 20)
        self.assertEqual(len(told), 5)

    def turn(self, chance, releases, versions):
        """One further release; tells the error, or None."""
        ahead = versions[-1]
        kinds = []
        for at in range(chance.choice((0, 1, 1, 1, 2, 2))):
            order = [kind[0] for kind in ahead] + [kind[0] for kind in kinds]
            bases = tuple(chance.sample(order, min(len(order), chance.choice((0, 1, 2)))))
            edition = ahead[-1][1] + chance.choice((1, 1, 1, 1, 1, 1, 2, 0))
            below = model.with_all_beneath(ahead + tuple(kinds), bases)
            letters = {kind[3] for kind in ahead + tuple(kinds) if kind[0] in below and kind[1] < edition}
            if chance.random() < 0.3:
                letters ^= {chance.choice("abcd")}
            name = "n" + LETTERS[chance.randrange(26)] + LETTERS[(len(ahead) + at) % 26]
            kinds.append((name, edition, bases, LETTERS[(4 + len(ahead) + at) % 26], "".join(sorted(letters))))
        layout, sparing = ahead + tuple(kinds), chance.random() < 0.5
        error = self.expected(ahead, layout, sparing)
        if error is None:
            self.assertEqual(releases.release(*kinds, sparing=sparing), len(versions))
            versions.append(layout)
            return None
        self.refuse(error[0], releases, kinds, *error[1:], sparing=sparing)
        return error[0]

    def expected(self, ahead, layout, sparing):
        try:
            need_layout(layout)
        except BadLayout as error:
            return BadLayout, error.place
        if {kind[1] for kind in layout[len(ahead):]} != {ahead[-1][1] + 1}:
            return (BadQuestion,)
        if model.gaps(layout):
            return (Gap,) + model.gaps(layout)[0]
        if sparing and model.wastes(layout):
            return (Waste,) + model.wastes(layout)[0]
        return None


class Calls(Case):
    """[1]"""

    def test_nothing_passed_is_changed_or_kept(self):
        kinds = [INDEX]
        releases = Releases(LAYOUT[:1])
        releases.release(*kinds)
        kinds.append(SUM)
        self.assertEqual(releases.last, LAYOUT[:2])
        self.assertEqual((list(gaps(releases.last)), list(wastes(releases.last)), is_safe(releases.last)), ([], [], True))

    def test_two_are_apart(self):
        one, other = Releases(LAYOUT[:1]), Releases(LAYOUT[:1])
        one.release(INDEX)
        self.assertEqual((len(one), len(other)), (2, 1))


class Examples(Case):
    def test_releases(self):
        layout = (("page", 1, (), "p", ""), ("index", 2, ("page",), "i", "p"), ("sum", 3, ("index",), "s", "ip"))
        self.refuse(Gap, Releases(layout[:1]), (("index", 2, ("page",), "i", ""),), "index", "page")


if __name__ == "__main__":
    unittest.main()
