"""Tests of carriedparts.desk."""

import random
import unittest

import model
from carriedparts.desk import Desk
from carriedparts.errors import BadLayout, BadText, PartsError
from carriedparts.files import stale
from carriedparts.letters import fewest
from carriedparts.texts import file_text, layout_text, step_of
from carriedparts.works import Work
from things import DEEP, FULL, LAYOUT, WIDE
from things import line_of, some_layouts, things

TEXT = layout_text(LAYOUT)


class Case(unittest.TestCase):
    def talk(self, desk, *pairs):
        for line, answer in pairs:
            self.assertEqual(desk.say(line), answer, line)


class Making(Case):
    """[23]"""

    def test_texts(self):
        for layout in (LAYOUT, WIDE, DEEP, line_of(24), LAYOUT[:1]):
            desk = Desk(layout_text(layout))
            self.assertEqual((desk.work.layout, desk.work.file), (layout, ()))

    def test_text_is_refused_ahead_of_a_layout(self):
        for thing in things():
            with self.subTest(thing=thing), self.assertRaises(BadText) as caught:
                Desk(thing)
            self.assertEqual(caught.exception.place, (0,) if isinstance(thing, str) else ())
        for text, place in ((TEXT + "\n", (3,)), (TEXT + "\nkind page 1 p", (3,)), ("kind a 1 x -\nkind a 1 x -\n-", (2,))):
            with self.assertRaises(BadText) as caught:
                Desk(text)
            self.assertEqual(caught.exception.place, place)
        for text, place in (("kind a 1 x -\nkind a 1 x -", (1,)), ("kind a 1 x - b", (0,)), ("\n".join([TEXT] * 9), ())):
            with self.assertRaises(BadLayout) as caught:
                Desk(text)
            self.assertEqual(caught.exception.place, place)

    def test_work_is_a_property(self):
        self.assertIsInstance(Desk.work, property)
        desk = Desk(TEXT)
        self.assertIs(type(desk.work), Work)
        self.assertIs(desk.work, desk.work)


class Saying(Case):
    def test_steps(self):
        self.talk(
            Desk(TEXT), ("3 set page 5", "done"), ("2 make index", "done"), ("3 make sum", "done"),
            ("file", "part page 5; part index 5; part sum 5"), ("1 set page 5", "done"), ("2 set page 6", "lost sum"),
            ("file", "part page 6; part index 6"), ("3 make sum", "done"), ("1 drop page", "lost index sum"),
            ("file", "empty"), ("1 drop page", "no"), ("file", "empty"))

    def test_steps_that_cannot_be_done(self):
        desk = Desk(TEXT)
        desk.say("1 set page 5")
        for line in ("4 set page 5", "1 make index", "1 drop index", "3 set index 5", "3 make page", "3 make sum",
                     "2 drop index", "3 drop nowhere", "99 drop page"):
            self.talk(desk, (line, "no"), ("file", "part page 5"))
        self.talk(desk, ("undo", "done"), ("3 make sum", "no"), ("redo", "done"), ("file", "part page 5"))

    def test_lines_that_are_none(self):
        desk = Desk(TEXT)
        desk.say("1 set page 5")
        desk.say("1 set page 6")
        desk.say("undo")
        lines = [line + end for line in ("undo", "redo", "file", "stale", "gaps", "wastes", "letters", "1 drop page")
                 for end in (" ", "\n", "s", ".", " 1")]
        lines += ["", " ", "\n", "Undo", "FILE", " undo", " 1 drop page", "1  drop page", "1 drop page\n1 drop page",
                  "01 drop page", "0 drop page", "100 drop page", "1 set page", "1 set page 05", "1 set page 1000000",
                  "1 set page " + "9" * 5000, "9" * 5000 + " drop page", "1 put page 5", "set page 5", "merge", "fork", "help",
                  "undo redo", "file; stale", "part page 5", "kind page 1 p -"]
        for line in lines + things():
            with self.subTest(line=line):
                self.assertEqual(desk.say(line), "no")
                self.assertEqual(desk.work.file, (("page", 5),))
        self.talk(desk, ("redo", "done"), ("file", "part page 6"))

    def test_undo_and_redo(self):
        self.talk(
            Desk(TEXT), ("undo", "nothing"), ("redo", "nothing"), ("1 set page 5", "done"), ("1 set page 5", "done"),
            ("redo", "nothing"), ("undo", "done"), ("file", "part page 5"), ("undo", "done"), ("file", "empty"),
            ("undo", "nothing"), ("redo", "done"), ("1 drop page", "done"), ("redo", "nothing"), ("undo", "done"),
            ("redo", "done"), ("file", "empty"))

    def test_stale(self):
        bare = Desk("kind page 1 p -\nkind index 2 i - page\nkind sum 3 s - index")
        self.talk(
            bare, ("stale", "none"), ("3 set page 5", "done"), ("3 make index", "done"), ("3 make sum", "done"),
            ("stale", "none"), ("2 set page 6", "done"), ("stale", "sum"), ("undo", "done"), ("1 set page 6", "done"),
            ("stale", "index sum"), ("file", "part page 6; part index 5; part sum 5"))

    def test_gaps_and_wastes(self):
        self.talk(Desk(TEXT), ("gaps", "none"), ("wastes", "none"))
        self.talk(Desk("kind page 1 p -\nkind index 2 i - page"), ("gaps", "index-page"), ("wastes", "none"))
        self.talk(Desk("kind page 1 p -\nkind index 2 i - page\nkind sum 3 s - index\nkind more 3 m ip"),
                  ("gaps", "index-page sum-page sum-index"), ("wastes", "more-page more-index"))

    def test_letters(self):
        for layout, told in ((LAYOUT, "1"), (LAYOUT[:1], "1"), (line_of(24), "1"), (DEEP, "1")):
            self.talk(Desk(layout_text(layout)), ("letters", told))
        for layout in list(some_layouts(60, 9, 113)) + [WIDE, FULL]:
            least = len({kind[3] for kind in fewest(layout)})
            self.talk(Desk(layout_text(layout)), ("letters", str(least)))

    def test_the_very_work(self):
        desk = Desk(TEXT)
        work = desk.work
        work.do(3, "set", "page", 5)
        work.do(3, "make", "index")
        self.talk(desk, ("file", "part page 5; part index 5"), ("1 set page 6", "lost index"))
        self.assertEqual((work.file, work.losses), ((("page", 6),), [("index", False)]))
        self.assertIs(work.undo(), True)
        self.talk(desk, ("file", "part page 5; part index 5"), ("undo", "done"), ("undo", "done"), ("undo", "nothing"))
        with work.trial():
            self.talk(desk, ("redo", "done"), ("file", "part page 5"))
        self.talk(desk, ("file", "empty"), ("redo", "done"))

    def test_two_desks_are_apart(self):
        one, other = Desk(TEXT), Desk(TEXT)
        self.talk(one, ("1 set page 5", "done"), ("file", "part page 5"))
        self.talk(other, ("file", "empty"))

    def test_long_talks(self):
        """Beside a list of all FILEs, played by the words of the document."""
        chance = random.Random(127)
        answers = {}
        for layout in list(some_layouts(80, 6, 131)) + [LAYOUT, WIDE]:
            desk, files, now = Desk(layout_text(layout)), [{}], 0
            for _ in range(60):
                if chance.random() < 0.3:
                    line, by = chance.choice((("undo", -1), ("redo", 1)))
                    done = 0 <= now + by < len(files)
                    now += by if done else 0
                    expected = "done" if done else "nothing"
                else:
                    line = self.some_line(chance, layout, files[now])
                    step = step_of(line)
                    if step is None or model.word_of(layout, step[0], files[now], step[1]):
                        expected = "no"
                    else:
                        file, lost, _ = model.done(layout, step[0], files[now], step[1])
                        files, now = files[:now + 1] + [file], now + 1
                        expected = " ".join(("lost",) + lost) if lost else "done"
                answers[expected[:4]] = True
                told = model.told(layout, files[now])
                self.talk(desk, (line, expected), ("file", file_text(layout, told).replace("\n", "; ") or "empty"),
                          ("stale", " ".join(stale(layout, told)) or "none"))
        self.assertEqual(sorted(answers), ["done", "lost", "no", "noth"])

    def some_line(self, chance, layout, file):
        if chance.random() < 0.7:
            edition, deed = chance.choice(list(model.steps_from(layout, file)))
            return " ".join([str(edition)] + [str(word) for word in deed])
        name = chance.choice(model.order_of(layout))
        edition = chance.randint(0, layout[-1][1] + 1)
        return chance.choice((f"{edition} set {name} {chance.randint(0, 2)}", f"{edition} make {name}",
                              f"{edition} drop {name}", f"{layout[-1][1]} make {name}", f"{edition} set {name}"))

    def test_answers_are_strings(self):
        desk = Desk(TEXT)
        for line in ("1 set page 5", "undo", "redo", "file", "stale", "gaps", "wastes", "letters", "what", None):
            self.assertIs(type(desk.say(line)), str)
        self.assertTrue(issubclass(BadText, PartsError))


class Examples(Case):
    def test_desk(self):
        desk = Desk("kind page 1 p -")
        self.assertEqual([desk.say("1 set page 5"), desk.say("file"), desk.say("letters"), desk.say("1 drop index")],
                         ["done", "part page 5", "1", "no"])


if __name__ == "__main__":
    unittest.main()
