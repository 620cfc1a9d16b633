"""Tests of carriedparts.texts."""

import random
import re
import unittest

import model
from carriedparts.errors import BadFile, BadLayout, BadRow, BadText
from carriedparts.files import need_file
from carriedparts.layouts import names, need_layout, sources
from carriedparts.programs import done, need_row
from carriedparts.texts import file_text, layout_text, read_file, read_layout, read_row, row_text
from things import DEEP, DEEP_FILE, FILE, FULL, FULL_FILE, LAYOUT, LETTERS, WIDE
from things import line_of, refusals, some_file, some_layouts, things

LAYOUT_TEXT = "kind page 1 p -\nkind index 2 i p page\nkind sum 3 s ip index"
FILE_TEXT = "part page 5\npart index 5\npart sum 5"
ROW = ((3, ("set", "page", 5)), (2, ("make", "index")), (3, ("make", "sum")), (1, ("drop", "page")))
ROW_TEXT = "3 set page 5\n2 make index\n3 make sum\n1 drop page"
NUMBER = "(?:0|[1-9][0-9]{0,5})"
NAME = "[a-z]{1,8}"
LONG = "9" * 5000


def rows_of(text):
    return text.split("\n") if text else []


def kind_row(row):
    """[23] and [2]: the KIND of a row, None if there is none; by a pattern."""
    match = re.fullmatch(f"kind ({NAME}) ([1-9][0-9]?) ([a-z]) (-|[a-z]+)((?: {NAME}){{0,6}})", row)
    if match is None:
        return None
    name, edition, letter, mark, bases = match.groups()
    mark = "" if mark == "-" else mark
    if mark != "".join(sorted(set(mark))) or len(set(bases.split())) != len(bases.split()):
        return None
    return name, int(edition), tuple(bases.split()), letter, mark


def part_row(layout, row):
    """[23] and [4]"""
    match = re.fullmatch(f"part ({NAME})((?: {NUMBER})+)", row)
    if match is None or match.group(1) not in model.order_of(layout):
        return None
    name, numbers = match.group(1), tuple([int(number) for number in match.group(2).split()])
    if model.kind_of(layout, name)[2]:
        return (name, numbers) if len(numbers) == len(model.sources(layout, name)) else None
    return (name, numbers[0]) if len(numbers) == 1 else None


def step_row(row):
    """[23] and [8]"""
    match = re.fullmatch(f"([1-9][0-9]?) (?:set ({NAME}) ({NUMBER})|(make|drop) ({NAME}))", row)
    if match is None:
        return None
    edition, name, number, word, other = match.groups()
    return int(edition), ("set", name, int(number)) if name else (word, other)


def some_row(chance, layout, most):
    row, file = (), ()
    for _ in range(chance.randint(0, most)):
        step = chance.choice(list(model.steps_from(layout, dict(file), (0, 7, 999999))))
        row += (step,)
        file = done(layout, step[0], file, step[1])[0]
    return row


def put_otherwise(chance, text):
    """The text with one or two signs, words or rows put otherwise."""
    for _ in range(chance.choice((1, 1, 2))):
        rows = text.split("\n")
        at, where = chance.randrange(len(rows)), chance.randint(0, len(text))
        choice = chance.randrange(6)
        if choice == 0:
            text = text[:where] + chance.choice(LETTERS[:4] + "019 -\n+~A_") + text[where + 1:]
        elif choice == 1:
            text = text[:where] + chance.choice(LETTERS[:4] + "019 -\n+~A_") + text[where:]
        elif choice == 2:
            text = text[:where] + text[where + 1:]
        elif choice == 3:
            rows[at] = rows[chance.randrange(len(rows))]
            text = "\n".join(rows)
        elif choice == 4:
            other = chance.randrange(len(rows))
            rows[at], rows[other] = rows[other], rows[at]
            text = "\n".join(rows)
        else:
            words = rows[at].split(" ")
            words[chance.randrange(len(words))] = chance.choice(
                ("", "-", "0", "00", "01", "1", "99", "100", "999999", "1000000", "set", "make", "drop", "kind", "part",
                 "abc", "ca", "aa", "abcdefgh", "abcdefghi", chance.choice(words)))
            rows[at] = " ".join(words)
            text = "\n".join(rows)
    return text


class Case(unittest.TestCase):
    def refuse(self, error, place, call, *arguments):
        with self.assertRaises(error) as caught:
            call(*arguments)
        self.assertEqual(caught.exception.place, place, arguments)
        self.assertIs(type(caught.exception.place), tuple)

    def refuse_row(self, call, arguments, row, ahead):
        """The row alone, and behind a right one; none of its words is at fault for what stands together."""
        self.refuse(BadText, (0,), call, *arguments, row)
        self.refuse(BadText, (1,), call, *arguments, ahead + "\n" + row)
        self.refuse(BadText, (1,), call, *arguments, ahead + "\n" + row + "\n" + ahead)
        self.refuse(BadText, (0,), call, *arguments, row + "\n" + row)


class Written(Case):
    """[23], what is told."""

    def test_layouts(self):
        self.assertEqual(layout_text(LAYOUT), LAYOUT_TEXT)
        self.assertEqual(layout_text(LAYOUT[:1]), "kind page 1 p -")
        self.assertEqual(layout_text((("abcdefgh", 99, (), "z", LETTERS), ("a", 99, ("abcdefgh",), "a", "z"))),
                         f"kind abcdefgh 99 z {LETTERS}\nkind a 99 a z abcdefgh")
        self.assertEqual(layout_text(WIDE).split("\n")[4], "kind e 4 w xyz d a")

    def test_files(self):
        self.assertEqual(file_text(LAYOUT, FILE), FILE_TEXT)
        self.assertEqual(file_text(LAYOUT, ()), "")
        self.assertEqual(file_text(WIDE, (("b", 0), ("d", (999999, 10)), ("f", 1))), "part b 0\npart d 999999 10\npart f 1")

    def test_rows(self):
        self.assertEqual(row_text(LAYOUT, ROW), ROW_TEXT)
        self.assertEqual(row_text(LAYOUT, ()), "")
        self.assertEqual(row_text((("a", 99, (), "x", ""),), ((99, ("set", "a", 999999)), (99, ("drop", "a")))),
                         "99 set a 999999\n99 drop a")

    def test_largest_ones(self):
        line = line_of(24)
        for layout, file in ((DEEP, DEEP_FILE), (FULL, FULL_FILE), (line, tuple([(name, 999999) for name in names(line)]))):
            self.assertEqual(len(layout_text(layout).split("\n")), 24)
            self.assertEqual(read_layout(layout_text(layout)), layout)
            self.assertEqual(read_file(layout, file_text(layout, file)), file)
        row = ((1, ("set", "page", 999999)), (1, ("drop", "page"))) * 200
        self.assertEqual(len(row_text(LAYOUT, row).split("\n")), 400)
        self.assertEqual(read_row(LAYOUT, row_text(LAYOUT, row)), row)

    def test_what_is_told_is_read_back(self):
        chance = random.Random(3)
        for layout in list(some_layouts(150, 9, 83)) + [WIDE, LAYOUT]:
            text = layout_text(layout)
            self.assertEqual(read_layout(text), layout)
            self.assertEqual(tuple([kind_row(row) for row in rows_of(text)]), layout)
            file = some_file(chance, layout, lambda name: len(sources(layout, name)))
            text = file_text(layout, file)
            self.assertEqual(read_file(layout, text), file)
            self.assertEqual(tuple([part_row(layout, row) for row in rows_of(text)]), file)
            row = some_row(chance, layout, 12)
            text = row_text(layout, row)
            self.assertEqual(read_row(layout, text), row)
            self.assertEqual(tuple([step_row(step) for step in rows_of(text)]), row)
            for text in (layout_text(layout), file_text(layout, file), row_text(layout, row)):
                self.assertEqual(text, text.strip())
                self.assertNotIn("  ", text)


class Layouts(Case):
    """[23], texts of LAYOUTs."""

    def test_ordinary_texts(self):
        self.assertEqual(read_layout(LAYOUT_TEXT), LAYOUT)
        self.assertEqual(read_layout("kind a 1 a -"), (("a", 1, (), "a", ""),))
        self.assertEqual(read_layout(f"kind abcdefgh 99 z {LETTERS}"), (("abcdefgh", 99, (), "z", LETTERS),))

    def test_no_string(self):
        for thing in things():
            if not isinstance(thing, str):
                with self.subTest(thing=thing):
                    self.refuse(BadText, (), read_layout, thing)

    def test_empty_rows(self):
        self.refuse(BadText, (0,), read_layout, "")
        self.refuse(BadText, (0,), read_layout, "\n")
        self.refuse(BadText, (0,), read_layout, "\n" + LAYOUT_TEXT)
        self.refuse(BadText, (3,), read_layout, LAYOUT_TEXT + "\n")
        self.refuse(BadText, (1,), read_layout, LAYOUT_TEXT.replace("\n", "\n\n"))

    def test_rows_that_are_none(self):
        for row in (
                "kind", "kind a", "kind a 1", "kind a 1 x", "kind a 1 x ", "kind a 1 x  b", " kind a 1 x -", "kind a 1 x - ",
                "kind  a 1 x -", "kind a 1 x -  b", "Kind a 1 x -", "part a 1 x -", "a 1 x -", "kind a 1 x - b c d e f g h",
                "kind A 1 x -", "kind abcdefghi 1 x -", "kind a1 1 x -", "kind - 1 x -", "kind a- 1 x -",
                "kind a 0 x -", "kind a 00 x -", "kind a 01 x -", "kind a 100 x -", "kind a -1 x -", "kind a +1 x -",
                "kind a one x -", "kind a 1.0 x -", "kind a - x -", "kind a 1 xy -", "kind a 1 X -", "kind a 1 - -",
                "kind a 1 1 -", "kind a 1 x --", "kind a 1 x -a", "kind a 1 x a-", "kind a 1 x ba", "kind a 1 x aa",
                "kind a 1 x A", "kind a 1 x 1", "kind a 1 x abcb", f"kind a 1 x {LETTERS}a", "kind a 1 x - b b",
                "kind a 1 x - b c b", "kind a 1 x - B", "kind a 1 x - -", "kind a 1 x - abcdefghi", "kind a 1 x - 1",
                "kind a 1 x -\tb", f"kind a {LONG} x -", "kind a 1 x", "-", "~"):
            with self.subTest(row=row):
                self.refuse_row(read_layout, (), row, "kind page 1 p -")

    def test_layouts_are_looked_at_after_that(self):
        self.refuse(BadLayout, (1,), read_layout, "kind a 1 x -\nkind a 1 x -")
        self.refuse(BadLayout, (1,), read_layout, "kind a 2 x -\nkind b 1 x -")
        self.refuse(BadLayout, (0,), read_layout, "kind a 1 x - b\nkind b 1 x -")
        self.refuse(BadLayout, (0,), read_layout, "kind a 1 x - a")
        self.refuse(BadLayout, (0,), read_layout, "kind a 1 x - b c d e f g")
        self.refuse(BadText, (2,), read_layout, "kind a 1 x -\nkind a 1 x -\nkind")
        line = layout_text(line_of(24))
        self.assertEqual(read_layout(line), line_of(24))
        self.refuse(BadLayout, (), read_layout, line + "\nkind more 1 x -")
        self.refuse(BadLayout, (), read_layout, "\n".join(["kind a 1 x -"] * 100))
        self.refuse(BadText, (99,), read_layout, "\n".join(["kind a 1 x -"] * 99 + ["kind"]))

    def test_signs_put_otherwise(self):
        chance = random.Random(5)
        refused = {}
        for layout in some_layouts(2500, 5, 89):
            text = put_otherwise(chance, layout_text(layout))
            kinds = [kind_row(row) for row in text.split("\n")]
            if None in kinds:
                self.refuse(BadText, (kinds.index(None),), read_layout, text)
                continue
            try:
                need_layout(tuple(kinds))
            except BadLayout as error:
                refused[error.place] = True
                self.refuse(BadLayout, error.place, read_layout, text)
            else:
                self.assertEqual(read_layout(text), tuple(kinds))
        self.assertGreater(len(refused), 3)


class Files(Case):
    """[23], texts of FILEs."""

    def test_ordinary_texts(self):
        self.assertEqual(read_file(LAYOUT, FILE_TEXT), FILE)
        self.assertEqual(read_file(LAYOUT, ""), ())
        self.assertEqual(read_file(WIDE, "part b 0\npart d 999999 10\npart f 1"), (("b", 0), ("d", (999999, 10)), ("f", 1)))

    def test_no_string(self):
        for thing in things():
            if not isinstance(thing, str):
                with self.subTest(thing=thing):
                    self.refuse(BadText, (), read_file, LAYOUT, thing)

    def test_empty_rows(self):
        self.refuse(BadText, (0,), read_file, LAYOUT, "\n")
        self.refuse(BadText, (0,), read_file, LAYOUT, "\n" + FILE_TEXT)
        self.refuse(BadText, (3,), read_file, LAYOUT, FILE_TEXT + "\n")

    def test_rows_that_are_none(self):
        for row in (
                "part", "part a", "part a ", "part  a 1", " part a 1", "part a 1 ", "part a  1", "Part a 1", "kind a 1", "a 1",
                "part nowhere 1", "part A 1", "part 1 1", "part a 01", "part a 00", "part a -1", "part a -0", "part a +1",
                "part a 1000000", "part a 1 2", "part a one", "part a 1.0", "part a -", f"part a {LONG}", f"part a 0{LONG}",
                "part c", "part c 1 2", "part d 1", "part d 1 2 3", "part d 1  2", "part d 1 x", "part d 1 1000000",
                "part d 01 2", "part d 1 02", f"part d 1 {LONG}", "part e 1", "part abcdefgh 1", "-", "~"):
            with self.subTest(row=row):
                self.refuse_row(read_file, (WIDE,), row, "part a 5")

    def test_numbers(self):
        for number in ("0", "1", "10", "999999", "100000"):
            self.assertEqual(read_file(WIDE, f"part a {number}\npart d 0 {number}"),
                             (("a", int(number)), ("d", (0, int(number)))))

    def test_files_are_looked_at_after_that(self):
        self.refuse(BadFile, (1,), read_file, WIDE, "part a 1\npart a 1")
        self.refuse(BadFile, (1,), read_file, WIDE, "part b 1\npart a 1")
        self.refuse(BadText, (2,), read_file, WIDE, "part b 1\npart a 1\npart")
        self.refuse(BadFile, (), read_file, WIDE, "\n".join(["part a 1"] * 25))
        self.refuse(BadFile, (1,), read_file, WIDE, "\n".join(["part a 1"] * 24))
        self.refuse(BadText, (25,), read_file, WIDE, "\n".join(["part a 1"] * 25 + ["part a"]))

    def test_no_layout_is_refused_first(self):
        for layout, place in refusals():
            for text in (None, "", 5, "part", "part page 5", [], FILE_TEXT):
                self.refuse(BadLayout, place, read_file, layout, text)

    def test_signs_put_otherwise(self):
        chance = random.Random(7)
        refused = {}
        for layout in some_layouts(2500, 5, 97):
            file = some_file(chance, layout, lambda name: len(sources(layout, name)))
            text = put_otherwise(chance, file_text(layout, file))
            parts = [part_row(layout, row) for row in rows_of(text)]
            if None in parts:
                self.refuse(BadText, (parts.index(None),), read_file, layout, text)
                continue
            try:
                need_file(layout, tuple(parts))
            except BadFile as error:
                refused[error.place] = True
                self.refuse(BadFile, error.place, read_file, layout, text)
            else:
                self.assertEqual(read_file(layout, text), tuple(parts))
        self.assertGreater(len(refused), 2)


class Rows(Case):
    """[23], texts of ROWs."""

    def test_ordinary_texts(self):
        self.assertEqual(read_row(LAYOUT, ROW_TEXT), ROW)
        self.assertEqual(read_row(LAYOUT, ""), ())
        self.assertEqual(read_row((("a", 99, (), "x", ""),), "99 set a 0"), ((99, ("set", "a", 0)),))

    def test_no_string(self):
        for thing in things():
            if not isinstance(thing, str):
                with self.subTest(thing=thing):
                    self.refuse(BadText, (), read_row, LAYOUT, thing)

    def test_empty_rows(self):
        self.refuse(BadText, (0,), read_row, LAYOUT, "\n")
        self.refuse(BadText, (0,), read_row, LAYOUT, "\n" + ROW_TEXT)
        self.refuse(BadText, (4,), read_row, LAYOUT, ROW_TEXT + "\n")

    def test_rows_that_are_none(self):
        for row in (
                "1", "1 set", "1 set page", "1 set page ", "1 set  5", "1  set page 5", " 1 set page 5", "1 set page 5 ",
                "1 set page 5 5", "set page 5", "1 make page 5", "1 drop page 5", "1 make", "1 drop", "1 make ", "1 drop page ",
                "0 set page 5", "00 set page 5", "01 set page 5", "100 set page 5", "-1 set page 5", "+1 set page 5",
                "1 Set page 5", "1 put page 5", "1 set Page 5", "1 set abcdefghi 5", "1 set page1 5", "1 set - 5",
                "1 set page 05", "1 set page 00", "1 set page -0", "1 set page +5", "1 set page 1000000", "1 set page five",
                "1 set page -", "1 make Page", "1 drop abcdefghi", f"{LONG} drop page", f"1 set page {LONG}", "undo", "-"):
            with self.subTest(row=row):
                self.refuse_row(read_row, (LAYOUT,), row, "1 set page 5")

    def test_a_row_by_itself_names_any_edition_and_name(self):
        """Whether its STEP can be done is looked at after that."""
        for row, word in (("4 set page 5", "edition"), ("99 set page 5", "edition"), ("1 set abcdefgh 5", "unknown"),
                          ("1 drop index", "unknown"), ("3 set sum 999999", "made"), ("1 make page", "source"),
                          ("3 make sum", "lacks"), ("2 drop index", "lacks")):
            self.refuse(BadRow, (0, word), read_row, LAYOUT, row)
            self.refuse(BadRow, (1, word), read_row, LAYOUT, "1 set page 5\n" + row)
            self.refuse(BadText, (1,), read_row, LAYOUT, row + "\n1 set page")

    def test_number_of_steps(self):
        for many in (1, 399, 400):
            self.assertEqual(len(read_row(LAYOUT, "\n".join(["1 set page 5"] * many))), many)
        self.refuse(BadRow, (), read_row, LAYOUT, "\n".join(["1 set page 5"] * 401))
        self.refuse(BadText, (400,), read_row, LAYOUT, "\n".join(["1 set page 5"] * 400 + ["1"]))

    def test_no_layout_is_refused_first(self):
        for layout, place in refusals():
            for text in (None, "", 5, "1 set", "1 set page 5", []):
                self.refuse(BadLayout, place, read_row, layout, text)

    def test_signs_put_otherwise(self):
        chance = random.Random(9)
        refused = {}
        for layout in some_layouts(1500, 5, 101):
            text = put_otherwise(chance, row_text(layout, some_row(chance, layout, 6)))
            steps = [step_row(row) for row in rows_of(text)]
            if None in steps:
                self.refuse(BadText, (steps.index(None),), read_row, layout, text)
                continue
            try:
                need_row(layout, tuple(steps))
            except BadRow as error:
                refused[error.place[1:]] = True
                self.refuse(BadRow, error.place, read_row, layout, text)
            else:
                self.assertEqual(read_row(layout, text), tuple(steps))
        self.assertGreater(len(refused), 4)


class Errors(Case):
    """[1] and the interface: which errors come, and which first."""

    def test_layout_text(self):
        for layout, place in refusals():
            self.refuse(BadLayout, place, layout_text, layout)
            for thing in (None, (), "", (None,), 5):
                self.refuse(BadLayout, place, file_text, layout, thing)
                self.refuse(BadLayout, place, row_text, layout, thing)

    def test_file_and_row(self):
        for thing in things():
            if not isinstance(thing, tuple):
                self.refuse(BadFile, (), file_text, LAYOUT, thing)
                self.refuse(BadRow, (), row_text, LAYOUT, thing)
        self.refuse(BadFile, (1,), file_text, LAYOUT, (("page", 5), ("index", 5)))
        self.refuse(BadRow, (0, "lacks"), row_text, LAYOUT, ((1, ("drop", "page")),))

    def test_equal_calls_return_equal_results(self):
        for _ in range(2):
            self.assertEqual(read_layout(layout_text(WIDE)), WIDE)
            self.assertEqual(read_file(LAYOUT, FILE_TEXT), FILE)
            self.refuse(BadText, (0,), read_layout, "")


class Examples(Case):
    def test_layout_text(self):
        layout = (("page", 1, (), "p", ""), ("index", 2, ("page",), "i", "p"), ("sum", 3, ("index",), "s", "ip"))
        self.assertEqual(layout_text(layout[:2]), "kind page 1 p -\nkind index 2 i p page")


if __name__ == "__main__":
    unittest.main()
