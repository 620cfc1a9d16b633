"""Tests of the program as a whole: what holds for all of its functions, and the examples of the document."""

import copy
import unittest

import test_interface
from carriedparts import errors
from carriedparts.desk import Desk
from carriedparts.errors import BadLayout
from carriedparts.files import is_current, is_sound, need_file, stale
from carriedparts.growing import fits, widened, with_kinds
from carriedparts.judging import cost, gaps, is_exact, is_safe, is_sparing, unsound_row, vain_row, wastes
from carriedparts.layouts import above, beneath, is_older, known, minds, names, need_layout, newest, sources, watches
from carriedparts.learning import agrees, learned, need_log, open_letters, questions
from carriedparts.letters import are_alike, can_share, columns, fewest, parting_row, unlike
from carriedparts.marks import careful, exact, splits
from carriedparts.merging import is_merge_safe, is_merge_sparing, merge_fault, merge_waste, merged
from carriedparts.programs import done, need_row, played
from carriedparts.releases import Releases
from carriedparts.texts import file_text, layout_text, read_file, read_row, row_text
from carriedparts.works import Work
from things import DEEP, DEEP_FILE, FILE, FULL, FULL_FILE, LAYOUT, WIDE
from things import line_of, refusals, things

# Each function of a LAYOUT, with a LAYOUT and any other arguments.
ALONE = (
    need_layout, newest, names, is_safe, is_sparing, is_exact, unsound_row, vain_row, careful, exact, columns, fewest,
    unlike, is_merge_safe, is_merge_sparing, merge_fault, merge_waste, layout_text, with_kinds, Work, Releases,
)
GENERATORS = (gaps, wastes, splits)
WITH_ONE = (
    known, beneath, above, sources, watches, minds, need_file, stale, is_sound, need_row, played, fits, widened,
    with_kinds, need_log, learned, open_letters, questions, agrees, file_text, row_text, read_file, read_row, are_alike,
    parting_row,
)
WITH_TWO = (is_older, is_current, cost, can_share)
# A right LAYOUT for what takes two of them, FILEs, a ROW and other things.
OTHERS = (LAYOUT, FILE, (), None, 5, "page", "", [], {}, ("page",), (None,), True)

ROW = ((3, ("set", "page", 5)), (2, ("make", "index")), (3, ("make", "sum")))
LOG = (("page", (), ("index", "sum")),)

EXAMPLES = '''
>>> from carriedparts.layouts import beneath, watches
>>> layout = (("page", 1, (), "p", ""), ("index", 2, ("page",), "i", "p"), ("sum", 3, ("index",), "s", "ip"))
>>> (beneath(layout, "sum"), watches(layout, "index"))
(('page', 'index'), ('page',))
>>> from carriedparts.programs import done
>>> layout = (("page", 1, (), "p", ""), ("index", 2, ("page",), "i", "p"), ("sum", 3, ("index",), "s", "ip"))
>>> file = (("page", 5), ("index", (5,)), ("sum", (5,)))
>>> done(layout, 1, file, ("set", "page", 6))
((('page', 6),), ('index', 'sum'), ())
>>> from carriedparts.programs import done
>>> layout = (("page", 1, (), "p", ""), ("index", 2, ("page",), "i", "p"), ("sum", 3, ("index",), "s", "ip"))
>>> file = (("page", 5), ("index", (5,)), ("sum", (5,)))
>>> done(layout, 2, file, ("set", "page", 6))
((('page', 6), ('index', (6,))), ('sum',), ())
>>> from carriedparts.programs import done
>>> layout = (("page", 1, (), "p", ""), ("index", 2, ("page",), "i", "p"), ("sum", 3, ("index",), "s", "ip"))
>>> file = (("page", 5), ("index", (5,)), ("sum", (5,)))
>>> done(layout, 2, file, ("drop", "sum"))
raises BadDeed('unknown')
>>> from carriedparts.judging import cost, gaps
>>> bare = (("page", 1, (), "p", ""), ("index", 2, ("page",), "i", ""))
>>> (list(gaps(bare)), cost(bare, "index", "page"))
([('index', 'page')], 3)
>>> from carriedparts.marks import careful
>>> bare = (("page", 1, (), "p", ""), ("index", 2, ("page",), "i", ""))
>>> careful(bare)
(('page', 1, (), 'p', ''), ('index', 2, ('page',), 'i', 'p'))
>>> from carriedparts.letters import can_share, columns
>>> layout = (("page", 1, (), "p", ""), ("index", 2, ("page",), "i", "p"), ("sum", 3, ("index",), "s", "ip"))
>>> (columns(layout), can_share(layout, "page", "index"))
({'page': '11', 'index': '1', 'sum': ''}, True)
>>> from carriedparts.merging import merged
>>> layout = (("page", 1, (), "p", ""), ("index", 2, ("page",), "i", "p"), ("sum", 3, ("index",), "s", "ip"))
>>> one = (("page", 5), ("index", (5,)))
>>> merged(layout, 1, (("page", 5),), one, (("page", 6),))
((('page', 6),), ('index',), ())
>>> from carriedparts.merging import merged
>>> layout = (("page", 1, (), "p", ""), ("index", 2, ("page",), "i", "p"), ("sum", 3, ("index",), "s", "ip"))
>>> one = (("page", 5), ("index", (5,)))
>>> merged(layout, 2, (("page", 5),), one, (("page", 6),))
((('page', 6), ('index', (6,))), (), ())
>>> from carriedparts.merging import merged
>>> layout = (("page", 1, (), "p", ""), ("index", 2, ("page",), "i", "p"), ("sum", 3, ("index",), "s", "ip"))
>>> merged(layout, 1, (("page", 5),), (("page", 6),), (("page", 7),))
raises Clash('page')
>>> from carriedparts.works import Work
>>> layout = (("page", 1, (), "p", ""), ("index", 2, ("page",), "i", "p"), ("sum", 3, ("index",), "s", "ip"))
>>> work = Work(layout)
>>> work.do(3, "set", "page", 5)
()
>>> work.do(3, "make", "index")
()
>>> lost = work.do(1, "set", "page", 6)
>>> [lost, work.file, work.losses, "index" in work]
[('index',), (('page', 6),), [('index', False)], False]
>>> from carriedparts.growing import fits, widened
>>> two = (("a", 1, (), "x", ""), ("b", 1, (), "x", ""))
>>> (fits(two, ("a",)), widened(two, ("a",)))
(False, ('a', 'b'))
>>> from carriedparts.learning import learned, questions
>>> layout = (("page", 1, (), "p", ""), ("index", 2, ("page",), "i", "p"), ("sum", 3, ("index",), "s", "ip"))
>>> log = (("page", (), ("index", "sum")),)
>>> (learned(layout, log), questions(layout, log))
({'page': ('', ''), 'index': ('p', ''), 'sum': ('p', '')}, ('index',))
>>> from carriedparts.texts import layout_text
>>> layout = (("page", 1, (), "p", ""), ("index", 2, ("page",), "i", "p"), ("sum", 3, ("index",), "s", "ip"))
>>> layout_text(layout[:2])
'kind page 1 p -\\nkind index 2 i p page'
>>> from carriedparts.releases import Releases
>>> layout = (("page", 1, (), "p", ""), ("index", 2, ("page",), "i", "p"), ("sum", 3, ("index",), "s", "ip"))
>>> releases = Releases(layout[:1])
>>> releases.release(("index", 2, ("page",), "i", ""))
raises Gap('index', 'page')
>>> from carriedparts.desk import Desk
>>> desk = Desk("kind page 1 p -")
>>> [desk.say("1 set page 5"), desk.say("file"), desk.say("letters"), desk.say("1 drop index")]
['done', 'part page 5', '1', 'no']
'''


def shown(line, held):
    """What a line of the examples shows: the value of an expression, an error, nothing."""
    try:
        value = eval(line, held)
    except SyntaxError:
        exec(line, held)
        return None
    except (errors.PartsError, errors.Clash, errors.Gap, errors.Waste) as error:
        return "raises " + repr(error)
    return None if value is None else repr(value)


class Examples(unittest.TestCase):
    def test_all_examples_of_the_document(self):
        held, rows = {}, EXAMPLES.strip().split("\n")
        count = 0
        for at, row in enumerate(rows):
            if row.startswith(">>> "):
                told = shown(row[4:], held)
                if told is not None:
                    count += 1
                    self.assertEqual(told, rows[at + 1], row)
        self.assertEqual(count, len([row for row in rows if not row.startswith(">>> ")]))


class LayoutsFirst(unittest.TestCase):
    """The interface: all functions with a LAYOUT raise BadLayout first, of anything."""

    def refuse(self, place, call, *arguments):
        with self.assertRaises(BadLayout) as caught:
            call(*arguments)
        self.assertEqual(caught.exception.place, place, (call, arguments))

    def test_each_function_is_asked(self):
        """Whatever takes a LAYOUT in the interface is among those that are asked here."""
        asked = {call.__name__ for call in ALONE + GENERATORS + WITH_ONE + WITH_TWO + (done, merged)}
        listed = {name for module in test_interface.INTERFACE.values() for name, arguments in module.items()
                  if arguments.split()[0] in ("layout", "one") and name != "need_layout"}
        self.assertEqual(asked - {"need_layout"}, listed)

    def test_layout_alone(self):
        for layout, place in refusals():
            for call in ALONE:
                self.refuse(place, call, layout)
            for call in GENERATORS:
                told = call(layout)
                self.refuse(place, list, told)

    def test_with_other_arguments(self):
        for layout, place in refusals():
            for other in OTHERS:
                for call in WITH_ONE:
                    self.refuse(place, call, layout, other)
                for another in (None, "page", "nowhere", []):
                    for call in WITH_TWO:
                        self.refuse(place, call, layout, other, another)
                self.refuse(place, done, layout, other, other, other)
                self.refuse(place, merged, layout, other, other, other, other)

    def test_second_layout(self):
        for layout, place in refusals():
            for call in (are_alike, parting_row):
                self.refuse(place, call, LAYOUT, layout)

    def test_of_anything(self):
        for thing in things():
            for call in ALONE:
                self.refuse((0,) if isinstance(thing, tuple) and thing else (), call, thing)


class Calls(unittest.TestCase):
    """[1]"""

    def calls(self):
        """Calls of all functions that tell something, with right arguments."""
        told = [lambda call=call, layout=layout: call(layout) for call in ALONE[:-2]
                for layout in (LAYOUT, WIDE, DEEP, FULL, line_of(1))]
        told += [lambda call=call, layout=layout: list(call(layout)) for call in GENERATORS
                 for layout in (LAYOUT, WIDE, DEEP, FULL)]
        told += [lambda call=call: call(LAYOUT, "index") for call in (beneath, above, sources, watches, minds)]
        told += [lambda call=call: call(LAYOUT, "index", "page") for call in (is_older, cost, can_share)]
        told += [lambda call=call: call(LAYOUT, FILE) for call in (need_file, stale, is_sound, file_text)]
        told += [lambda call=call: call(LAYOUT, ROW) for call in (need_row, played, row_text)]
        told += [lambda call=call: call(LAYOUT, LOG) for call in (need_log, learned, open_letters, questions, agrees)]
        told += [lambda call=call: call(LAYOUT, ("index",)) for call in (fits, widened)]
        told += [
            lambda: known(LAYOUT, 2), lambda: is_current(LAYOUT, FILE, "sum"), lambda: stale(FULL, FULL_FILE),
            lambda: done(DEEP, 1, DEEP_FILE, ("drop", "abcdefga")), lambda: merged(LAYOUT, 1, (), FILE, ()),
            lambda: with_kinds(LAYOUT, ("more", 3, (), "m", "")), lambda: read_file(LAYOUT, "part page 5"),
            lambda: read_row(LAYOUT, "1 set page 5"), lambda: are_alike(LAYOUT, LAYOUT), lambda: parting_row(LAYOUT, LAYOUT),
        ]
        return told

    def test_equal_calls_return_equal_results(self):
        first = [call() for call in self.calls()]
        kept = copy.deepcopy(first)
        # What was asked in between makes no difference.
        for layout, _ in refusals():
            for call in ALONE:
                with self.assertRaises(BadLayout):
                    call(layout)
        self.assertEqual([call() for call in self.calls()], kept)
        self.assertEqual(first, kept)

    def test_what_is_returned_belongs_to_the_caller(self):
        for call in self.calls():
            told, kept = call(), copy.deepcopy(call())
            if isinstance(told, (dict, list)):
                told.clear()
            self.assertEqual(call(), kept)

    def test_integers_are_never_true_or_false(self):
        for call in self.calls():
            self.assertFalse(self.has_truth(call()))

    def has_truth(self, told):
        """Whether a tuple, list or dict has True or False in it somewhere."""
        if isinstance(told, dict):
            told = list(told.values())
        if isinstance(told, (tuple, list)):
            return any([isinstance(member, bool) or self.has_truth(member) for member in told])
        return False


class Limits(unittest.TestCase):
    """The limits that the document names, through the whole program."""

    def test_smallest_and_largest_layouts(self):
        for layout in (line_of(1), line_of(24), DEEP, FULL, (("abcdefgh", 99, (), "z", ""),)):
            self.assertEqual(Desk(layout_text(layout)).work.layout, layout)
            self.assertEqual(Releases(layout).last, layout)
            work = Work(layout)
            self.assertEqual(work.do(newest(layout), "set", layout[0][0], 999999), ())
            self.assertEqual(work[layout[0][0]], 999999)

    def test_largest_row(self):
        work = Work(LAYOUT)
        row = tuple([(1, ("set", "page", at)) for at in range(400)])
        for edition, deed in row:
            work.do(edition, *deed)
        self.assertEqual(work.file, played(LAYOUT, row))
        self.assertEqual(read_row(LAYOUT, row_text(LAYOUT, row)), row)


if __name__ == "__main__":
    unittest.main()
