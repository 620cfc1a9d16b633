"""Tests of carriedparts.works."""

import random
import unittest

import model
from carriedparts.errors import BadDeed, BadLayout, BadQuestion, Clash, Missing
from carriedparts.files import stale
from carriedparts.merging import merged
from carriedparts.works import Work, tried
from things import DEEP, LAYOUT, PAGE, WIDE
from things import Contrary, is_text, is_whole, refusals, some_layouts, things


class Stop(Exception):
    """What a test raises in a block."""


def state_of(work):
    return work.layout, work.file, work.losses


def whole_work():
    work = Work(LAYOUT)
    work.do(3, "set", "page", 5)
    work.do(3, "make", "index")
    work.do(3, "make", "sum")
    return work


class Plain:
    """A Work that keeps the whole list of its states: pairs of a FILE, as a dict, and of all losses up to it."""

    def __init__(self, layout, file=None, parent=None):
        self.layout = layout
        self.states = [(file or {}, [])]
        self.now = 0
        self.base = file or {}
        self.parent = parent

    @property
    def file(self):
        return self.states[self.now][0]

    @property
    def losses(self):
        return self.states[self.now][1]

    def take(self, result):
        file, lost, vain = result
        losses = self.losses + [(name, name in vain) for name in lost]
        self.states = self.states[:self.now + 1] + [(file, losses)]
        self.now += 1
        return lost

    def do(self, edition, *deed):
        word = model.word_of(self.layout, edition, self.file, deed)
        return word or self.take(model.done(self.layout, edition, self.file, deed))

    def merge(self, edition, other):
        if other.parent is not self:
            return BadQuestion
        result = model.merged(self.layout, edition, other.base, self.file, other.file)
        return Clash if isinstance(result, str) else self.take(result)

    def move(self, by):
        if not 0 <= self.now + by < len(self.states):
            return False
        self.now += by
        return True

    def fork(self):
        return Plain(self.layout, self.file, self)

    def kept(self):
        return list(self.states), self.now

    def restore(self, kept):
        self.states, self.now = list(kept[0]), kept[1]


class Case(unittest.TestCase):
    def refuse(self, word, work, edition, *deed):
        ahead = state_of(work)
        with self.assertRaises(BadDeed) as caught:
            work.do(edition, *deed)
        self.assertEqual(caught.exception.word, word, (edition, deed))
        self.assertEqual(state_of(work), ahead)


class Doing(Case):
    """[6], [7] and do"""

    def test_empty_at_first(self):
        for layout in (LAYOUT, WIDE, DEEP, LAYOUT[:1]):
            work = Work(layout)
            self.assertEqual(state_of(work), (layout, (), []))
            self.assertEqual((len(work), work.stale(), work.undo(), work.redo()), (0, (), False, False))

    def test_do(self):
        work = Work(LAYOUT)
        self.assertEqual(work.do(3, "set", "page", 5), ())
        self.assertEqual(work.do(2, "make", "index"), ())
        self.assertEqual(work.file, (("page", 5), ("index", (5,))))
        self.assertEqual(work.do(1, "set", "page", 6), ("index",))
        self.assertEqual((work.file, work.losses), ((("page", 6),), [("index", False)]))
        self.assertEqual(work.do(1, "drop", "page"), ())
        self.assertEqual(work.file, ())

    def test_several_are_lost(self):
        work = whole_work()
        self.assertEqual(work.do(1, "drop", "page"), ("index", "sum"))
        self.assertEqual(work.losses, [("index", False), ("sum", False)])

    def test_in_vain(self):
        layout = (PAGE, ("b", 1, (), "b", ""), ("c", 2, ("page",), "c", "bp"))
        work = Work(layout)
        for deed in (("set", "page", 5), ("make", "c")):
            work.do(2, *deed)
        self.assertEqual(work.do(1, "set", "b", 0), ("c",))
        work.do(2, "make", "c")
        self.assertEqual(work.do(1, "set", "page", 6), ("c",))
        self.assertEqual(work.losses, [("c", True), ("c", False)])
        self.assertEqual([type(vain) for _, vain in work.losses], [bool, bool])

    def test_refused_deeds(self):
        work = whole_work()
        for edition in (0, 4, True, None, "1", [], 10 ** 29):
            self.refuse("edition", work, edition, "drop", "page")
            self.refuse("edition", work, edition)
        for deed in ((), ("set",), ("set", "page"), ("set", "page", 5, 5), ("set", "page", True), ("set", "page", -1),
                     ("set", "page", 1000000), ("make", "index", 5), ("put", "page"), (("set", "page", 5),), (None,)):
            self.refuse("form", work, 3, *deed)
        for thing in things():
            self.refuse("form", work, 3, thing)
            self.refuse("form", work, 3, thing, "page")
            self.refuse("form", work, 3, "set", "page", thing, thing)
            if not is_whole(thing, 0, 999999):
                self.refuse("form", work, 3, "set", "page", thing)
            if not is_text(thing, "page|index"):
                self.refuse("unknown" if isinstance(thing, str) else "form", work, 3, "drop", thing)
        self.refuse("unknown", work, 1, "drop", "index")
        self.refuse("made", work, 3, "set", "index", 5)
        self.refuse("source", work, 3, "make", "page")
        self.refuse("stands", work, 3, "make", "sum")
        self.refuse("lacks", Work(LAYOUT), 3, "make", "sum")
        self.refuse("lacks", Work(LAYOUT), 3, "drop", "page")

    def test_no_layout(self):
        for layout, place in refusals():
            with self.assertRaises(BadLayout) as caught:
                Work(layout)
            self.assertEqual(caught.exception.place, place)


class Asking(Case):
    def test_properties(self):
        work = whole_work()
        for name in ("file", "layout", "losses"):
            self.assertIsInstance(getattr(Work, name), property)
            with self.assertRaises(AttributeError):
                setattr(work, name, None)

    def test_losses_belong_to_the_caller(self):
        work = whole_work()
        work.do(1, "drop", "page")
        work.losses.clear()
        work.losses.append(("page", True))
        self.assertEqual(work.losses, [("index", False), ("sum", False)])
        self.assertIsNot(work.losses, work.losses)

    def test_stale(self):
        layout = LAYOUT[:1] + (("index", 2, ("page",), "i", ""), ("sum", 3, ("index",), "s", ""))
        work = Work(layout)
        for deed in (("set", "page", 5), ("make", "index"), ("make", "sum")):
            work.do(3, *deed)
        self.assertEqual(work.stale(), ())
        work.do(1, "set", "page", 6)
        self.assertEqual(work.stale(), ("index", "sum"))
        work.undo()
        self.assertEqual(work.stale(), ())

    def test_in(self):
        work = Work(LAYOUT)
        work.do(1, "set", "page", 5)
        for thing in things():
            with self.subTest(thing=thing):
                self.assertIs(thing in work, is_text(thing, "page"))
                self.assertIs(thing in Work(LAYOUT), False)

    def test_items(self):
        work = whole_work()
        self.assertEqual([work[name] for name in ("page", "index", "sum")], [5, (5,), (5,)])
        for thing in things() + ["sum "]:
            if is_text(thing, "page|index"):
                continue
            with self.subTest(thing=thing), self.assertRaises(Missing) as caught:
                work[thing]
            self.assertIs(caught.exception.name, thing)
        for name in ("page", "index", "sum"):
            with self.assertRaises(Missing) as caught:
                Work(LAYOUT)[name]
            self.assertEqual(caught.exception.name, name)

    def test_length(self):
        work = Work(LAYOUT)
        lengths = []
        for deed in (("set", "page", 5), ("set", "page", 5), ("make", "index"), ("make", "sum"), ("drop", "index")):
            work.do(3, *deed)
            lengths.append(len(work))
        self.assertEqual(lengths, [1, 1, 2, 3, 1])

    def test_equal(self):
        work = whole_work()
        self.assertTrue(work == whole_work() and not work != whole_work())
        self.assertTrue(work == work.fork())
        self.assertTrue(Work(LAYOUT) == Work(tuple(list(LAYOUT))))
        self.assertFalse(work == Work(LAYOUT))
        self.assertFalse(Work(LAYOUT) == Work(LAYOUT[:2]))
        # What was lost and what can be taken back do not matter.
        other = Work(LAYOUT)
        other.do(3, "set", "page", 7)
        other.do(3, "drop", "page")
        self.assertTrue(other == Work(LAYOUT))
        for thing in things() + [work.file, work.layout]:
            self.assertIs(work == thing, False)
            self.assertIs(work != thing, True)
        self.assertIs(work == Contrary(), False)


class Back(Case):
    """undo and redo"""

    def test_one_after_the_other(self):
        work = whole_work()
        work.do(1, "drop", "page")
        files = [(), (("page", 5),), (("page", 5), ("index", (5,))), (("page", 5), ("index", (5,)), ("sum", (5,))), ()]
        for file in files[3::-1]:
            self.assertIs(work.undo(), True)
            self.assertEqual(work.file, file)
            self.assertEqual(work.losses, [])
        self.assertIs(work.undo(), False)
        for file in files[1:]:
            self.assertIs(work.redo(), True)
            self.assertEqual(work.file, file)
        self.assertEqual(work.losses, [("index", False), ("sum", False)])
        self.assertIs(work.redo(), False)

    def test_what_changed_nothing_is_taken_back_too(self):
        work = Work(LAYOUT)
        work.do(1, "set", "page", 5)
        work.do(1, "set", "page", 5)
        self.assertEqual([work.undo(), work.file, work.undo(), work.file, work.undo()],
                         [True, (("page", 5),), True, (), False])
        self.assertEqual([work.redo(), work.redo(), work.redo(), work.file], [True, True, False, (("page", 5),)])
        work.undo()
        work.do(1, "set", "page", 5)
        self.assertIs(work.redo(), False)

    def test_what_is_refused_can_be_gone_past(self):
        work = whole_work()
        work.undo()
        self.refuse("lacks", work, 3, "drop", "sum")
        self.refuse("edition", work, 9, "drop", "sum")
        with self.assertRaises(BadQuestion):
            work.merge(1, work)
        other = work.fork()
        other.do(1, "set", "page", 9)
        with self.assertRaises(BadDeed):
            work.merge(4, other)
        self.assertIs(work.redo(), True)
        self.assertEqual(len(work), 3)
        work.undo()
        work.do(1, "set", "page", 7)
        self.assertIs(work.redo(), False)

    def test_merge_is_taken_back(self):
        work = whole_work()
        other = work.fork()
        other.do(1, "set", "page", 6)
        ahead = work.file
        self.assertEqual(work.merge(3, other), ())
        behind = work.file
        self.assertEqual((work.undo(), work.file), (True, ahead))
        self.assertEqual((work.redo(), work.file), (True, behind))
        work.undo()
        # One that changes nothing is done, too.
        self.assertEqual(work.merge(3, work.fork()), ())
        self.assertEqual((work.file, work.redo(), work.undo(), work.undo(), len(work)), (ahead, False, True, True, 2))


class Forks(Case):
    """fork and merge"""

    def test_fork(self):
        work = whole_work()
        work.do(1, "set", "page", 6)
        work.undo()
        fork = work.fork()
        self.assertIs(type(fork), Work)
        self.assertEqual(state_of(fork), (LAYOUT, work.file, []))
        self.assertEqual((fork.undo(), fork.redo(), fork == work), (False, False, True))
        fork.do(3, "drop", "sum")
        self.assertEqual((len(fork), len(work)), (2, 3))
        self.assertIs(work.redo(), True)
        self.assertEqual((len(fork), len(work)), (2, 1))

    def test_losses_are_not_taken_along(self):
        work = whole_work()
        work.do(1, "set", "page", 6)
        self.assertEqual((work.losses, work.fork().losses), ([("index", False), ("sum", False)], []))

    def test_merge(self):
        work = Work(LAYOUT)
        work.do(3, "set", "page", 5)
        fork = work.fork()
        fork.do(3, "make", "index")
        work.do(1, "set", "page", 6)
        told = merged(LAYOUT, 1, (("page", 5),), work.file, fork.file)
        self.assertEqual(work.merge(1, fork), ("index",))
        self.assertEqual((work.file, work.losses), (told[0], [("index", False)]))
        self.assertEqual(state_of(fork), (LAYOUT, (("page", 5), ("index", (5,))), []))
        self.assertEqual(fork.undo(), True)

    def test_base_is_the_file_at_that_moment(self):
        work = Work(LAYOUT)
        work.do(1, "set", "page", 5)
        fork = work.fork()
        work.do(1, "set", "page", 6)
        work.undo()
        work.undo()
        fork.do(1, "set", "page", 7)
        # BASE has 5, ONE has nothing.
        with self.assertRaises(Clash) as caught:
            work.merge(1, fork)
        self.assertEqual(caught.exception.name, "page")
        work.redo()
        self.assertEqual((work.merge(1, fork), work.file), ((), (("page", 7),)))

    def test_merged_again(self):
        work = Work(LAYOUT)
        work.do(1, "set", "page", 5)
        fork = work.fork()
        fork.do(1, "set", "page", 6)
        work.merge(1, fork)
        self.assertEqual((work.merge(1, fork), work.file), ((), (("page", 6),)))
        fork.do(3, "make", "index")
        self.assertEqual((work.merge(3, fork), work.file), ((), (("page", 6), ("index", (6,)))))
        fork.do(1, "set", "page", 5)
        # What the fork has is what BASE has again.
        self.assertEqual((work.merge(3, fork), work.file), ((), (("page", 6), ("index", (6,)))))

    def test_clash_changes_nothing(self):
        work = Work(LAYOUT)
        fork = work.fork()
        fork.do(1, "set", "page", 6)
        work.do(1, "set", "page", 5)
        work.do(1, "set", "page", 4)
        work.undo()
        ahead = state_of(work)
        with self.assertRaises(Clash):
            work.merge(1, fork)
        self.assertEqual(state_of(work), ahead)
        self.assertEqual((work.redo(), work.file), (True, (("page", 4),)))

    def test_what_was_not_forked_from_this_very_work(self):
        work = whole_work()
        fork = work.fork()
        work.do(1, "set", "page", 6)
        work.undo()
        wrong = [work, whole_work(), Work(LAYOUT), fork.fork(), whole_work().fork(), fork.fork().fork(), work.trial(), Work]
        for thing in things() + wrong:
            for edition in (1, 0, None, 4):
                ahead = state_of(work)
                with self.subTest(thing=thing), self.assertRaises(BadQuestion):
                    work.merge(edition, thing)
                self.assertEqual(state_of(work), ahead)
        with self.assertRaises(BadQuestion):
            fork.merge(1, work)
        with self.assertRaises(BadQuestion):
            fork.merge(1, fork)
        self.assertIs(work.redo(), True)

    def test_edition_is_refused_ahead_of_a_clash(self):
        work = Work(LAYOUT)
        fork = work.fork()
        fork.do(1, "set", "page", 6)
        work.do(1, "set", "page", 5)
        for thing in things() + [0, 4, 1.5]:
            if not is_whole(thing, 1, 3):
                with self.subTest(thing=thing), self.assertRaises(BadDeed) as caught:
                    work.merge(thing, fork)
                self.assertEqual(caught.exception.word, "edition")


class Trials(Case):
    """trial and tried"""

    def test_as_it_was(self):
        work = whole_work()
        work.do(1, "set", "page", 6)
        work.undo()
        ahead = state_of(work)
        with work.trial() as held:
            self.assertIs(held, work)
            work.do(3, "drop", "sum")
            work.do(1, "drop", "page")
            self.assertEqual(work.losses, [("index", False)])
            work.undo()
        self.assertEqual(state_of(work), ahead)
        self.assertIs(work.redo(), True)
        self.assertEqual(work.losses, [("index", False), ("sum", False)])
        self.assertEqual([work.undo() for _ in range(5)], [True, True, True, True, False])
        self.assertEqual([work.redo() for _ in range(5)], [True, True, True, True, False])

    def test_undone_in_the_block(self):
        work = whole_work()
        with work.trial():
            while work.undo():
                pass
            work.do(1, "set", "page", 9)
        self.assertEqual((len(work), work["page"]), (3, 5))
        self.assertEqual([work.undo() for _ in range(4)], [True, True, True, False])

    def test_when_the_block_begins(self):
        work = Work(LAYOUT)
        trial = work.trial()
        work.do(1, "set", "page", 5)
        with trial:
            work.do(1, "set", "page", 6)
        self.assertEqual(work.file, (("page", 5),))

    def test_errors_are_raised_on(self):
        work = whole_work()
        ahead = state_of(work)
        for error in (Stop("x"), KeyError("y"), BadDeed("form"), Clash("page")):
            with self.assertRaises(type(error)) as caught:
                with work.trial():
                    work.do(1, "drop", "page")
                    raise error
            self.assertIs(caught.exception, error)
            self.assertEqual(state_of(work), ahead)
        with self.assertRaises(BadDeed):
            with work.trial():
                work.undo()
                work.do(0, "drop", "page")
        self.assertEqual(state_of(work), ahead)
        self.assertIs(work.redo(), False)

    def test_left_early(self):
        work = whole_work()
        for _ in range(3):
            with work.trial():
                work.undo()
                break
        self.assertEqual(len(work), 3)

    def test_in_one_another(self):
        work = whole_work()
        with work.trial():
            work.undo()
            with work.trial() as inner:
                inner.undo()
                inner.do(1, "drop", "page")
                self.assertEqual(len(work), 0)
            self.assertEqual(len(work), 2)
            self.assertIs(work.redo(), True)
            work.do(1, "drop", "page")
        self.assertEqual((len(work), work.losses, work.redo()), (3, [], False))

    def test_forks_and_merges_in_the_block(self):
        work = whole_work()
        with work.trial():
            fork = work.fork()
            fork.do(1, "set", "page", 6)
            work.merge(1, fork)
            self.assertEqual(work["page"], 6)
        self.assertEqual((work["page"], fork["page"]), (5, 6))
        # A fork of the block is one of this very Work behind it, too.
        self.assertEqual((work.merge(1, fork), work.file, fork.losses),
                         ((), (("page", 6),), [("index", False), ("sum", False)]))

    def test_other_works_stay(self):
        work = whole_work()
        fork = work.fork()
        with work.trial():
            fork.do(1, "drop", "page")
        self.assertEqual((len(work), len(fork)), (3, 0))

    def test_tried(self):
        work = whole_work()
        ahead = state_of(work)

        def call(held):
            self.assertIs(held, work)
            return held.do(1, "drop", "page"), held.losses

        self.assertEqual(tried(work, call), (("index", "sum"), [("index", False), ("sum", False)]))
        self.assertEqual(state_of(work), ahead)
        self.assertIs(tried(work, lambda held: held), work)
        self.assertIsNone(tried(work, lambda held: None))
        self.assertEqual(tried(work, lambda held: tried(held, lambda again: again.undo())), True)
        self.assertEqual(state_of(work), ahead)

    def test_tried_raises_on(self):
        work = whole_work()
        error = Stop("x")

        def call(held):
            held.undo()
            raise error

        with self.assertRaises(Stop) as caught:
            tried(work, call)
        self.assertIs(caught.exception, error)
        self.assertEqual((len(work), work.redo()), (3, False))


class Long(Case):
    """Long rows of all that can be done, beside a Work that keeps the whole list of its states."""

    def test_against_whole_states(self):
        chance = random.Random(101)
        for layout in list(some_layouts(60, 6, 103)) + [LAYOUT, WIDE]:
            pairs = [(Work(layout), Plain(layout))]
            for _ in range(120):
                at = chance.randrange(len(pairs))
                self.turn(chance, layout, pairs, pairs[at], 0)
                if len(pairs) > 5:
                    pairs.pop(chance.randrange(1, 6))
                for work, plain in pairs:
                    self.same(layout, work, plain)

    def same(self, layout, work, plain):
        file = model.told(layout, plain.file)
        self.assertEqual(state_of(work), (layout, file, plain.losses))
        self.assertEqual((len(work), work.stale()), (len(file), stale(layout, file)))
        self.assertEqual([name in work for name in model.order_of(layout)],
                         [name in plain.file for name in model.order_of(layout)])

    def turn(self, chance, layout, pairs, pair, deep):
        work, plain = pair
        choice = chance.random()
        if choice < 0.45:
            name = chance.choice(model.order_of(layout))
            deed = chance.choice((("set", name, chance.randint(0, 2)), ("make", name), ("drop", name)))
            edition = chance.randint(0, layout[-1][1] + 1)
            self.alike(lambda: work.do(edition, *deed), lambda: plain.do(edition, *deed))
        elif choice < 0.65:
            self.assertIs(work.undo(), plain.move(-1))
        elif choice < 0.78:
            self.assertIs(work.redo(), plain.move(1))
        elif choice < 0.84:
            pairs.append((work.fork(), plain.fork()))
        elif choice < 0.94:
            other = chance.choice(pairs)
            edition = chance.randint(1, layout[-1][1])
            self.alike(lambda: work.merge(edition, other[0]), lambda: plain.merge(edition, other[1]))
        elif deep < 3:
            self.try_out(chance, layout, pairs, pair, deep)

    def try_out(self, chance, layout, pairs, pair, deep):
        work, plain = pair
        kept = plain.kept()
        fails = chance.random() < 0.3
        try:
            with work.trial() as held:
                self.assertIs(held, work)
                for _ in range(chance.randint(0, 12)):
                    self.turn(chance, layout, pairs, chance.choice((pair, pair, chance.choice(pairs))), deep + 1)
                    self.same(layout, work, plain)
                if fails:
                    raise Stop("in the block")
        except Stop:
            self.assertTrue(fails)
        plain.restore(kept)
        self.same(layout, work, plain)

    def alike(self, call, plain_call):
        told = plain_call()
        if isinstance(told, str):
            with self.assertRaises(BadDeed) as caught:
                call()
            self.assertEqual(caught.exception.word, told)
        elif isinstance(told, type):
            with self.assertRaises(told):
                call()
        else:
            self.assertEqual(call(), told)

    def test_many_deeds(self):
        work = Work(LAYOUT)
        for at in range(3000):
            work.do(1, "set", "page", at)
        self.assertEqual(work.file, (("page", 2999),))
        with work.trial():
            self.assertEqual(sum([work.undo() for _ in range(3001)]), 3000)
        self.assertEqual(work.file, (("page", 2999),))
        self.assertEqual(sum([work.undo() for _ in range(3001)]), 3000)
        self.assertEqual(sum([work.redo() for _ in range(3001)]), 3000)
        self.assertEqual(work.file, (("page", 2999),))


class Examples(Case):
    def test_work(self):
        layout = (("page", 1, (), "p", ""), ("index", 2, ("page",), "i", "p"), ("sum", 3, ("index",), "s", "ip"))
        work = Work(layout)
        work.do(3, "set", "page", 5)
        work.do(3, "make", "index")
        lost = work.do(1, "set", "page", 6)
        self.assertEqual([lost, work.file, work.losses, "index" in work],
                         [("index",), (("page", 6),), [("index", False)], False])
        self.assertEqual(Work(layout).do(2, "set", "page", 5), ())


if __name__ == "__main__":
    unittest.main()
