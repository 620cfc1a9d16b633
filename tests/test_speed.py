"""How long calls on the largest LAYOUTs take. The limits leave a slow machine more than ten times what is needed."""

import time
import unittest

from carriedparts.files import is_current, is_sound, need_file, stale
from carriedparts.judging import cost, gaps, is_exact, is_safe, is_sparing, unsound_row, vain_row, wastes
from carriedparts.layouts import above, beneath, is_layout, is_older, names, need_layout, sources, watches
from carriedparts.letters import are_alike, can_share, columns, fewest, parting_row, unlike
from carriedparts.marks import careful, exact, splits
from carriedparts.programs import done, played
from things import DEEP, DEEP_FILE, FULL, FULL_FILE, LETTERS, with_item

CALLS = 200
MOST_SECONDS = 0.5


class Speed(unittest.TestCase):
    def within(self, call, calls=CALLS, most_seconds=MOST_SECONDS):
        # The time of this process alone: what else a machine is doing does not count.
        start = time.process_time()
        for _ in range(calls):
            call()
        self.assertLess(time.process_time() - start, most_seconds)

    def test_need_layout(self):
        self.assertIs(need_layout(DEEP), DEEP)
        self.within(lambda: need_layout(DEEP))

    def test_is_current(self):
        self.assertIs(is_current(DEEP, DEEP_FILE, "abcdefgx"), True)
        self.within(lambda: is_current(DEEP, DEEP_FILE, "abcdefgx"))

    def test_other_calls(self):
        self.within(lambda: names(DEEP))
        self.within(lambda: is_older(DEEP, "abcdefga", "abcdefgx"))
        for call in (beneath, above, sources, watches):
            self.within(lambda: call(DEEP, "abcdefgm"))
        for call in (need_file, stale, is_sound):
            self.within(lambda: call(DEEP, DEEP_FILE))

    def test_full_layout(self):
        """24 KINDs, as many BASES and LETTERs in the MARKs as there can be, and a FILE with all parts."""
        self.assertIs(need_layout(FULL), FULL)
        self.assertEqual(stale(FULL, FULL_FILE), ())
        self.within(lambda: need_layout(FULL))
        for call in (need_file, stale, is_sound):
            self.within(lambda: call(FULL, FULL_FILE))
        for name in names(FULL):
            self.assertIs(is_current(FULL, FULL_FILE, name), True)
            self.within(lambda: is_current(FULL, FULL_FILE, name), 50)
        stale_file = with_item(FULL_FILE, 0, (FULL[0][0], 9))
        self.assertEqual(stale(FULL, stale_file), names(FULL)[6:])
        self.within(lambda: stale(FULL, stale_file))

    def test_many_calls_with_a_full_layout(self):
        """Thousands of calls, at some 40 microseconds each, with room for a machine ten times as slow."""
        last = names(FULL)[-1]

        def each():
            need_file(FULL, FULL_FILE)
            stale(FULL, FULL_FILE)
            is_sound(FULL, FULL_FILE)
            is_current(FULL, FULL_FILE, last)

        self.within(each, 1000, 2)

    def test_refusals(self):
        for layout, mark in ((DEEP, "ba"), (FULL, LETTERS[:25] + "y"), (FULL, "a" * 27)):
            wrong = with_item(layout, 23, layout[23][:4] + (mark,))
            self.assertIs(is_layout(wrong), False)
            self.within(lambda: is_layout(wrong))

    def test_programs(self):
        for edition in (1, 24):
            self.within(lambda: done(DEEP, edition, DEEP_FILE, ("set", "abcdefga", 6)), 50)
        row = tuple([(24, ("set", "abcdefga", at)) for at in range(20)])
        self.within(lambda: played(DEEP, row), 50)

    def test_judgements(self):
        """Of any MARKs: the given ones, none, all."""
        for mark in (None, "", LETTERS):
            layout = tuple([kind[:4] + (kind[4] if mark is None else mark,) for kind in DEEP])
            for call in (is_safe, is_sparing, is_exact, unsound_row, vain_row, careful, exact, columns, fewest, unlike):
                self.within(lambda: call(layout), 50)
            for call in (gaps, wastes, splits):
                self.within(lambda: list(call(layout)), 50)
            for call in (are_alike, parting_row):
                self.within(lambda: call(DEEP, layout), 50)
            for call in (cost, can_share):
                self.within(lambda: call(layout, "abcdefga", "abcdefgx"), 50)


if __name__ == "__main__":
    unittest.main()
