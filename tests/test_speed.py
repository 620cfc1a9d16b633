"""How long calls on the largest LAYOUTs take. The limits leave a slow machine more than ten times what is needed."""

import time
import unittest

from carriedparts.files import is_current, is_sound, need_file, stale
from carriedparts.layouts import above, beneath, is_layout, is_older, names, need_layout, sources, watches
from things import DEEP, DEEP_FILE, with_item

CALLS = 200
MOST_SECONDS = 0.5


class Speed(unittest.TestCase):
    def within(self, call):
        # The time of this process alone: what else a machine is doing does not count.
        start = time.process_time()
        for _ in range(CALLS):
            call()
        self.assertLess(time.process_time() - start, MOST_SECONDS)

    def test_need_layout(self):
        self.assertIs(need_layout(DEEP), DEEP)
        self.within(lambda: need_layout(DEEP))

    def test_is_current(self):
        self.assertIs(is_current(DEEP, DEEP_FILE, "abcdefgx"), True)
        self.within(lambda: is_current(DEEP, DEEP_FILE, "abcdefgx"))

    def test_other_calls(self):
        self.within(lambda: names(DEEP))
        self.within(lambda: is_older(DEEP, "abcdefga", "abcdefgx"))
        for call in (beneath, above, sources, watches):
            self.within(lambda: call(DEEP, "abcdefgm"))
        for call in (need_file, stale, is_sound):
            self.within(lambda: call(DEEP, DEEP_FILE))

    def test_refusals(self):
        wrong = with_item(DEEP, 23, DEEP[23][:4] + ("ba",))
        self.assertIs(is_layout(wrong), False)
        self.within(lambda: is_layout(wrong))


if __name__ == "__main__":
    unittest.main()
