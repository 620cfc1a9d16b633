"""What several of the tests use: sample LAYOUTs and FILEs, and things of every kind."""

import random
import re

PAGE = ("page", 1, (), "p", "")
INDEX = ("index", 2, ("page",), "i", "p")
SUM = ("sum", 3, ("index",), "s", "ip")
LAYOUT = (PAGE, INDEX, SUM)
FILE = (("page", 5), ("index", (5,)), ("sum", (5,)))

# Two sources and what is made from one or both of them; of "e" one of the BASES is beneath the other.
WIDE = (
    ("a", 1, (), "x", ""),
    ("b", 1, (), "y", "xz"),
    ("c", 2, ("b",), "x", "xy"),
    ("d", 2, ("b", "a"), "z", ""),
    ("e", 4, ("d", "a"), "w", "xyz"),
    ("f", 4, (), "w", "wx"),
)

LETTERS = "abcdefghijklmnopqrstuvwxyz"

# As many KINDs as there can be, all of another EDITION, with long NAMEs, three BASES and full MARKs.
DEEP = tuple([
    ("abcdefg" + LETTERS[at], 1 + at, tuple(["abcdefg" + sign for sign in LETTERS[max(0, at - 3):at]]),
     LETTERS[at], LETTERS[:at])
    for at in range(24)
])
DEEP_FILE = (("abcdefga", 5),) + tuple([(kind[0], (5,)) for kind in DEEP[1:]])


class Contrary:
    """An object that is equal to everything and cannot be a key."""

    __hash__ = None

    def __eq__(self, other):
        return True


def things():
    """New things of every kind."""
    return [
        None, True, False, 0, 1, 2, 99, 100, -1, 999999, 1000000, 10 ** 30 - 1, -(10 ** 30 - 1),
        "", "a", "z", "ab", "ba", "aa", "page", "index", "nowhere", "a\n", "A", "a b", "1", "-", "abcdefgh", "abcdefghi",
        LETTERS, b"", b"a", b"page", bytearray(b"a"), [], ["a"], ["page"], ["page", 5], {}, {"page": 1}, set(), {"page"},
        frozenset(), frozenset({"page"}), (), (None,), ("page",), ("page", "page"), (True,), (("page",),), ((),), (5,),
        ("page", 5), (("page", 5),), ("page", 1, (), "p"), ("page", 1, (), "p", "", ""), [["page", 1, [], "p", ""]],
        ["page", 1, (), "p", ""], [("page", 1, (), "p", "")], (((((),),),),), object(), Contrary(), range(2), len, int,
        Contrary, ValueError("a"), iter(()), slice(1), 2j, ...,
    ]


def is_text(thing, pattern):
    return isinstance(thing, str) and re.fullmatch(pattern, thing) is not None


def is_whole(thing, least, most):
    return type(thing) is int and least <= thing <= most


def with_item(row, at, thing):
    """A row with another thing at a number."""
    return row[:at] + (thing,) + row[at + 1:]


def line_of(many):
    """A LAYOUT of so many sources."""
    return tuple([("k" + LETTERS[at], 1, (), "a", "") for at in range(many)])


def some_layouts(many):
    """LAYOUTs of several sizes, always the same ones."""
    chance = random.Random(7)
    for _ in range(many):
        layout = []
        edition = 1
        for at in range(chance.randint(1, 9)):
            edition += chance.choice((0, 0, 1, 2))
            ahead = [kind[0] for kind in layout]
            bases = chance.sample(ahead, min(len(ahead), chance.choice((0, 0, 1, 1, 2, 3))))
            mark = "".join(sorted(chance.sample("abcd", chance.randint(0, 4))))
            layout.append((LETTERS[-1 - at] * chance.randint(1, 8), edition, tuple(bases), chance.choice("abcd"), mark))
        yield tuple(layout)
