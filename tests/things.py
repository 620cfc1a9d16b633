"""What several of the tests use: sample LAYOUTs and FILEs, and things of every kind."""

import random
import re

PAGE = ("page", 1, (), "p", "")
INDEX = ("index", 2, ("page",), "i", "p")
SUM = ("sum", 3, ("index",), "s", "ip")
LAYOUT = (PAGE, INDEX, SUM)
FILE = (("page", 5), ("index", (5,)), ("sum", (5,)))

# Two sources and what is made from one or both of them; of "e" one of the BASES is beneath the other.
WIDE = (
    ("a", 1, (), "x", ""),
    ("b", 1, (), "y", "xz"),
    ("c", 2, ("b",), "x", "xy"),
    ("d", 2, ("b", "a"), "z", ""),
    ("e", 4, ("d", "a"), "w", "xyz"),
    ("f", 4, (), "w", "wx"),
)

LETTERS = "abcdefghijklmnopqrstuvwxyz"

# As many KINDs as there can be, all of another EDITION, with long NAMEs, three BASES and full MARKs.
DEEP = tuple([
    ("abcdefg" + LETTERS[at], 1 + at, tuple(["abcdefg" + sign for sign in LETTERS[max(0, at - 3):at]]),
     LETTERS[at], LETTERS[:at])
    for at in range(24)
])
DEEP_FILE = (("abcdefga", 5),) + tuple([(kind[0], (5,)) for kind in DEEP[1:]])

# As many KINDs and BASES as there can be, each MARK with all LETTERs, and a FILE with a part of each KIND.
FULL = tuple([
    (LETTERS[at] * 8, 1 + at, tuple([sign * 8 for sign in LETTERS[at - 6:at]]) if at >= 6 else (), LETTERS[at], LETTERS)
    for at in range(24)
])
FULL_FILE = tuple([(kind[0], tuple(range(6)) if kind[2] else at) for at, kind in enumerate(FULL)])


class Contrary:
    """An object that is equal to everything and cannot be a key."""

    __hash__ = None

    def __eq__(self, other):
        return True


def things():
    """New things of every kind."""
    return [
        None, True, False, 0, 1, 2, 99, 100, -1, 999999, 1000000, 10 ** 30 - 1, -(10 ** 30 - 1),
        "", "a", "z", "ab", "ba", "aa", "page", "index", "nowhere", "a\n", "A", "a b", "1", "-", "abcdefgh", "abcdefghi",
        LETTERS, b"", b"a", b"page", bytearray(b"a"), [], ["a"], ["page"], ["page", 5], {}, {"page": 1}, set(), {"page"},
        frozenset(), frozenset({"page"}), (), (None,), ("page",), ("page", "page"), (True,), (("page",),), ((),), (5,),
        ("page", 5), (("page", 5),), ("page", 1, (), "p"), ("page", 1, (), "p", "", ""), [["page", 1, [], "p", ""]],
        ["page", 1, (), "p", ""], [("page", 1, (), "p", "")], (((((),),),),), object(), Contrary(), range(2), len, int,
        Contrary, ValueError("a"), iter(()), slice(1), 2j, ...,
    ]


def is_text(thing, pattern):
    return isinstance(thing, str) and re.fullmatch(pattern, thing) is not None


def is_whole(thing, least, most):
    return type(thing) is int and least <= thing <= most


def with_item(row, at, thing):
    """A row with another thing at a number."""
    return row[:at] + (thing,) + row[at + 1:]


def line_of(many):
    """A LAYOUT of so many sources."""
    return tuple([("k" + LETTERS[at], 1, (), "a", "") for at in range(many)])


def refusals():
    """What is no LAYOUT, each with the place at which it is refused."""
    bad = [(thing, ()) for thing in (None, True, 5, "page", b"", [], {}, set(), (), object(), Contrary(), list(LAYOUT))]
    return bad + [((PAGE,) * 25, ()), ((None,), (0,)), ((PAGE, PAGE), (1,)), ((PAGE, INDEX, PAGE[:4]), (2,))]


def some_layouts(many, most=9, seed=7):
    """LAYOUTs of several sizes, always the same ones."""
    chance = random.Random(seed)
    for _ in range(many):
        layout = []
        edition = 1
        for at in range(chance.randint(1, most)):
            edition += chance.choice((0, 0, 1, 2))
            ahead = [kind[0] for kind in layout]
            bases = chance.sample(ahead, min(len(ahead), chance.choice((0, 0, 1, 1, 2, 3))))
            mark = "".join(sorted(chance.sample("abcd", chance.randint(0, 4))))
            layout.append((LETTERS[-1 - at] * chance.randint(1, 8), edition, tuple(bases), chance.choice("abcd"), mark))
        yield tuple(layout)


def altered_layouts(many, most, seed):
    """LAYOUTs in which each KIND watches just what is OLDER beneath it, but for one KIND and one LETTER."""
    chance = random.Random(seed)
    frames = [layout for layout in some_layouts(40 * many, most, seed) if len(layout) == most]
    for layout in frames[:many]:
        below = []
        for _, _, bases, _, _ in layout:
            own = {at for at, kind in enumerate(layout) if kind[0] in bases}
            below.append(own.union(*[below[at] for at in own]))
        changed = chance.randrange(1, most)
        below[changed] ^= {chance.randrange(changed)}
        yield tuple([kind[:3] + (LETTERS[at], "".join([LETTERS[other] for other in sorted(below[at])]))
                     for at, kind in enumerate(layout)])


def some_file(chance, layout, many_sources):
    """A FILE of a LAYOUT, SOUND or not; many_sources tells how many SOURCES a NAME has."""
    parts = []
    for name, _, bases, _, _ in layout:
        numbers = [chance.choice((0, 1, 1, 1, 999999)) for _ in range(many_sources(name))]
        if chance.random() < 0.75:
            parts.append((name, tuple(numbers) if bases else chance.choice((0, 1, 999999))))
    return tuple(parts)
