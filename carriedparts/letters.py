"""LETTERs: which LAYOUTs are ALIKE, and with how few LETTERs one of them can do."""

from carriedparts.bits import watched_bits
from carriedparts.errors import BadQuestion
from carriedparts.judging import cheapest_row
from carriedparts.layouts import EDITION, LETTER, LETTERS, NAME, need_layout, need_number, reached_bits


def _differences(one, other):
    """A list of the bits of all K that U watches by one of two LAYOUTs alone, for each U; they have one FRAME."""
    need_layout(one)
    need_layout(other)
    if [kind[:LETTER] for kind in one] != [kind[:LETTER] for kind in other]:
        raise BadQuestion("the LAYOUTs have different FRAMEs")
    return [first ^ second for first, second in zip(watched_bits(one), watched_bits(other))]


def are_alike(one, other):
    """Whether after each ROW the same KINDs stand by both LAYOUTs."""
    return not any(_differences(one, other))


def parting_row(one, other):
    """A shortest ROW after which other KINDs stand by the one LAYOUT than by the other; None if there is none."""
    rows = _differences(one, other)
    return cheapest_row(one, reached_bits(one), rows)


def _columns(layout):
    """What columns tells, of a LAYOUT that was looked at before."""
    ends = {kind[EDITION]: at + 1 for at, kind in enumerate(layout)}
    rows = watched_bits(layout)[::-1]
    told = {}
    for at, kind in enumerate(layout):
        newer = rows[:len(layout) - ends[kind[EDITION]]]
        told[kind[NAME]] = "".join(["1" if watched >> at & 1 else "0" for watched in newer])
    return told


def columns(layout):
    """A dict from the NAMEs, in order, to their COLUMNs."""
    return _columns(need_layout(layout))


def can_share(layout, name, other):
    """Whether two KINDs can have the same LETTER in a LAYOUT that is ALIKE."""
    reached = reached_bits(layout)
    need_number(reached, name)
    need_number(reached, other)
    told = _columns(layout)
    return told[name].startswith(told[other]) or told[other].startswith(told[name])


def _longest(told):
    """A dict of the COLUMNs that are not the beginning of a longer one, to the first NAMEs that have them, in order."""
    # Sorted, a string stands right ahead of those that begin with it, if there are any.
    ordered = sorted(set(list(told.values())))
    shorter = {one: True for one, other in zip(ordered, ordered[1:]) if other.startswith(one)}
    longest = {}
    for name, column in told.items():
        if column not in shorter:
            longest.setdefault(column, name)
    return longest


def _fewest_letters(layout):
    """The LETTERs, in order, of the KINDs in a LAYOUT that is ALIKE and has the fewest; the given one was looked at."""
    told = _columns(layout)
    longest = list(_longest(told))
    letters = []
    for column in told.values():
        fitting = [letter for letter, long in zip(LETTERS, longest) if long.startswith(column)]
        letters.append(fitting[0])
    return letters


def fewest(layout):
    """A LAYOUT that is ALIKE with the fewest LETTERs."""
    letters = _fewest_letters(need_layout(layout))
    told = []
    for kind, letter, watched in zip(layout, letters, watched_bits(layout)):
        marked = sorted({other for at, other in enumerate(letters) if watched >> at & 1})
        told.append(kind[:LETTER] + (letter, "".join(marked)))
    return tuple(told)


def unlike(layout):
    """NAMEs, in order, as many as the fewest LETTERs, no two of which can have the same LETTER."""
    return tuple(_longest(_columns(need_layout(layout))).values())
