"""Judging a LAYOUT: what can happen in any of its ROWs, and the shortest ROWs in which it happens."""

from carriedparts.bits import beneath_bits, bit_pairs, many_bits, older_bits, watched_bits
from carriedparts.layouts import BASES, EDITION, NAME, need_number, reached_bits


def _gap_bits(layout, reached):
    """A list of the bits of all K such that (U, K) is a GAP, for each U of a LAYOUT that was looked at before."""
    wanted_by = {}
    told = []
    for kind, below, older, watched in zip(layout, beneath_bits(reached), older_bits(layout), watched_bits(layout)):
        wanted = below
        for base in kind[BASES]:
            wanted |= wanted_by[base]
        wanted_by[kind[NAME]] = wanted | watched
        told.append(wanted & older & ~watched)
    return told


def _waste_bits(layout, reached):
    """A list of the bits of all K such that (U, K) is a WASTE, for each U of a LAYOUT that was looked at before."""
    return [watched & ~below for watched, below in zip(watched_bits(layout), beneath_bits(reached))]


def gaps(layout):
    """The GAPs of a LAYOUT, pairs of NAMEs, one after the other."""
    reached = reached_bits(layout)
    order = list(reached)
    for at, bit in bit_pairs(_gap_bits(layout, reached)):
        yield order[at], order[bit]


def wastes(layout):
    """The WASTEs of a LAYOUT, pairs of NAMEs, one after the other."""
    reached = reached_bits(layout)
    order = list(reached)
    for at, bit in bit_pairs(_waste_bits(layout, reached)):
        yield order[at], order[bit]


def is_safe(layout):
    """Whether each ROW leaves a SOUND FILE."""
    return not any(_gap_bits(layout, reached_bits(layout)))


def is_sparing(layout):
    """Whether in no ROW a part is LOST IN VAIN."""
    return not any(_waste_bits(layout, reached_bits(layout)))


def is_exact(layout):
    """Whether a LAYOUT is SAFE and SPARING."""
    reached = reached_bits(layout)
    return not any(_gap_bits(layout, reached)) and not any(_waste_bits(layout, reached))


def _cost(below, one, other):
    return 2 + many_bits(below[one] | below[other])


def cost(layout, name, other):
    """The COST of a pair of NAMEs."""
    reached = reached_bits(layout)
    one = need_number(reached, name)
    return _cost(beneath_bits(reached), one, need_number(reached, other))


def _first_deed(kind):
    """A DEED behind which a part of a KIND stands, if none did and all beneath it do."""
    return ("make", kind[NAME]) if kind[BASES] else ("set", kind[NAME], 0)


def cheapest_row(layout, reached, rows):
    """The ROW of the pair (U, K) of least COST such that the bit of K is set in the row of U; None if there is none.

    The program of the NEWEST EDITION makes U and all beneath U or K; then the one of K's EDITION does a deed on K.
    """
    below = beneath_bits(reached)
    pairs = bit_pairs(rows)
    if not pairs:
        return None
    at, bit = min(pairs, key=lambda pair: _cost(below, pair[0], pair[1]))
    needed = below[at] | below[bit] | 1 << at
    newest = layout[-1][EDITION]
    steps = [(newest, _first_deed(kind)) for number, kind in enumerate(layout) if needed >> number & 1]
    last = layout[bit]
    # If K is beneath U, it stands by now; if not, it does not, but all beneath it do.
    deed = ("drop", last[NAME]) if needed >> bit & 1 else _first_deed(last)
    return tuple(steps) + ((last[EDITION], deed),)


def unsound_row(layout):
    """A shortest ROW that leaves a FILE that is not SOUND; None if there is none."""
    reached = reached_bits(layout)
    return cheapest_row(layout, reached, _gap_bits(layout, reached))


def vain_row(layout):
    """A shortest ROW in whose last STEP a part is LOST IN VAIN; None if there is none."""
    reached = reached_bits(layout)
    return cheapest_row(layout, reached, _waste_bits(layout, reached))
