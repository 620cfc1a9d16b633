"""Growing: whether further KINDs of a later EDITION can be made from some KINDs of a LAYOUT."""

from carriedparts.bits import letter_bits
from carriedparts.errors import BadQuestion
from carriedparts.layouts import MOST_BASES, need_layout, names_of, reached_bits


def _need_reached(reached, thing):
    """The bits of the KINDs that a tuple of at most 6 different NAMEs names, and of all beneath them."""
    if not isinstance(thing, tuple) or len(thing) > MOST_BASES:
        raise BadQuestion("what is asked about is no tuple of at most 6 NAMEs")
    bits = 0
    for name in thing:
        # What is no string is not looked up: it may be no key, or claim to be equal to any NAME.
        if not isinstance(name, str) or name not in reached:
            raise BadQuestion("what is asked about is no NAME of the LAYOUT")
        bits |= reached[name]
    if len(set(thing)) < len(thing):
        raise BadQuestion("the same NAME is asked about twice")
    return bits


def fits(layout, bases):
    """Whether no LETTER is both that of a KIND among some or beneath them and that of another KIND."""
    chosen = _need_reached(reached_bits(layout), bases)
    for bits in letter_bits(layout).values():
        if bits & chosen and bits & ~chosen:
            return False
    return True


def _with_beneath(reached, bits):
    """The bits of KINDs and of all beneath them."""
    told = 0
    for at, below in enumerate(reached.values()):
        if bits >> at & 1:
            told |= below
    return told


def widened(layout, bases):
    """The NAMEs, in order, of the WIDENED set of some NAMEs."""
    reached = reached_bits(layout)
    chosen = _need_reached(reached, bases)
    by_letter = letter_bits(layout)
    before = -1
    while chosen != before:
        before = chosen
        for bits in by_letter.values():
            if bits & chosen:
                chosen |= bits
        chosen = _with_beneath(reached, chosen)
    return names_of(reached, chosen)


def with_kinds(layout, *kinds):
    """The LAYOUT with further KINDs behind its own."""
    return need_layout(need_layout(layout) + kinds)
