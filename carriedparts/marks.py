"""MARKs: the least ones with which a LAYOUT is SAFE, and whether it can be made EXACT."""

from carriedparts.bits import beneath_bits, letter_bits, older_bits
from carriedparts.layouts import MARK, NAME, reached_bits


def careful(layout):
    """The CAREFUL form of a LAYOUT."""
    reached = reached_bits(layout)
    by_letter = letter_bits(layout)
    told = []
    for kind, below, older in zip(layout, beneath_bits(reached), older_bits(layout)):
        mark = [letter for letter, bits in by_letter.items() if bits & below & older]
        told.append(kind[:MARK] + ("".join(mark),))
    return tuple(told)


def splits(layout):
    """The pairs of a NAME and a LETTER that is SPLIT for it, one after the other."""
    reached = reached_bits(layout)
    by_letter = letter_bits(layout)
    for kind, below, older in zip(layout, beneath_bits(reached), older_bits(layout)):
        for letter, bits in by_letter.items():
            if bits & older & below and bits & older & ~below:
                yield kind[NAME], letter


def exact(layout):
    """The CAREFUL form of a LAYOUT; None if no MARKs make it EXACT."""
    split = list(splits(layout))
    return None if split else careful(layout)
