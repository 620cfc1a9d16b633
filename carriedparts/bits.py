"""Sets of KINDs as bits of a number, the bit 1 << N for the KIND with the number N in order.

All functions here take a LAYOUT that was looked at before, or what others of them have told of it.
"""

from carriedparts.layouts import EDITION, LETTER, MARK


def beneath_bits(reached):
    """A list of the KINDs beneath each KIND, by what reached_bits has told."""
    return [bits ^ 1 << at for at, bits in enumerate(reached.values())]


def older_bits(layout):
    """A list of the KINDs that are OLDER than each KIND."""
    told = []
    edition = 0
    older = 0
    for at, kind in enumerate(layout):
        # KINDs of the same EDITION are not OLDER than each other.
        if kind[EDITION] > edition:
            edition = kind[EDITION]
            older = (1 << at) - 1
        told.append(older)
    return told


def letter_bits(layout):
    """A dict from the LETTERs, ascending, to the KINDs that have them."""
    letters = sorted({kind[LETTER] for kind in layout})
    told = {letter: 0 for letter in letters}
    for at, kind in enumerate(layout):
        told[kind[LETTER]] |= 1 << at
    return told


def marked_bits(layout):
    """A list of the KINDs whose LETTERs are in the MARK of each KIND, of any EDITION, the KIND itself among them."""
    by_letter = letter_bits(layout)
    told = []
    for kind in layout:
        mark = kind[MARK]
        marked = 0
        for letter, bits in by_letter.items():
            if letter in mark:
                marked |= bits
        told.append(marked)
    return told


def watched_bits(layout):
    """A list of the KINDs that each KIND watches."""
    return [marked & older for marked, older in zip(marked_bits(layout), older_bits(layout))]


def bit_pairs(rows):
    """The pairs of numbers (U, K), in order of U, then of K, such that the bit of K is set in the row of U."""
    return [(at, bit) for at, row in enumerate(rows) for bit in range(row.bit_length()) if row >> bit & 1]


def many_bits(bits):
    """How many bits are set."""
    return f"{bits:b}".count("1")
