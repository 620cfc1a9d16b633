"""Merging two FILEs that were changed apart, and which LAYOUTs are safe and sparing with it."""

from carriedparts.bits import beneath_bits, marked_bits
from carriedparts.errors import Clash
from carriedparts.files import Table, back_as_current, current_bits, file_of, fresh_content, need_parts
from carriedparts.layouts import BASES, EDITION, LETTER, MARK, NAME, need_edition, names_of, reached_bits


def _chosen(one, other, base):
    """What is merged of what ONE, OTHER and BASE have of a KIND, if these are not three different things."""
    return other if one == base else one


def _are_different(one, other, base):
    return one != other and other != base and one != base


def _joined(table, edition, base, one, other):
    """The CONTENTs that are merged of those of three FILEs, before parts leave."""
    told = {}
    for kind in table.kinds:
        name = kind[NAME]
        if kind[BASES] and kind[EDITION] <= edition:
            stands = _chosen(name in one, name in other, name in base)
            if stands and all([under in told for under in kind[BASES]]):
                told[name] = fresh_content(table, told, name)
            continue
        # No CONTENT is None, so None stands for no part.
        three = (one.get(name), other.get(name), base.get(name))
        if _are_different(three[0], three[1], three[2]):
            if not kind[BASES]:
                raise Clash(name)
            continue
        content = _chosen(three[0], three[1], three[2])
        if content is not None:
            told[name] = content
    return told


def _cause_letters(table, edition, joined, side):
    """A dict of the LETTERs of the KINDs that are CAUSEs against a side, to True."""
    different = 0
    letters = {}
    for at, kind in enumerate(table.kinds):
        name = kind[NAME]
        if joined.get(name) != side.get(name):
            if kind[EDITION] > edition or not table.reached[name] & different:
                letters[kind[LETTER]] = True
            different |= 1 << at
    return letters


def _leaving(table, edition, joined, base, side, opposite):
    """A dict of the parts of a side that leave: the opposite side has them not so, because it has what BASE has."""
    letters = _cause_letters(table, edition, joined, side)
    lost = {}
    for kind in table.kinds:
        name = kind[NAME]
        if kind[EDITION] <= edition or name not in side:
            continue
        if opposite.get(name) != base.get(name) or opposite.get(name) == side[name]:
            continue
        # What is merged of such a part is what the side has, so its own KIND is no CAUSE against that side.
        if any([letter in letters for letter in kind[MARK]]):
            lost[name] = side[name]
    return lost


def _in_vain(table, side, lost, back):
    """The NAMEs of the LOST parts of a side that are LOST IN VAIN; back are those that would be CURRENT again."""
    current = current_bits(table.reached, side, -1)
    return [name for name in lost if name in back and not table.reached[name] & ~current]


def merged(layout, edition, base, one, other):
    """The FILE that the program of an EDITION merges, the NAMEs LOST and those of them LOST IN VAIN."""
    table = Table(layout)
    base_contents = need_parts(table.reached, table.roots, base)
    one_contents = need_parts(table.reached, table.roots, one)
    other_contents = need_parts(table.reached, table.roots, other)
    need_edition(layout, edition)
    joined = _joined(table, edition, base_contents, one_contents, other_contents)
    lost_one = _leaving(table, edition, joined, base_contents, one_contents, other_contents)
    lost_other = _leaving(table, edition, joined, base_contents, other_contents, one_contents)
    lost = {**lost_one, **lost_other}
    left = {name: content for name, content in joined.items() if name not in lost}
    back = back_as_current(table, lost, left)
    vain = _in_vain(table, one_contents, lost_one, back) + _in_vain(table, other_contents, lost_other, back)
    in_order = [name for name in table.reached if name in lost]
    return file_of(table, left), tuple(in_order), tuple([name for name in in_order if name in vain])


def _minded_bits(layout):
    """A list of the KINDs that each KIND minds; none for one of EDITION 1, whose MARK no program asks."""
    marked = marked_bits(layout)
    return [marked[at] & ~(1 << at) if kind[EDITION] > 1 else 0 for at, kind in enumerate(layout)]


def _fault_bits(layout, reached):
    """A list of the KINDs that each KIND should mind for a LAYOUT to be MERGE SAFE, and does not."""
    wanted_by = {}
    told = []
    for at, (kind, below, minded) in enumerate(zip(layout, beneath_bits(reached), _minded_bits(layout))):
        wanted = below
        for base in kind[BASES]:
            wanted |= wanted_by[base]
        wanted_by[kind[NAME]] = wanted | minded
        told.append(wanted & ~minded & ~(1 << at) if kind[EDITION] > 1 else 0)
    return told


def _waste_bits(layout, reached):
    """A list of the KINDs that each KIND minds and should not for a LAYOUT to be MERGE SPARING."""
    return [minded & ~below for minded, below in zip(_minded_bits(layout), beneath_bits(reached))]


def is_merge_safe(layout):
    """Whether any merging of two SOUND FILEs leaves a SOUND one, unless it is refused."""
    return not any(_fault_bits(layout, reached_bits(layout)))


def is_merge_sparing(layout):
    """Whether in no merging a part is LOST IN VAIN."""
    return not any(_waste_bits(layout, reached_bits(layout)))


def _parts_of(table, bits, number):
    """The FILE with parts of the KINDs with these bits, all contents being a number."""
    parts = []
    for name in names_of(table.reached, bits):
        many = [number for bit in table.sources.values() if table.reached[name] & bit]
        parts.append((name, number if name in table.sources else tuple(many)))
    return tuple(parts)


def _first_pair(rows):
    """The first number U whose row has a bit, and the number K of its highest one; None if no row has one."""
    for at, row in enumerate(rows):
        if row:
            return at, row.bit_length() - 1
    return None


def _meeting(table, at, bit):
    """A merging by program 1 in which K is new and stands against all that ONE has: U, and what is beneath U or K.

    What OTHER has beneath K, BASE has, too, so ONE prevails there, and K is the only CAUSE against ONE. U and K are
    the KINDs with the numbers at and bit; K is not beneath U.
    """
    reached = list(table.reached.values())
    below = reached[bit] ^ 1 << bit
    one = _parts_of(table, reached[at] | below, 0)
    return 1, _parts_of(table, below, 1), one, _parts_of(table, reached[bit], 1)


def _parting(table, at, bit):
    """A merging by program 1 in which K is taken away, and U, which is made from it, is new.

    BASE has nothing but K, and OTHER nothing at all, so ONE prevails but for K, which is the only CAUSE against ONE.
    """
    reached = list(table.reached.values())
    return 1, _parts_of(table, 1 << bit, 0), _parts_of(table, reached[at], 0), ()


def merge_fault(layout):
    """EDITION, BASE, ONE and OTHER whose merging leaves a FILE that is not SOUND though ONE and OTHER are, or None."""
    table = Table(layout)
    pair = _first_pair(_fault_bits(layout, table.reached))
    if pair is None:
        return None
    at, bit = pair
    if table.reached[layout[at][NAME]] >> bit & 1:
        return _parting(table, at, bit)
    # A KIND beneath U minds K and leaves, and U stays without it.
    return _meeting(table, at, bit)


def merge_waste(layout):
    """EDITION, BASE, ONE and OTHER in whose merging a part is LOST IN VAIN, or None."""
    table = Table(layout)
    pair = _first_pair(_waste_bits(layout, table.reached))
    if pair is None:
        return None
    # U is the first one in order, so nothing beneath it minds K: U alone leaves of what ONE has beneath it.
    return _meeting(table, pair[0], pair[1])
