"""LAYOUTs: what KINDs of parts there are, what they are made from, and what their MARKs name."""

from carriedparts.errors import BadDeed, BadLayout, Missing

MOST_KINDS = 24
MOST_BASES = 6
MOST_EDITION = 99
LONGEST_NAME = 8
LETTERS = "abcdefghijklmnopqrstuvwxyz"
LONGEST_MARK = 26

# Where the members of a KIND stand in it.
NAME = 0
EDITION = 1
BASES = 2
LETTER = 3
MARK = 4

# The signs next to the LETTERs: the one ahead of a, the one behind z.
_BELOW_LETTERS = "`"
_ABOVE_LETTERS = "{"

# So many signs have the MARKs of a LAYOUT at most, with one more sign for each; and a number with 1 in as many bytes.
_MOST_SIGNS = 24 * 27
_ONES = ((1 << 8 * 24 * 27) - 1) // 255


def is_whole(thing, least, most):
    """Whether a thing is an integer from least to most."""
    # To Python True and False are integers, too.
    return isinstance(thing, int) and not isinstance(thing, bool) and least <= thing <= most


def _has_letters_alone(text):
    """Whether a string consists of LETTERs, of one at least."""
    return text.isalpha() and text.islower() and text.isascii()


def _are_marks(texts):
    """Whether strings, at most 24 of at most 26 signs each, are MARKs."""
    first = _BELOW_LETTERS + _BELOW_LETTERS.join(texts)
    second = _ABOVE_LETTERS.join(texts) + _ABOVE_LETTERS
    if not second.isascii():
        return False
    # Each sign of the second string has to be greater than the sign at the same place of the first one, which is the
    # sign ahead of it. One difference of long numbers compares all of them at once, and a loop over the signs would
    # take longer than all that is looked at besides: no sign has the highest bit of its byte, so if that is set in
    # the greater number, it is still there behind the subtraction exactly if the byte was greater.
    ones = _ONES >> 8 * (_MOST_SIGNS - len(second))
    tops = ones << 7
    left = (int.from_bytes(second.encode(), "big") | tops) - ones - int.from_bytes(first.encode(), "big")
    return left & tops == tops


def _are_bases(thing, taken):
    """Whether a thing can be the BASES of a KIND behind those whose NAMEs a dict has."""
    if not isinstance(thing, tuple) or len(thing) > MOST_BASES:
        return False
    for base in thing:
        # What is no string is not looked up: it may be no key, or claim to be equal to any NAME.
        if not isinstance(base, str) or base not in taken:
            return False
    return len(thing) < 2 or len(set(thing)) == len(thing)


def _names_ahead(kinds):
    """A dict of the NAMEs ahead of the first KIND that is wrong, whatever signs NAMEs and MARKs have, to numbers."""
    taken = {}
    least = 1
    for kind in kinds:
        if not isinstance(kind, tuple) or len(kind) != 5:
            break
        name, edition, bases, letter, mark = kind
        if not isinstance(name, str) or not 1 <= len(name) <= LONGEST_NAME or name in taken:
            break
        # To Python True is an integer, too; False is less than each EDITION.
        if not isinstance(edition, int) or edition is True or not least <= edition <= MOST_EDITION:
            break
        if not isinstance(letter, str) or len(letter) != 1 or letter not in LETTERS:
            break
        if not isinstance(mark, str) or len(mark) > LONGEST_MARK or not _are_bases(bases, taken):
            break
        taken[name] = len(taken)
        least = edition
    return taken


def numbered(thing):
    """A dict from the NAMEs of a LAYOUT, in order, to their numbers, from 0; BadLayout of what is none."""
    if not isinstance(thing, tuple) or not 1 <= len(thing) <= MOST_KINDS:
        raise BadLayout(())
    taken = _names_ahead(thing)
    right = thing[:len(taken)]
    # The signs of all NAMEs and MARKs are looked at together; which of them is wrong is asked only if one is.
    if not _has_letters_alone("".join(taken)) or not _are_marks([kind[MARK] for kind in right]):
        for at, kind in enumerate(right):
            if not _has_letters_alone(kind[NAME]) or not _are_marks([kind[MARK]]):
                raise BadLayout((at,))
    if len(taken) < len(thing):
        raise BadLayout((len(taken),))
    return taken


def need_number(numbers, name):
    """The number of the KIND with this NAME, by what numbered has told."""
    # What is no string is not looked up: it may be no key, or claim to be equal to any NAME.
    if not isinstance(name, str) or name not in numbers:
        raise Missing(name)
    return numbers[name]


def need_edition(layout, edition):
    """The EDITION itself, if a program of it can work with a LAYOUT that was looked at before."""
    if not is_whole(edition, 1, layout[-1][EDITION]):
        raise BadDeed("edition")
    return edition


def need_layout(thing):
    """The thing itself, if it is a LAYOUT."""
    numbered(thing)
    return thing


def is_layout(thing):
    """Whether a thing is a LAYOUT."""
    try:
        numbered(thing)
    except BadLayout:
        return False
    return True


def newest(layout):
    """The NEWEST EDITION of a LAYOUT."""
    return need_layout(layout)[-1][EDITION]


def names(layout):
    """The NAMEs of a LAYOUT, in order."""
    return tuple(numbered(layout))


def known(layout, edition):
    """The NAMEs, in order, of the KINDs that the program of an EDITION knows."""
    numbered(layout)
    need_edition(layout, edition)
    return tuple([kind[NAME] for kind in layout if kind[EDITION] <= edition])


def names_beneath(layout, number):
    """What beneath tells of the KIND with a number, of a LAYOUT that was looked at before."""
    # BASES stand ahead of what is made from them, so one way back through the LAYOUT meets all of them.
    ahead = layout[:number]
    found = {base: True for base in layout[number][BASES]}
    for kind in ahead[::-1]:
        if kind[NAME] in found:
            for base in kind[BASES]:
                found[base] = True
    return tuple([kind[NAME] for kind in ahead if kind[NAME] in found])


def beneath(layout, name):
    """The NAMEs, in order, of the KINDs beneath a KIND."""
    number = need_number(numbered(layout), name)
    return names_beneath(layout, number)


def above(layout, name):
    """The NAMEs, in order, of the KINDs above a KIND."""
    number = need_number(numbered(layout), name)
    found = {name: True}
    for kind in layout[number + 1:]:
        for base in kind[BASES]:
            if base in found:
                found[kind[NAME]] = True
    return tuple(found)[1:]


def sources(layout, name):
    """The NAMEs, in order, of the SOURCES of a KIND; a source has none."""
    numbers = numbered(layout)
    below = names_beneath(layout, need_number(numbers, name))
    return tuple([other for other in below if not layout[numbers[other]][BASES]])


def is_older(layout, name, other):
    """Whether the KIND name is OLDER than the KIND other."""
    numbers = numbered(layout)
    first = layout[need_number(numbers, name)]
    second = layout[need_number(numbers, other)]
    return first[EDITION] < second[EDITION]


def watches(layout, name):
    """The NAMEs, in order, of the KINDs that a KIND watches."""
    number = need_number(numbered(layout), name)
    edition = layout[number][EDITION]
    mark = layout[number][MARK]
    return tuple([kind[NAME] for kind in layout if kind[LETTER] in mark and kind[EDITION] < edition])


def minds(layout, name):
    """The NAMEs, in order, of the KINDs that a KIND minds."""
    number = need_number(numbered(layout), name)
    mark = layout[number][MARK]
    return tuple([kind[NAME] for kind in layout if kind[LETTER] in mark and kind[NAME] != name])
