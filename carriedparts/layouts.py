"""LAYOUTs: what KINDs of parts there are, what they are made from, and what their MARKs name."""

from carriedparts.errors import BadDeed, BadLayout, Missing

MOST_KINDS = 24
MOST_BASES = 6
MOST_EDITION = 99
LONGEST_NAME = 8
LETTERS = "abcdefghijklmnopqrstuvwxyz"

# Where the members of a KIND stand in it.
NAME = 0
EDITION = 1
BASES = 2
LETTER = 3
MARK = 4

# The signs next to the LETTERs: the one ahead of a, the one behind z.
_BELOW_LETTERS = "`"
_ABOVE_LETTERS = "{"

# A dict is asked more quickly than a string, and does not have two letters side by side.
IS_LETTER = {
    "a": True, "b": True, "c": True, "d": True, "e": True, "f": True, "g": True, "h": True, "i": True, "j": True,
    "k": True, "l": True, "m": True, "n": True, "o": True, "p": True, "q": True, "r": True, "s": True, "t": True,
    "u": True, "v": True, "w": True, "x": True, "y": True, "z": True,
}

# So many signs of MARKs are looked at together, with one more sign for each MARK, which is enough for 12 of them; and
# a number with as many bytes, of each of which just the highest bit is set.
_MOST_SIGNS = 12 * 27
_TOPS = ((1 << 8 * 12 * 27) - 1) // 255 * 128


def is_whole(thing, least, most):
    """Whether a thing is an integer from least to most."""
    # To Python True and False are integers, too.
    return isinstance(thing, int) and not isinstance(thing, bool) and least <= thing <= most


def has_letters_alone(text):
    """Whether a string consists of LETTERs, of one at least."""
    if not text.isascii():
        return False
    # Bytes are looked at more quickly than strings.
    data = text.encode()
    return data.isalpha() and data.islower()


def are_marks(texts):
    """Whether strings are MARKs."""
    first = _BELOW_LETTERS + _BELOW_LETTERS.join(texts)
    if len(first) > _MOST_SIGNS:
        half = len(texts) // 2
        return half > 0 and are_marks(texts[:half]) and are_marks(texts[half:])
    second = _ABOVE_LETTERS.join(texts) + _ABOVE_LETTERS
    if not second.isascii():
        return False
    # Each sign of the second string has to be greater than the sign at the same place of the first one, which is the
    # sign ahead of it. One difference of long numbers compares all of them at once, and a loop over the signs would
    # take longer than all that is looked at besides: no sign has the highest bit of its byte, so if that is set in
    # the first number, it is still there behind the subtraction exactly if the second byte was not greater.
    tops = _TOPS >> 8 * (_MOST_SIGNS - len(second))
    left = (int.from_bytes(first.encode(), "big") | tops) - int.from_bytes(second.encode(), "big")
    return left & tops == 0


def _take_kinds(kinds, reached, marks):
    """Fills what look_at tells, and the MARKs, up to the first KIND that is wrong but for signs; tells the roots."""
    roots = 0
    own = 1
    least = 1
    try:
        for kind in kinds:
            if not isinstance(kind, tuple) or len(kind) != 5:
                break
            name, edition, bases, letter, mark = kind
            if not isinstance(name, str) or len(name) > LONGEST_NAME or name in reached:
                break
            # To Python True is an integer, too; False is less than each EDITION.
            if not isinstance(edition, int) or edition is True or not least <= edition <= MOST_EDITION:
                break
            if not isinstance(letter, str) or letter not in IS_LETTER:
                break
            if not isinstance(mark, str) or not isinstance(bases, tuple):
                break
            bits = own
            if bases:
                for base in bases:
                    # What is no string is not looked up: it may be no key, or claim to be equal to any NAME.
                    if not isinstance(base, str):
                        return roots
                    bits |= reached[base]
                many = len(bases)
                if many > 1 and (many > MOST_BASES or len(set(bases)) < many):
                    break
            else:
                roots |= own
            reached[name] = bits
            marks[mark] = True
            own += own
            least = edition
    except KeyError:
        # One of the BASES is no NAME of a KIND ahead, so this KIND is the first wrong one.
        return roots
    return roots


def look_at(thing):
    """What reached_bits tells of a LAYOUT, and the roots: the bits of its sources. BadLayout of what is none."""
    if not isinstance(thing, tuple) or not 1 <= len(thing) <= MOST_KINDS:
        raise BadLayout(())
    reached = {}
    # A dict, as many KINDs may have the same MARK, which is looked at once.
    marks = {}
    roots = _take_kinds(thing, reached, marks)
    # The signs of all NAMEs and MARKs are looked at together; which of them is wrong is asked only if one is.
    if "" in reached or not has_letters_alone("".join(reached)) or not are_marks(list(marks)):
        for at, name in enumerate(reached):
            if not has_letters_alone(name) or not are_marks([thing[at][MARK]]):
                raise BadLayout((at,))
    if len(reached) < len(thing):
        raise BadLayout((len(reached),))
    return reached, roots


def reached_bits(thing):
    """A dict from the NAMEs of a LAYOUT, in order, to bits of what they reach: the KIND itself and all beneath it.

    The bit 1 << N is that of the KIND with the number N in order, from 0. BadLayout of what is no LAYOUT.
    """
    return look_at(thing)[0]


def need_number(reached, name):
    """The number of the KIND with this NAME, by what reached_bits has told."""
    # What is no string is not looked up: it may be no key, or claim to be equal to any NAME.
    if not isinstance(name, str) or name not in reached:
        raise Missing(name)
    return reached[name].bit_length() - 1


def names_of(reached, bits):
    """The NAMEs, in order, of the KINDs with these bits, by what reached_bits has told."""
    return tuple([name for at, name in enumerate(reached) if bits >> at & 1])


def is_one_bit(bits):
    """Whether just one bit of a number above 0 is set: of what a KIND reaches, whether it is a source."""
    return bits & bits - 1 == 0


def need_edition(layout, edition):
    """The EDITION itself, if a program of it can work with a LAYOUT that was looked at before."""
    if not is_whole(edition, 1, layout[-1][EDITION]):
        raise BadDeed("edition")
    return edition


def need_layout(thing):
    """The thing itself, if it is a LAYOUT."""
    reached_bits(thing)
    return thing


def is_layout(thing):
    """Whether a thing is a LAYOUT."""
    try:
        reached_bits(thing)
    except BadLayout:
        return False
    return True


def newest(layout):
    """The NEWEST EDITION of a LAYOUT."""
    return need_layout(layout)[-1][EDITION]


def names(layout):
    """The NAMEs of a LAYOUT, in order."""
    return tuple(reached_bits(layout))


def known(layout, edition):
    """The NAMEs, in order, of the KINDs that the program of an EDITION knows."""
    need_edition(need_layout(layout), edition)
    return tuple([kind[NAME] for kind in layout if kind[EDITION] <= edition])


def beneath(layout, name):
    """The NAMEs, in order, of the KINDs beneath a KIND."""
    reached = reached_bits(layout)
    number = need_number(reached, name)
    return names_of(reached, reached[name] ^ 1 << number)


def above(layout, name):
    """The NAMEs, in order, of the KINDs above a KIND."""
    reached = reached_bits(layout)
    number = need_number(reached, name)
    return tuple([other for other, bits in reached.items() if bits >> number & 1 and other != name])


def sources(layout, name):
    """The NAMEs, in order, of the SOURCES of a KIND; a source has none."""
    reached = reached_bits(layout)
    number = need_number(reached, name)
    below = names_of(reached, reached[name] ^ 1 << number)
    return tuple([other for other in below if is_one_bit(reached[other])])


def is_older(layout, name, other):
    """Whether the KIND name is OLDER than the KIND other."""
    reached = reached_bits(layout)
    first = layout[need_number(reached, name)]
    second = layout[need_number(reached, other)]
    return first[EDITION] < second[EDITION]


def watches(layout, name):
    """The NAMEs, in order, of the KINDs that a KIND watches."""
    number = need_number(reached_bits(layout), name)
    edition = layout[number][EDITION]
    mark = layout[number][MARK]
    return tuple([kind[NAME] for kind in layout if kind[LETTER] in mark and kind[EDITION] < edition])


def minds(layout, name):
    """The NAMEs, in order, of the KINDs that a KIND minds."""
    number = need_number(reached_bits(layout), name)
    mark = layout[number][MARK]
    return tuple([kind[NAME] for kind in layout if kind[LETTER] in mark and kind[NAME] != name])
