"""LAYOUTs: what KINDs of parts there are, what they are made from, and what their MARKs name."""

from carriedparts.errors import BadDeed, BadLayout, Missing

MOST_KINDS = 24
MOST_BASES = 6
MOST_EDITION = 99
LONGEST_NAME = 8

# Where the members of a KIND stand in it.
NAME = 0
EDITION = 1
BASES = 2
LETTER = 3
MARK = 4


def is_whole(thing, least, most):
    """Whether a thing is an integer from least to most."""
    # To Python True and False are integers, too.
    return isinstance(thing, int) and not isinstance(thing, bool) and least <= thing <= most


def _has_letters_alone(text):
    return all(["a" <= sign <= "z" for sign in text])


def is_name(thing):
    """Whether a thing is a NAME."""
    return isinstance(thing, str) and 1 <= len(thing) <= LONGEST_NAME and _has_letters_alone(thing)


def _is_letter(thing):
    return isinstance(thing, str) and len(thing) == 1 and _has_letters_alone(thing)


def _is_mark(thing):
    if not isinstance(thing, str) or not _has_letters_alone(thing):
        return False
    return all([ahead < sign for ahead, sign in zip(thing, thing[1:])])


def _are_bases(thing):
    if not isinstance(thing, tuple) or len(thing) > MOST_BASES:
        return False
    return all([is_name(base) for base in thing]) and len(set(thing)) == len(thing)


def is_kind(thing):
    """Whether a thing is a KIND by its own form, whatever stands beside it."""
    if not isinstance(thing, tuple) or len(thing) != 5:
        return False
    name, edition, bases, letter, mark = thing
    if not is_name(name) or not is_whole(edition, 1, MOST_EDITION):
        return False
    return _are_bases(bases) and _is_letter(letter) and _is_mark(mark)


def _fits_behind(kind, ahead):
    """Whether a KIND may stand behind these KINDs."""
    taken = [other[NAME] for other in ahead]
    if kind[NAME] in taken or not all([base in taken for base in kind[BASES]]):
        return False
    return not ahead or ahead[-1][EDITION] <= kind[EDITION]


def _wrong_place(thing):
    """The place at which a thing is no LAYOUT; None of a LAYOUT."""
    if not isinstance(thing, tuple) or not 1 <= len(thing) <= MOST_KINDS:
        return ()
    for at, kind in enumerate(thing):
        if not is_kind(kind) or not _fits_behind(kind, thing[:at]):
            return (at,)
    return None


def need_layout(thing):
    """The thing itself, if it is a LAYOUT."""
    place = _wrong_place(thing)
    if place is not None:
        raise BadLayout(place)
    return thing


def is_layout(thing):
    """Whether a thing is a LAYOUT."""
    return _wrong_place(thing) is None


def need_kind(layout, name):
    """The KIND with this NAME, of a LAYOUT that was looked at before."""
    # What is no string is not compared: an object may claim to be equal to any NAME.
    if isinstance(name, str):
        for kind in layout:
            if kind[NAME] == name:
                return kind
    raise Missing(name)


def need_edition(layout, edition):
    """The EDITION itself, if a program of it can work with a LAYOUT that was looked at before."""
    if not is_whole(edition, 1, layout[-1][EDITION]):
        raise BadDeed("edition")
    return edition


def newest(layout):
    """The NEWEST EDITION of a LAYOUT."""
    return need_layout(layout)[-1][EDITION]


def names(layout):
    """The NAMEs of a LAYOUT, in order."""
    need_layout(layout)
    return tuple([kind[NAME] for kind in layout])


def known(layout, edition):
    """The NAMEs, in order, of the KINDs that the program of an EDITION knows."""
    need_layout(layout)
    need_edition(layout, edition)
    return tuple([kind[NAME] for kind in layout if kind[EDITION] <= edition])


def names_beneath(layout, name):
    """What beneath tells, of a LAYOUT and a NAME that were looked at before."""
    # BASES stand ahead of what is made from them, so one way back through the LAYOUT meets all of them.
    found = {name: True}
    for kind in layout[::-1]:
        if kind[NAME] in found:
            for base in kind[BASES]:
                found[base] = True
    return tuple([kind[NAME] for kind in layout if kind[NAME] in found and kind[NAME] != name])


def source_names(layout, name):
    """What sources tells, of a LAYOUT and a NAME that were looked at before."""
    below = names_beneath(layout, name)
    return tuple([kind[NAME] for kind in layout if kind[NAME] in below and not kind[BASES]])


def beneath(layout, name):
    """The NAMEs, in order, of the KINDs beneath a KIND."""
    need_layout(layout)
    need_kind(layout, name)
    return names_beneath(layout, name)


def above(layout, name):
    """The NAMEs, in order, of the KINDs above a KIND."""
    need_layout(layout)
    need_kind(layout, name)
    return tuple([kind[NAME] for kind in layout if name in names_beneath(layout, kind[NAME])])


def sources(layout, name):
    """The NAMEs, in order, of the SOURCES of a KIND; a source has none."""
    need_layout(layout)
    need_kind(layout, name)
    return source_names(layout, name)


def is_older(layout, name, other):
    """Whether the KIND name is OLDER than the KIND other."""
    need_layout(layout)
    first = need_kind(layout, name)
    second = need_kind(layout, other)
    return first[EDITION] < second[EDITION]


def watches(layout, name):
    """The NAMEs, in order, of the KINDs that a KIND watches."""
    need_layout(layout)
    watcher = need_kind(layout, name)
    older = [kind for kind in layout if kind[EDITION] < watcher[EDITION]]
    return tuple([kind[NAME] for kind in older if kind[LETTER] in watcher[MARK]])


def minds(layout, name):
    """The NAMEs, in order, of the KINDs that a KIND minds."""
    need_layout(layout)
    minder = need_kind(layout, name)
    others = [kind for kind in layout if kind[NAME] != name]
    return tuple([kind[NAME] for kind in others if kind[LETTER] in minder[MARK]])
