"""FILEs: the parts that stand in them, and whether these are CURRENT."""

from carriedparts.errors import BadFile, Missing
from carriedparts.layouts import BASES, MOST_KINDS, NAME, is_whole, need_kind, need_layout, source_names

MOST_CONTENT = 999999


def is_number(thing):
    """Whether a thing is an integer that can be the CONTENT of a part of a source."""
    return is_whole(thing, 0, MOST_CONTENT)


def is_content(layout, kind, thing):
    """Whether a thing can be the CONTENT of a part of a KIND."""
    if not kind[BASES]:
        return is_number(thing)
    if not isinstance(thing, tuple) or len(thing) != len(source_names(layout, kind[NAME])):
        return False
    return all([is_number(number) for number in thing])


def part_number(layout, thing):
    """The number, in order, of the KIND of which a thing is a part, by itself; None if it is no part."""
    if not isinstance(thing, tuple) or len(thing) != 2:
        return None
    name, content = thing
    # What is no string is not compared: an object may claim to be equal to any NAME.
    if not isinstance(name, str):
        return None
    for number, kind in enumerate(layout):
        if kind[NAME] == name and is_content(layout, kind, content):
            return number
    return None


def _wrong_place(layout, thing):
    """The place at which a thing is no FILE of a LAYOUT; None of a FILE."""
    if not isinstance(thing, tuple) or len(thing) > MOST_KINDS:
        return ()
    ahead = -1
    for at, part in enumerate(thing):
        number = part_number(layout, part)
        if number is None or number <= ahead:
            return (at,)
        ahead = number
    return None


def need_file(layout, thing):
    """The thing itself, if it is a FILE of the LAYOUT."""
    need_layout(layout)
    place = _wrong_place(layout, thing)
    if place is not None:
        raise BadFile(place)
    return thing


def fresh_content(layout, contents, name):
    """The CONTENT of a made kind, if a part is made of it from what a dict of CONTENTs has of its SOURCES."""
    return tuple([contents[source] for source in source_names(layout, name)])


def current_parts(layout, file):
    """A dict from the NAMEs of the parts, in order, to whether they are CURRENT, of what was looked at before."""
    contents = dict(file)
    told = {}
    for name, content in file:
        bases = need_kind(layout, name)[BASES]
        # BASES stand ahead of what is made from them, so what is to be told of them is told already.
        current = all([told.get(base, False) for base in bases])
        if bases and current:
            current = content == fresh_content(layout, contents, name)
        told[name] = current
    return told


def is_current(layout, file, name):
    """Whether the part of a KIND is CURRENT in a FILE."""
    need_file(layout, file)
    told = current_parts(layout, file)
    if not isinstance(name, str) or name not in told:
        raise Missing(name)
    return told[name]


def stale(layout, file):
    """The NAMEs, in order, of the parts of a FILE that are not CURRENT."""
    need_file(layout, file)
    told = current_parts(layout, file)
    return tuple([name for name, current in told.items() if not current])


def is_sound(layout, file):
    """Whether all parts of a FILE are CURRENT."""
    need_file(layout, file)
    return all(list(current_parts(layout, file).values()))
