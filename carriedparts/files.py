"""FILEs: the parts that stand in them, and whether these are CURRENT."""

from carriedparts.errors import BadFile, Missing
from carriedparts.layouts import BASES, MOST_KINDS, NAME, numbered

MOST_CONTENT = 999999


def _sources_of_all(layout):
    """A dict from the NAMEs of a LAYOUT that was looked at before to the tuples of their SOURCES."""
    bits = {}
    every_source = []
    # Many KINDs have the same SOURCES; as bits of a number these are quickly joined and found again.
    by_bits = {0: ()}
    told = {}
    for kind in layout:
        name = kind[NAME]
        below = 0
        for base in kind[BASES]:
            below |= bits[base]
        if below not in by_bits:
            by_bits[below] = tuple([source for at, source in enumerate(every_source) if below >> at & 1])
        told[name] = by_bits[below]
        if not kind[BASES]:
            below = 1 << len(every_source)
            every_source.append(name)
        bits[name] = below
    return told


class Table:
    """What a LAYOUT tells of the parts of its FILEs, by NAMEs; BadLayout of what is none."""

    def __init__(self, layout):
        self.layout = layout
        self.numbers = numbered(layout)
        self.bases = {kind[NAME]: kind[BASES] for kind in layout}
        self.sources = _sources_of_all(layout)


def are_contents(things):
    """Whether each of the things is an integer that can be the CONTENT of a part of a source."""
    for thing in things:
        # To Python True and False are integers, too.
        if not isinstance(thing, int) or thing is True or thing is False or not 0 <= thing <= MOST_CONTENT:
            return False
    return True


def _is_content(table, name, thing):
    """Whether a thing can be the CONTENT of a part of a KIND."""
    many = len(table.sources[name])
    if many == 0:
        return are_contents((thing,))
    return isinstance(thing, tuple) and len(thing) == many and are_contents(thing)


def need_parts(table, thing):
    """The thing itself, if it is a FILE of the LAYOUT of a table."""
    if not isinstance(thing, tuple) or len(thing) > MOST_KINDS:
        raise BadFile(())
    ahead = -1
    for at, part in enumerate(thing):
        if not isinstance(part, tuple) or len(part) != 2:
            raise BadFile((at,))
        name, content = part
        # What is no string is not looked up: it may be no key, or claim to be equal to any NAME.
        if not isinstance(name, str) or table.numbers.get(name, -1) <= ahead:
            raise BadFile((at,))
        if not _is_content(table, name, content):
            raise BadFile((at,))
        ahead = table.numbers[name]
    return thing


def need_file(layout, thing):
    """The thing itself, if it is a FILE of the LAYOUT."""
    return need_parts(Table(layout), thing)


def fresh_content(table, contents, name):
    """The CONTENT of a made kind, if a part is made of it from what a dict of CONTENTs has of its SOURCES."""
    return tuple([contents[source] for source in table.sources[name]])


def would_be_current(table, contents, current, name, content):
    """Whether a part is CURRENT beside parts with these CONTENTs, those in the dict current being CURRENT."""
    for base in table.bases[name]:
        if base not in current:
            return False
    return not table.bases[name] or content == fresh_content(table, contents, name)


def current_names(table, contents):
    """A dict of the NAMEs of those of the parts with these CONTENTs that are CURRENT, to True."""
    current = {}
    # BASES stand ahead of what is made from them, so what is to be told of them is told already.
    for name in table.bases:
        if name in contents and would_be_current(table, contents, current, name, contents[name]):
            current[name] = True
    return current


def is_current(layout, file, name):
    """Whether the part of a KIND is CURRENT in a FILE."""
    table = Table(layout)
    contents = dict(need_parts(table, file))
    if not isinstance(name, str) or name not in contents:
        raise Missing(name)
    return name in current_names(table, contents)


def stale(layout, file):
    """The NAMEs, in order, of the parts of a FILE that are not CURRENT."""
    table = Table(layout)
    contents = dict(need_parts(table, file))
    current = current_names(table, contents)
    return tuple([name for name in contents if name not in current])


def is_sound(layout, file):
    """Whether all parts of a FILE are CURRENT."""
    return stale(layout, file) == ()
