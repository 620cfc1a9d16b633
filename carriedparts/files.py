"""FILEs: the parts that stand in them, and whether these are CURRENT."""

from carriedparts.bits import many_bits
from carriedparts.errors import BadFile, Missing
from carriedparts.layouts import MOST_KINDS, is_one_bit, look_at

MOST_CONTENT = 999999


def are_contents(things):
    """Whether each of the things is an integer that can be the CONTENT of a part of a source."""
    for thing in things:
        if not isinstance(thing, int) or not 1 < thing <= MOST_CONTENT:
            # To Python True and False are integers, too.
            if not isinstance(thing, int) or thing is True or thing is False or not 0 <= thing <= 1:
                return False
    return True


def _contents_ahead(reached, roots, parts):
    """What need_parts tells of the parts ahead of the first wrong one, and all numbers in them, whatever these are."""
    # Many KINDs have the same SOURCES, which are counted once.
    many = {}
    contents = {}
    numbers = []
    ahead = 0
    try:
        for part in parts:
            if not isinstance(part, tuple) or len(part) != 2:
                break
            name, content = part
            # What is no string is not looked up: it may be no key, or claim to be equal to any NAME.
            if not isinstance(name, str) or reached[name] <= ahead:
                break
            # The highest bit is that of the KIND itself, so what stands behind it in order has a greater number.
            ahead = reached[name]
            below = ahead & roots
            if below == ahead:
                numbers.append(content)
            else:
                if below not in many:
                    many[below] = many_bits(below)
                if not isinstance(content, tuple) or len(content) != many[below]:
                    break
                numbers += content
            contents[name] = content
    except KeyError:
        # The part of no KIND of the LAYOUT is the first wrong one.
        return contents, numbers
    return contents, numbers


def need_parts(reached, roots, thing):
    """A dict from the NAMEs to the CONTENTs of a FILE of a LAYOUT, of which look_at has told."""
    if not isinstance(thing, tuple) or len(thing) > MOST_KINDS:
        raise BadFile(())
    contents, numbers = _contents_ahead(reached, roots, thing)
    if not are_contents(numbers):
        for at, (name, content) in enumerate(contents.items()):
            if not are_contents((content,) if is_one_bit(reached[name]) else content):
                raise BadFile((at,))
    if len(contents) < len(thing):
        raise BadFile((len(contents),))
    return contents


def need_file(layout, thing):
    """The thing itself, if it is a FILE of the LAYOUT."""
    reached, roots = look_at(layout)
    need_parts(reached, roots, thing)
    return thing


def current_bits(reached, contents, wanted):
    """The bits of what is CURRENT, by a dict of CONTENTs, in order, of those KINDs that reach none but wanted bits."""
    unwanted = ~wanted
    current = 0
    roots = 0
    numbers = []
    # Many KINDs have the same SOURCES, whose CONTENTs are put together once.
    fresh = {}
    for name, content in contents.items():
        bits = reached[name]
        if bits & unwanted:
            continue
        left = bits & ~current
        # If all beneath it is CURRENT, just the bit of the KIND itself is left.
        if left & left - 1:
            continue
        if left == bits:
            roots |= bits
            numbers.append((bits, content))
            current |= bits
            continue
        below = bits & roots
        if below not in fresh:
            fresh[below] = tuple([number for bit, number in numbers if bit & below])
        if content == fresh[below]:
            current |= left
    return current


def is_current(layout, file, name):
    """Whether the part of a KIND is CURRENT in a FILE."""
    reached, roots = look_at(layout)
    contents = need_parts(reached, roots, file)
    if not isinstance(name, str) or name not in contents:
        raise Missing(name)
    # Whether it is CURRENT depends on nothing but itself and what is beneath it.
    wanted = reached[name]
    return wanted & roots == wanted or current_bits(reached, contents, wanted) == wanted


def stale(layout, file):
    """The NAMEs, in order, of the parts of a FILE that are not CURRENT."""
    reached, roots = look_at(layout)
    contents = need_parts(reached, roots, file)
    # -1 has all bits.
    current = current_bits(reached, contents, -1)
    return tuple([name for name in contents if reached[name] & ~current])


def is_sound(layout, file):
    """Whether all parts of a FILE are CURRENT."""
    return stale(layout, file) == ()


class Table:
    """What is asked of a LAYOUT again and again while FILEs of it change; BadLayout of what is none."""

    def __init__(self, layout):
        self.kinds = layout
        self.reached, self.roots = look_at(layout)
        self.sources = {name: bits for name, bits in self.reached.items() if is_one_bit(bits)}


def fresh_content(table, contents, name):
    """The CONTENT of a made kind, if a part is made of it from what a dict of CONTENTs has of its SOURCES."""
    bits = table.reached[name]
    return tuple([contents[source] for source, bit in table.sources.items() if bits & bit])


def in_order(table, contents):
    """A dict from NAMEs to CONTENTs, in order."""
    return {name: contents[name] for name in table.reached if name in contents}


def file_of(table, contents):
    """The FILE with the parts of a dict from NAMEs to CONTENTs."""
    return tuple(in_order(table, contents).items())


def back_as_current(table, lost, contents):
    """The NAMEs of those LOST parts that would be CURRENT if they were put back, each alone, to what contents has."""
    current = current_bits(table.reached, in_order(table, contents), -1)
    told = []
    for name, content in lost.items():
        # To put a part back alters nothing for what is beneath it, all of which has to be CURRENT.
        if is_one_bit(table.reached[name] & ~current):
            if name in table.sources or content == fresh_content(table, contents, name):
                told.append(name)
    return told
