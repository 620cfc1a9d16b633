"""Programs: what their DEEDs make of a FILE, one by one and in ROWs."""

from carriedparts.errors import BadDeed, BadRow
from carriedparts.files import Table, are_contents, back_as_current, current_bits, file_of, fresh_content, need_parts
from carriedparts.layouts import BASES, EDITION, LETTER, MARK, NAME, is_whole, names_of

MOST_STEPS = 400


def _is_deed(thing):
    """Whether a thing is a DEED by its form."""
    if not isinstance(thing, tuple) or not 2 <= len(thing) <= 3:
        return False
    # What is no string is not compared: an object may claim to be equal to any word.
    if not isinstance(thing[0], str) or not isinstance(thing[1], str):
        return False
    if len(thing) == 3:
        return thing[0] == "set" and are_contents(thing[2:])
    return thing[0] == "make" or thing[0] == "drop"


def _kind_of(table, name):
    return table.kinds[table.reached[name].bit_length() - 1]


def _all_stand(names, contents):
    for name in names:
        if name not in contents:
            return False
    return True


def _wrong_word(table, contents, edition, deed):
    """The word with which the DEED of an EDITION on parts with these CONTENTs is refused; None if it can be done."""
    if not is_whole(edition, 1, table.kinds[-1][EDITION]):
        return "edition"
    if not _is_deed(deed):
        return "form"
    word, name = deed[0], deed[1]
    if name not in table.reached or _kind_of(table, name)[EDITION] > edition:
        return "unknown"
    is_source = name in table.sources
    if word == "set":
        return None if is_source else "made"
    if word == "drop":
        return None if name in contents else "lacks"
    if is_source:
        return "source"
    if name in contents:
        return "stands"
    # The last one of these is the KIND itself.
    below = names_of(table.reached, table.reached[name])[:-1]
    return None if _all_stand(below, contents) else "lacks"


def _bring_up_to_date(table, contents, edition):
    """Makes anew what the program of an EDITION knows, or lets it leave."""
    for kind in table.kinds:
        name = kind[NAME]
        if kind[EDITION] > edition:
            break
        if kind[BASES] and name in contents:
            if _all_stand(kind[BASES], contents):
                contents[name] = fresh_content(table, contents, name)
            else:
                del contents[name]


def _lose_marked(table, contents, edition, letter):
    """Lets all parts leave that the program of an EDITION does not know and that have a LETTER in their MARKs."""
    lost = {}
    for kind in table.kinds:
        if kind[EDITION] > edition and letter in kind[MARK] and kind[NAME] in contents:
            lost[kind[NAME]] = contents.pop(kind[NAME])
    return lost


def _do(table, contents, edition, deed):
    """Does a DEED that can be done: changes the CONTENTs and returns a dict, in order, of those that are LOST."""
    word, name = deed[0], deed[1]
    if word == "set":
        if name in contents and contents[name] == deed[2]:
            return {}
        contents[name] = deed[2]
    elif word == "make":
        contents[name] = fresh_content(table, contents, name)
    else:
        del contents[name]
    _bring_up_to_date(table, contents, edition)
    return _lose_marked(table, contents, edition, _kind_of(table, name)[LETTER])


def _in_vain(table, ahead, lost, behind):
    """The NAMEs of the LOST parts that are LOST IN VAIN, by the CONTENTs ahead of the deed and behind it."""
    if not lost:
        return ()
    before = current_bits(table.reached, ahead, -1)
    return tuple([name for name in back_as_current(table, lost, behind) if table.reached[name] & ~before == 0])


def done(layout, edition, file, deed):
    """The FILE behind a DEED of the program of an EDITION, the NAMEs LOST and those of them LOST IN VAIN."""
    table = Table(layout)
    ahead = need_parts(table.reached, table.roots, file)
    word = _wrong_word(table, ahead, edition, deed)
    if word is not None:
        raise BadDeed(word)
    behind = dict(ahead)
    lost = _do(table, behind, edition, deed)
    return file_of(table, behind), tuple(lost), _in_vain(table, ahead, lost, behind)


def _play(table, row):
    """The CONTENTs that a ROW leaves; BadRow of what is none."""
    if not isinstance(row, tuple) or len(row) > MOST_STEPS:
        raise BadRow(())
    contents = {}
    for at, step in enumerate(row):
        if not isinstance(step, tuple) or len(step) != 2:
            raise BadRow((at,))
        edition, deed = step
        word = _wrong_word(table, contents, edition, deed)
        if word is not None:
            raise BadRow((at, word))
        _do(table, contents, edition, deed)
    return contents


def need_row(layout, thing):
    """The thing itself, if it is a ROW of the LAYOUT."""
    _play(Table(layout), thing)
    return thing


def played(layout, row):
    """The FILE that a ROW leaves."""
    table = Table(layout)
    return file_of(table, _play(table, row))
