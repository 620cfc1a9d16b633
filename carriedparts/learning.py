"""Learning: what follows of the MARKs of a LAYOUT from what programs were seen to do, and what is left to be asked."""

from carriedparts.bits import letter_bits, older_bits
from carriedparts.errors import BadLog
from carriedparts.layouts import LETTER, MARK, NAME, reached_bits

MOST_SIGHTS = 200


class Facts:
    """What follows from a LOG: the bits of the KINDs whose MARKs have a LETTER, and of those whose have not."""

    def __init__(self, layout):
        self.having = {letter: 0 for letter in letter_bits(layout)}
        self.lacking = {letter: 0 for letter in letter_bits(layout)}


def _newer_bits(layout):
    """A list of the KINDs than which each KIND is OLDER."""
    told = [0] * len(layout)
    for at, older in enumerate(older_bits(layout)):
        for other in range(older.bit_length()):
            told[other] |= 1 << at
    return told


def _named_bits(reached, newer, thing):
    """The bits of KINDs that a tuple names in order, all of them among the newer ones; None if it does not."""
    if not isinstance(thing, tuple):
        return None
    named = 0
    for name in thing:
        # What is no string is not looked up: it may be no key, or claim to be equal to any NAME.
        if not isinstance(name, str) or name not in reached:
            return None
        own = 1 << reached[name].bit_length() - 1
        if own <= named or not own & newer:
            return None
        named |= own
    return named


def _add_sight(facts, letter, stayed, left):
    """Adds what follows from a SIGHT, and tells whether it contradicts what is known so far."""
    if left & facts.lacking[letter] or stayed & facts.having[letter]:
        return False
    facts.having[letter] |= left
    facts.lacking[letter] |= stayed
    return True


def _take_sight(layout, reached, newer, facts, thing):
    """Whether a thing is a SIGHT that does not contradict the facts; what follows from it is added to these."""
    if not isinstance(thing, tuple) or len(thing) != 3:
        return False
    name = thing[0]
    if not isinstance(name, str) or name not in reached:
        return False
    at = reached[name].bit_length() - 1
    stayed = _named_bits(reached, newer[at], thing[1])
    left = _named_bits(reached, newer[at], thing[2])
    if stayed is None or left is None or stayed & left:
        return False
    return _add_sight(facts, layout[at][LETTER], stayed, left)


def _facts_of(layout, thing):
    """What follows from a LOG; BadLayout, and BadLog of what is none."""
    reached = reached_bits(layout)
    if not isinstance(thing, tuple) or len(thing) > MOST_SIGHTS:
        raise BadLog(())
    facts = Facts(layout)
    newer = _newer_bits(layout)
    for at, sight in enumerate(thing):
        if not _take_sight(layout, reached, newer, facts, sight):
            raise BadLog((at,))
    return facts


def need_log(layout, thing):
    """The thing itself, if it is a LOG of the LAYOUT that some MARKs allow."""
    _facts_of(layout, thing)
    return thing


def _letters_at(by_letter, at):
    """The LETTERs, ascending, in whose bits that of the KIND with a number is set."""
    return "".join([letter for letter, bits in by_letter.items() if bits >> at & 1])


def learned(layout, log):
    """A dict from the NAMEs, in order, to the LETTERs that are in the MARK and those that are not, by the LOG."""
    facts = _facts_of(layout, log)
    told = {}
    for at, kind in enumerate(layout):
        told[kind[NAME]] = (_letters_at(facts.having, at), _letters_at(facts.lacking, at))
    return told


def _open_numbers(layout, log):
    """A dict from the OPEN LETTERs to the numbers of the first KINDs in order that have them, in order of these."""
    facts = _facts_of(layout, log)
    newer = _newer_bits(layout)
    told = {}
    asked = {}
    for at, kind in enumerate(layout):
        letter = kind[LETTER]
        # Of the KINDs with a LETTER the first one is OLDER than all KINDs than which any of them is OLDER.
        if letter not in asked and newer[at] & ~facts.having[letter] & ~facts.lacking[letter]:
            told[letter] = at
        asked[letter] = True
    return told


def open_letters(layout, log):
    """The LETTERs, ascending, that the LOG leaves OPEN."""
    return "".join(sorted(_open_numbers(layout, log)))


def questions(layout, log):
    """The NAMEs, in order, of the fewest KINDs deeds on which settle all that the LOG leaves OPEN."""
    return tuple([layout[at][NAME] for at in _open_numbers(layout, log).values()])


def agrees(layout, log):
    """Whether the LOG is true of the MARKs of the LAYOUT."""
    facts = _facts_of(layout, log)
    for at, kind in enumerate(layout):
        mark = kind[MARK]
        if any([letter not in mark for letter in _letters_at(facts.having, at)]):
            return False
        if any([letter in mark for letter in _letters_at(facts.lacking, at)]):
            return False
    return True
