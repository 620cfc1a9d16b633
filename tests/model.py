"""What the document says of LAYOUTs, FILEs and DEEDs, word by word and slowly: the program is compared with it.

Nothing of the package is used here. A FILE is a dict from NAMEs to CONTENTs, unless it is told.
"""

import functools
import itertools

NAME, EDITION, BASES, LETTER, MARK = range(5)


def kind_of(layout, name):
    for kind in layout:
        if kind[NAME] == name:
            return kind
    return None


def order_of(layout):
    return [kind[NAME] for kind in layout]


@functools.lru_cache(maxsize=100000)
def beneath(layout, name):
    """[3]"""
    bases = set(kind_of(layout, name)[BASES])
    return bases.union(*[beneath(layout, base) for base in bases])


@functools.lru_cache(maxsize=100000)
def sources(layout, name):
    """[3]"""
    return [other for other in order_of(layout) if other in beneath(layout, name) and not kind_of(layout, other)[BASES]]


def is_older(layout, name, other):
    """[3]"""
    return kind_of(layout, name)[EDITION] < kind_of(layout, other)[EDITION]


def current_names(layout, file):
    """[5]"""
    names = set()
    for name, _, bases, _, _ in layout:
        if name in file and names.issuperset(bases):
            if not bases or list(file[name]) == [file[source] for source in sources(layout, name)]:
                names.add(name)
    return names


def is_sound(layout, file):
    """[5]"""
    return len(current_names(layout, file)) == len(file)


def told(layout, file):
    """The FILE as a tuple of parts."""
    return tuple([(name, file[name]) for name in order_of(layout) if name in file])


def word_of(layout, edition, file, deed):
    """[7], of a deed that is one by its form."""
    if not 1 <= edition <= layout[-1][EDITION]:
        return "edition"
    word, name = deed[:2]
    kind = kind_of(layout, name)
    if kind is None or kind[EDITION] > edition:
        return "unknown"
    if word == "set" and kind[BASES]:
        return "made"
    if word == "make" and not kind[BASES]:
        return "source"
    if word == "make" and name in file:
        return "stands"
    if word == "make" and not all([other in file for other in beneath(layout, name)]):
        return "lacks"
    if word == "drop" and name not in file:
        return "lacks"
    return None


def done(layout, edition, file, deed):
    """[6] and [7]: the FILE behind a deed that can be done, what is LOST, and what is LOST IN VAIN."""
    word, name = deed[:2]
    if word == "set" and file.get(name) == deed[2]:
        return dict(file), (), ()
    behind = dict(file)
    if word == "set":
        behind[name] = deed[2]
    elif word == "make":
        behind[name] = tuple([behind[source] for source in sources(layout, name)])
    else:
        del behind[name]
    for kind in layout:
        if kind[EDITION] <= edition and kind[BASES] and kind[NAME] in behind:
            if all([base in behind for base in kind[BASES]]):
                behind[kind[NAME]] = tuple([behind[source] for source in sources(layout, kind[NAME])])
            else:
                del behind[kind[NAME]]
    letter = kind_of(layout, name)[LETTER]
    lost = [kind[NAME] for kind in layout
            if kind[NAME] in behind and kind[EDITION] > edition and letter in kind[MARK]]
    parts = {other: behind.pop(other) for other in lost}
    vain = []
    for other in lost:
        back = dict(behind)
        back[other] = parts[other]
        if other in current_names(layout, file) and other in current_names(layout, back):
            vain.append(other)
    return behind, tuple(lost), tuple(vain)


def steps_from(layout, file, contents=(0, 1)):
    """All STEPs that can be done on a FILE, if sources get no other CONTENTs than these."""
    for edition in range(1, layout[-1][EDITION] + 1):
        for name in order_of(layout):
            for deed in [("set", name, content) for content in contents] + [("make", name), ("drop", name)]:
                if word_of(layout, edition, file, deed) is None:
                    yield edition, deed


def fewest_steps(layouts, is_wanted, most):
    """How many STEPs a shortest ROW has that is one of all these LAYOUTs and whose last STEP does what is wanted.

    All ROWs are gone through, one STEP more each time, but each FILE is gone on from only once. is_wanted is asked of
    the FILEs behind the last STEP and of what is LOST IN VAIN in it. None if no ROW of most STEPs does it.
    """
    seen = {tuple([()] * len(layouts))}
    last = list(seen)
    for many in range(1, most + 1):
        behind = []
        for state in last:
            files = [dict(file) for file in state]
            for edition, deed in steps_from(layouts[0], files[0]):
                if any([word_of(layout, edition, file, deed) for layout, file in zip(layouts, files)]):
                    continue
                results = [done(layout, edition, file, deed) for layout, file in zip(layouts, files)]
                if is_wanted([result[0] for result in results], [result[2] for result in results]):
                    return many
                state_behind = tuple([told(layout, result[0]) for layout, result in zip(layouts, results)])
                if state_behind not in seen:
                    seen.add(state_behind)
                    behind.append(state_behind)
        last = behind
    return None


def watches(layout, name, other):
    """[10]"""
    return is_older(layout, other, name) and kind_of(layout, other)[LETTER] in kind_of(layout, name)[MARK]


def pairs(layout):
    return list(itertools.product(order_of(layout), repeat=2))


def gaps(layout):
    """[10]"""
    return [(u, k) for u, k in pairs(layout) if is_older(layout, k, u) and not watches(layout, u, k)
            and (k in beneath(layout, u) or any([watches(layout, b, k) for b in beneath(layout, u)]))]


def wastes(layout):
    """[10]"""
    return [(u, k) for u, k in pairs(layout) if watches(layout, u, k) and k not in beneath(layout, u)]


def cost(layout, name, other):
    """[11]"""
    return 2 + len(beneath(layout, name) | beneath(layout, other))


def with_marks(layout, marks):
    return tuple([kind[:MARK] + (mark,) for kind, mark in zip(layout, marks)])


def all_marks(layout):
    """The LAYOUT with any MARKs of those LETTERs that are LETTERs of its KINDs."""
    letters = sorted({kind[LETTER] for kind in layout})
    marks = ["".join(some) for many in range(len(letters) + 1) for some in itertools.combinations(letters, many)]
    for choice in itertools.product(marks, repeat=len(layout)):
        yield with_marks(layout, choice)


def splits(layout):
    """[14]"""
    return [(u, letter) for u in order_of(layout) for letter in "abcdefghijklmnopqrstuvwxyz"
            if any([is_older(layout, k, u) and kind_of(layout, k)[LETTER] == letter for k in beneath(layout, u)])
            and any([is_older(layout, k, u) and kind_of(layout, k)[LETTER] == letter
                     for k in order_of(layout) if k not in beneath(layout, u)])]


def column(layout, name):
    """[15]"""
    newer = [other for other in order_of(layout)[::-1] if is_older(layout, name, other)]
    return "".join(["1" if watches(layout, other, name) else "0" for other in newer])


def chosen(one, other, base):
    """[16]: whether what is merged of three things is one of them, and which."""
    if one == other or other == base:
        return True, one
    if one == base:
        return True, other
    return False, None


def joined(layout, edition, base, one, other):
    """[16], ahead of what leaves: the FILE, or the NAME of a Clash."""
    file = {}
    for name, of, bases, _, _ in layout:
        if bases and of <= edition:
            _, stands = chosen(name in one, name in other, name in base)
            if stands and all([other_name in file for other_name in bases]):
                file[name] = tuple([file[source] for source in sources(layout, name)])
            continue
        found, content = chosen(one.get(name), other.get(name), base.get(name))
        if not found and not bases:
            return name
        if found and content is not None:
            file[name] = content
    return file


def causes(layout, edition, file, side):
    """[16]: the CAUSEs against a side."""
    return [name for name, of, _, _, _ in layout if file.get(name) != side.get(name)
            and (of > edition or all([file.get(under) == side.get(under) for under in beneath(layout, name)]))]


def merged(layout, edition, base, one, other):
    """[16]: the FILE, what is LOST, and what is LOST IN VAIN; or the NAME of a Clash."""
    file = joined(layout, edition, base, one, other)
    if isinstance(file, str):
        return file
    sides = {}
    for side, opposite in ((one, other), (other, one)):
        against = causes(layout, edition, file, side)
        for name, of, _, _, mark in layout:
            if of > edition and name in side and opposite.get(name) != side[name]:
                if opposite.get(name) == base.get(name):
                    if any([kind_of(layout, cause)[LETTER] in mark for cause in against if cause != name]):
                        sides[name] = side
    left = {name: content for name, content in file.items() if name not in sides}
    lost = tuple([name for name in order_of(layout) if name in sides])
    vain = [name for name in lost if name in current_names(layout, sides[name])
            and name in current_names(layout, {**left, name: sides[name][name]})]
    return left, lost, tuple(vain)


def minds(layout, name, other):
    """[17]"""
    return name != other and kind_of(layout, other)[LETTER] in kind_of(layout, name)[MARK]


def is_late(layout, name):
    return kind_of(layout, name)[EDITION] >= 2


def is_merge_safe(layout):
    """[17], the fact."""
    return all([minds(layout, u, k) for u, k in pairs(layout) if is_late(layout, u) and u != k and (
        k in beneath(layout, u)
        or any([is_late(layout, b) and minds(layout, b, k) for b in beneath(layout, u)]))])


def is_merge_sparing(layout):
    """[17], the fact."""
    return all([k in beneath(layout, u) for u, k in pairs(layout) if is_late(layout, u) and minds(layout, u, k)])


def all_files(layout, contents=(0, 1)):
    """All FILEs, as dicts, whose numbers are none but these."""
    choices = []
    for name, _, bases, _, _ in layout:
        if bases:
            choices.append([None] + list(itertools.product(contents, repeat=len(sources(layout, name)))))
        else:
            choices.append([None] + list(contents))
    for choice in itertools.product(*choices):
        yield {name: content for name, content in zip(order_of(layout), choice) if content is not None}


def mergings(layout):
    """All EDITIONs, BASEs, ONEs and OTHERs of small contents, and what is merged of them, but for Clashes."""
    files = list(all_files(layout))
    for edition in range(1, layout[-1][EDITION] + 1):
        for base, one, other in itertools.product(files, repeat=3):
            result = merged(layout, edition, base, one, other)
            if not isinstance(result, str):
                yield one, other, result


def with_all_beneath(layout, names):
    return set(names).union(*[beneath(layout, name) for name in names])


def fits(layout, names):
    """[19]"""
    inside = with_all_beneath(layout, names)
    return not any([kind_of(layout, one)[LETTER] == kind_of(layout, other)[LETTER]
                    for one in inside for other in order_of(layout) if other not in inside])


def widened_sets(layout, names):
    """[20]: all sets, as frozensets, that have what the WIDENED set has to have."""
    order = order_of(layout)
    for many in range(len(order) + 1):
        for some in itertools.combinations(order, many):
            letters = {kind_of(layout, name)[LETTER] for name in some}
            if set(names) <= set(some) and with_all_beneath(layout, some) == set(some):
                if all([name in some for name in order if kind_of(layout, name)[LETTER] in letters]):
                    yield frozenset(some)


def is_sight(layout, thing):
    """[21], by its form."""
    if not isinstance(thing, tuple) or len(thing) != 3 or thing[0] not in order_of(layout):
        return False
    name, stayed, left = thing
    newer = [other for other in order_of(layout) if is_older(layout, name, other)]
    return all([isinstance(some, tuple) and some == tuple([other for other in newer if other in some])
                for some in (stayed, left)]) and not set(stayed) & set(left)


def seen(layout, log):
    """[21]: a dict from pairs of a NAME and a LETTER to whether the LETTER is in the MARK, as the LOG tells."""
    facts = {}
    for name, stayed, left in log:
        letter = kind_of(layout, name)[LETTER]
        facts.update({(other, letter): False for other in stayed})
        facts.update({(other, letter): True for other in left})
    return facts


def first_wrong_sight(layout, log):
    """[21]: the number of the first SIGHT that is none or contradicts those ahead; None if there is none."""
    for at, sight in enumerate(log):
        if not is_sight(layout, sight):
            return at
        ahead, new = seen(layout, log[:at]), seen(layout, log[at:at + 1])
        if any([ahead.get(pair, new[pair]) != new[pair] for pair in new]):
            return at
    return None


def open_letters(layout, log):
    """[22]"""
    facts = seen(layout, log)
    return "".join(sorted({kind_of(layout, k)[LETTER] for u, k in pairs(layout)
                           if is_older(layout, k, u) and (u, kind_of(layout, k)[LETTER]) not in facts}))


def answer(layout, marks, name):
    """[22]: the SIGHT that a question gets if the MARKs are these."""
    letter = kind_of(layout, name)[LETTER]
    newer = [other for other in order_of(layout) if is_older(layout, name, other)]
    return (name, tuple([other for other in newer if letter not in marks[other]]),
            tuple([other for other in newer if letter in marks[other]]))
