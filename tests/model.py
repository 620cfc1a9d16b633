"""What the document says of LAYOUTs, FILEs and DEEDs, word by word and slowly: the program is compared with it.

Nothing of the package is used here. A FILE is a dict from NAMEs to CONTENTs, unless it is told.
"""

import functools
import itertools

NAME, EDITION, BASES, LETTER, MARK = range(5)


def kind_of(layout, name):
    for kind in layout:
        if kind[NAME] == name:
            return kind
    return None


def order_of(layout):
    return [kind[NAME] for kind in layout]


@functools.lru_cache(maxsize=100000)
def beneath(layout, name):
    """[3]"""
    bases = set(kind_of(layout, name)[BASES])
    return bases.union(*[beneath(layout, base) for base in bases])


@functools.lru_cache(maxsize=100000)
def sources(layout, name):
    """[3]"""
    return [other for other in order_of(layout) if other in beneath(layout, name) and not kind_of(layout, other)[BASES]]


def is_older(layout, name, other):
    """[3]"""
    return kind_of(layout, name)[EDITION] < kind_of(layout, other)[EDITION]


def current_names(layout, file):
    """[5]"""
    names = set()
    for name, _, bases, _, _ in layout:
        if name in file and names.issuperset(bases):
            if not bases or list(file[name]) == [file[source] for source in sources(layout, name)]:
                names.add(name)
    return names


def is_sound(layout, file):
    """[5]"""
    return len(current_names(layout, file)) == len(file)


def told(layout, file):
    """The FILE as a tuple of parts."""
    return tuple([(name, file[name]) for name in order_of(layout) if name in file])


def word_of(layout, edition, file, deed):
    """[7], of a deed that is one by its form."""
    if not 1 <= edition <= layout[-1][EDITION]:
        return "edition"
    word, name = deed[:2]
    kind = kind_of(layout, name)
    if kind is None or kind[EDITION] > edition:
        return "unknown"
    if word == "set" and kind[BASES]:
        return "made"
    if word == "make" and not kind[BASES]:
        return "source"
    if word == "make" and name in file:
        return "stands"
    if word == "make" and not all([other in file for other in beneath(layout, name)]):
        return "lacks"
    if word == "drop" and name not in file:
        return "lacks"
    return None


def done(layout, edition, file, deed):
    """[6] and [7]: the FILE behind a deed that can be done, what is LOST, and what is LOST IN VAIN."""
    word, name = deed[:2]
    if word == "set" and file.get(name) == deed[2]:
        return dict(file), (), ()
    behind = dict(file)
    if word == "set":
        behind[name] = deed[2]
    elif word == "make":
        behind[name] = tuple([behind[source] for source in sources(layout, name)])
    else:
        del behind[name]
    for kind in layout:
        if kind[EDITION] <= edition and kind[BASES] and kind[NAME] in behind:
            if all([base in behind for base in kind[BASES]]):
                behind[kind[NAME]] = tuple([behind[source] for source in sources(layout, kind[NAME])])
            else:
                del behind[kind[NAME]]
    letter = kind_of(layout, name)[LETTER]
    lost = [kind[NAME] for kind in layout
            if kind[NAME] in behind and kind[EDITION] > edition and letter in kind[MARK]]
    parts = {other: behind.pop(other) for other in lost}
    vain = []
    for other in lost:
        back = dict(behind)
        back[other] = parts[other]
        if other in current_names(layout, file) and other in current_names(layout, back):
            vain.append(other)
    return behind, tuple(lost), tuple(vain)


def steps_from(layout, file, contents=(0, 1)):
    """All STEPs that can be done on a FILE, if sources get no other CONTENTs than these."""
    for edition in range(1, layout[-1][EDITION] + 1):
        for name in order_of(layout):
            for deed in [("set", name, content) for content in contents] + [("make", name), ("drop", name)]:
                if word_of(layout, edition, file, deed) is None:
                    yield edition, deed


def fewest_steps(layouts, is_wanted, most):
    """How many STEPs a shortest ROW has that is one of all these LAYOUTs and whose last STEP does what is wanted.

    All ROWs are gone through, one STEP more each time, but each FILE is gone on from only once. is_wanted is asked of
    the FILEs behind the last STEP and of what is LOST IN VAIN in it. None if no ROW of most STEPs does it.
    """
    seen = {tuple([()] * len(layouts))}
    last = list(seen)
    for many in range(1, most + 1):
        behind = []
        for state in last:
            files = [dict(file) for file in state]
            for edition, deed in steps_from(layouts[0], files[0]):
                if any([word_of(layout, edition, file, deed) for layout, file in zip(layouts, files)]):
                    continue
                results = [done(layout, edition, file, deed) for layout, file in zip(layouts, files)]
                if is_wanted([result[0] for result in results], [result[2] for result in results]):
                    return many
                state_behind = tuple([told(layout, result[0]) for layout, result in zip(layouts, results)])
                if state_behind not in seen:
                    seen.add(state_behind)
                    behind.append(state_behind)
        last = behind
    return None


def watches(layout, name, other):
    """[10]"""
    return is_older(layout, other, name) and kind_of(layout, other)[LETTER] in kind_of(layout, name)[MARK]


def pairs(layout):
    return list(itertools.product(order_of(layout), repeat=2))


def gaps(layout):
    """[10]"""
    return [(u, k) for u, k in pairs(layout) if is_older(layout, k, u) and not watches(layout, u, k)
            and (k in beneath(layout, u) or any([watches(layout, b, k) for b in beneath(layout, u)]))]


def wastes(layout):
    """[10]"""
    return [(u, k) for u, k in pairs(layout) if watches(layout, u, k) and k not in beneath(layout, u)]


def cost(layout, name, other):
    """[11]"""
    return 2 + len(beneath(layout, name) | beneath(layout, other))


def with_marks(layout, marks):
    return tuple([kind[:MARK] + (mark,) for kind, mark in zip(layout, marks)])


def all_marks(layout):
    """The LAYOUT with any MARKs of those LETTERs that are LETTERs of its KINDs."""
    letters = sorted({kind[LETTER] for kind in layout})
    marks = ["".join(some) for many in range(len(letters) + 1) for some in itertools.combinations(letters, many)]
    for choice in itertools.product(marks, repeat=len(layout)):
        yield with_marks(layout, choice)


def splits(layout):
    """[14]"""
    return [(u, letter) for u in order_of(layout) for letter in "abcdefghijklmnopqrstuvwxyz"
            if any([is_older(layout, k, u) and kind_of(layout, k)[LETTER] == letter for k in beneath(layout, u)])
            and any([is_older(layout, k, u) and kind_of(layout, k)[LETTER] == letter
                     for k in order_of(layout) if k not in beneath(layout, u)])]


def column(layout, name):
    """[15]"""
    newer = [other for other in order_of(layout)[::-1] if is_older(layout, name, other)]
    return "".join(["1" if watches(layout, other, name) else "0" for other in newer])
