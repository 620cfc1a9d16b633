"""Releases: the versions of a LAYOUT, each of which has the KINDs of one further EDITION."""

from carriedparts.errors import BadQuestion, Gap, Missing, Waste
from carriedparts.judging import gaps, wastes
from carriedparts.layouts import EDITION, NAME, is_whole, need_layout


def _version(versions, number):
    """The LAYOUT with a number among the versions."""
    if not is_whole(number, 0, len(versions) - 1):
        raise Missing(number)
    return versions[number]


class Releases:
    """The versions of a LAYOUT; version 0 is what it is made with."""

    def __init__(self, layout):
        self._versions = [need_layout(layout)]

    def release(self, *kinds, sparing=False):
        """Adds a version with further KINDs, which has to be SAFE and, if asked for, SPARING; returns its number."""
        ahead = self._versions[-1]
        layout = need_layout(ahead + kinds)
        if not kinds:
            raise BadQuestion("a version without further KINDs is none")
        for kind in kinds:
            if kind[EDITION] != ahead[-1][EDITION] + 1:
                raise BadQuestion("all KINDs of a version have the EDITION behind that of the last version")
        found = list(gaps(layout))
        if found:
            raise Gap(found[0][0], found[0][1])
        found = list(wastes(layout))
        if sparing and found:
            raise Waste(found[0][0], found[0][1])
        self._versions.append(layout)
        return len(self._versions) - 1

    @property
    def last(self):
        """The LAYOUT of the last version."""
        return self._versions[-1]

    def undo(self):
        """Takes the last version away; tells whether there was one behind version 0."""
        if len(self._versions) == 1:
            return False
        self._versions.pop()
        return True

    def carried(self, number, other):
        """The NAMEs, in order, of the KINDs of version other that no program of version number knows."""
        edition = _version(self._versions, number)[-1][EDITION]
        return tuple([kind[NAME] for kind in _version(self._versions, other) if kind[EDITION] > edition])

    def __len__(self):
        return len(self._versions)

    def __getitem__(self, number):
        return _version(self._versions, number)

    def __iter__(self):
        raise TypeError("Releases are not iterated over; their numbers are")
