"""Works: FILEs at work, whose deeds can be taken back, tried, and done apart and merged."""

from carriedparts.errors import BadQuestion, Missing
from carriedparts.files import stale
from carriedparts.layouts import need_layout
from carriedparts.merging import merged
from carriedparts.programs import done


class Trial:
    """For one with statement: behind its block a Work is as it was when the block began."""

    def __init__(self, held):
        self._held = held
        self._file = ()
        self._past = []
        self._future = []

    def __enter__(self):
        held = self._held
        self._file = held._file
        # The Work goes on changing its own lists.
        self._past = list(held._past)
        self._future = list(held._future)
        return held

    def __exit__(self, kind, value, trace):
        self._held._file = self._file
        self._held._past = self._past
        self._held._future = self._future


class Work:
    """A file at work, empty at first.

    What was done is kept as tuples of the FILE ahead, the FILE behind, and the losses: in _past what is not taken
    back, in _future what can be done again, the next one last.
    """

    def __init__(self, layout):
        self._layout = need_layout(layout)
        self._file = ()
        self._past = []
        self._future = []
        self._parent = None
        self._base = ()

    @property
    def file(self):
        """The FILE."""
        return self._file

    @property
    def layout(self):
        """The LAYOUT."""
        return self._layout

    @property
    def losses(self):
        """The list of the pairs (NAME, IN VAIN) of all that was LOST by what is not taken back."""
        return [pair for deed in self._past for pair in deed[2]]

    def _take(self, behind, lost, vain):
        """Takes what a do or merge has come to, and tells what is LOST."""
        self._past.append((self._file, behind, tuple([(name, name in vain) for name in lost])))
        self._future = []
        self._file = behind
        return lost

    def do(self, edition, *deed):
        """Does a DEED of the program of an EDITION, and tells the NAMEs that are LOST."""
        behind, lost, vain = done(self._layout, edition, self._file, deed)
        return self._take(behind, lost, vain)

    def undo(self):
        """Takes back the last do or merge that is not taken back; tells whether there was one."""
        if not self._past:
            return False
        deed = self._past.pop()
        self._future.append(deed)
        self._file = deed[0]
        return True

    def redo(self):
        """Does again what was taken back last, if nothing was done since; tells whether there was such a thing."""
        if not self._future:
            return False
        deed = self._future.pop()
        self._past.append(deed)
        self._file = deed[1]
        return True

    def stale(self):
        """The NAMEs, in order, of the parts that are not CURRENT."""
        return stale(self._layout, self._file)

    def fork(self):
        """A new Work that goes on from this FILE, and can be merged with this one."""
        other = Work(self._layout)
        other._file = self._file
        other._base = self._file
        other._parent = self
        return other

    def merge(self, edition, other):
        """Merges what was done at a fork of this Work into it, and tells the NAMEs that are LOST."""
        if not isinstance(other, Work) or other._parent is not self:
            raise BadQuestion("what is to be merged was not forked from this Work")
        behind, lost, vain = merged(self._layout, edition, other._base, self._file, other._file)
        return self._take(behind, lost, vain)

    def trial(self):
        """An object for one with statement, behind whose block the Work is as it was when the block began."""
        return Trial(self)

    def __contains__(self, name):
        return isinstance(name, str) and name in dict(self._file)

    def __getitem__(self, name):
        contents = dict(self._file)
        if not isinstance(name, str) or name not in contents:
            raise Missing(name)
        return contents[name]

    def __iter__(self):
        raise TypeError("a Work is not iterated over; its file is")

    def __len__(self):
        return len(self._file)

    def __eq__(self, other):
        return isinstance(other, Work) and self._layout == other._layout and self._file == other._file


def tried(work, call):
    """What a function returns for a Work that is, behind the call, as it was before."""
    with work.trial() as held:
        return call(held)
