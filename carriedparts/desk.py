"""The desk: a Work that is told in words what to do."""

from carriedparts.errors import BadDeed
from carriedparts.judging import gaps, wastes
from carriedparts.letters import unlike
from carriedparts.texts import file_text, read_layout, step_of
from carriedparts.works import Work


def _words(words):
    return " ".join(words) if words else "none"


class Desk:
    """A desk with a Work of the LAYOUT that a text tells."""

    def __init__(self, text):
        self._work = Work(read_layout(text))

    @property
    def work(self):
        """The very Work."""
        return self._work

    def _do(self, edition, deed):
        try:
            lost = self._work.do(edition, *deed)
        except BadDeed:
            return "no"
        return " ".join(["lost", *lost]) if lost else "done"

    def _told(self):
        """The text of the FILE in one row."""
        text = file_text(self._work.layout, self._work.file)
        return text.replace("\n", "; ") if text else "empty"

    def say(self, line):
        """Does what a line says, or answers what it asks."""
        if not isinstance(line, str):
            return "no"
        step = step_of(line)
        if step is not None:
            return self._do(step[0], step[1])
        if line == "undo":
            return "done" if self._work.undo() else "nothing"
        if line == "redo":
            return "done" if self._work.redo() else "nothing"
        if line == "file":
            return self._told()
        if line == "stale":
            return _words(self._work.stale())
        if line == "gaps":
            return _words([f"{name}-{other}" for name, other in gaps(self._work.layout)])
        if line == "wastes":
            return _words([f"{name}-{other}" for name, other in wastes(self._work.layout)])
        if line == "letters":
            return str(len(unlike(self._work.layout)))
        return "no"
