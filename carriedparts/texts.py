"""Texts of LAYOUTs, FILEs and ROWs: rows of words."""

from carriedparts.errors import BadText
from carriedparts.files import MOST_CONTENT, Table, need_file, need_parts
from carriedparts.layouts import IS_LETTER, LONGEST_NAME, MOST_BASES, MOST_EDITION
from carriedparts.layouts import are_marks, has_letters_alone, need_layout
from carriedparts.programs import need_row


def _row_of_kind(kind):
    name, edition, bases, letter, mark = kind
    return " ".join(["kind", name, str(edition), letter, mark if mark else "-", *bases])


def _row_of_part(part):
    name, content = part
    numbers = content if isinstance(content, tuple) else (content,)
    return " ".join(["part", name] + [str(number) for number in numbers])


def _row_of_step(step):
    edition, deed = step
    return " ".join([str(edition), deed[0], deed[1]] + [str(number) for number in deed[2:]])


def layout_text(layout):
    """The text of a LAYOUT."""
    return "\n".join([_row_of_kind(kind) for kind in need_layout(layout)])


def file_text(layout, file):
    """The text of a FILE."""
    return "\n".join([_row_of_part(part) for part in need_file(layout, file)])


def row_text(layout, row):
    """The text of a ROW."""
    return "\n".join([_row_of_step(step) for step in need_row(layout, row)])


def _number_of(word, most):
    """The number from 0 to most that a word tells; -1 if it tells none."""
    # Longer words are not asked for their number: Python refuses very long ones.
    if not word.isdigit() or not word.isascii() or len(word) > len(str(most)):
        return -1
    number = int(word)
    return number if str(number) == word and number <= most else -1


def _is_name(word):
    return len(word) <= LONGEST_NAME and has_letters_alone(word)


def _are_bases(words):
    if len(words) > MOST_BASES or len(set(words)) < len(words):
        return False
    return all([_is_name(word) for word in words])


def _kind_of(row):
    """The KIND of which a row tells; None if there is none by its own form."""
    words = row.split(" ")
    if len(words) < 5 or words[0] != "kind":
        return None
    name, edition, letter, mark = words[1], _number_of(words[2], MOST_EDITION), words[3], words[4]
    bases = words[5:]
    if not _is_name(name) or edition < 1 or letter not in IS_LETTER or not _are_bases(bases):
        return None
    if mark == "-":
        return name, edition, tuple(bases), letter, ""
    # An empty word is no MARK, though the empty string is one.
    if mark == "" or not are_marks([mark]):
        return None
    return name, edition, tuple(bases), letter, mark


def _part_of(table, row):
    """The part of a KIND of the LAYOUT of which a row tells; None if there is none."""
    words = row.split(" ")
    if len(words) < 3 or words[0] != "part" or words[1] not in table.reached:
        return None
    name = words[1]
    numbers = tuple([_number_of(word, MOST_CONTENT) for word in words[2:]])
    sources = [bit for bit in table.sources.values() if bit & table.reached[name]]
    if -1 in numbers or len(numbers) != len(sources):
        return None
    return name, (numbers[0] if name in table.sources else numbers)


def step_of(row):
    """The STEP of which a row tells, whether it can be done or not; None if there is none."""
    words = row.split(" ")
    if len(words) < 3 or not _is_name(words[2]):
        return None
    edition = _number_of(words[0], MOST_EDITION)
    word, name = words[1], words[2]
    if edition < 1:
        return None
    if word == "set" and len(words) == 4:
        number = _number_of(words[3], MOST_CONTENT)
        return None if number < 0 else (edition, (word, name, number))
    if (word == "make" or word == "drop") and len(words) == 3:
        return edition, (word, name)
    return None


def _need_rows(text):
    """The rows of a text; the empty string has none."""
    if not isinstance(text, str):
        raise BadText(())
    return text.split("\n") if text else []


def _need_all(things):
    """The things as a tuple; None stands for a row that tells of nothing."""
    for at, thing in enumerate(things):
        if thing is None:
            raise BadText((at,))
    return tuple(things)


def read_layout(text):
    """The LAYOUT of a text."""
    # Here the empty string has one row, an empty one.
    rows = _need_rows(text)
    return need_layout(_need_all([_kind_of(row) for row in rows] if rows else [None]))


def read_file(layout, text):
    """The FILE of a LAYOUT of a text."""
    table = Table(layout)
    file = _need_all([_part_of(table, row) for row in _need_rows(text)])
    need_parts(table.reached, table.roots, file)
    return file


def read_row(layout, text):
    """The ROW of a LAYOUT of a text."""
    need_layout(layout)
    return need_row(layout, _need_all([step_of(row) for row in _need_rows(text)]))
