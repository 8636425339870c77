"""Texts: webs and programs, written line by line."""

from lotmarks.checks import is_name_list
from lotmarks.errors import BadText
from lotmarks.programs import Program
from lotmarks.webs import Web


def written(thing):
    """The text of a web or a program."""
    if isinstance(thing, Web):
        rows = [("web",)] + [(cell, *thing.sources(cell)) for cell in thing]
    else:
        rows = [("program",)] + list(thing.lots)
    return "".join([" ".join(row) + "\n" for row in rows])


def read(text):
    """The web or the program that has a text."""
    # Behind the last line feed there is nothing, or a line that lacks its own.
    *lines, rest = text.split("\n")
    wrong = first_wrong_line(lines)
    if wrong is None and (rest != "" or lines == [] or lines == ["web"]):
        wrong = len(lines) + 1
    if wrong is not None:
        raise BadText(wrong)
    rows = [line.split(" ") for line in lines[1:]]
    if lines[0] == "program":
        return Program(rows)
    return web_of(rows)


def first_wrong_line(lines):
    """The number of the first line that can't stand where it does, or None."""
    cells = []
    for number, line in enumerate(lines, start=1):
        names = line.split(" ")
        if number == 1:
            stands = line in ("web", "program")
        elif lines[0] == "web":
            stands = names[0] not in cells and is_name_list(names[:1]) and is_name_list(names[1:])
            cells.append(names[0])
        else:
            stands = is_name_list(names) and names == sorted(names)
        if not stands:
            return number
    return None


def web_of(rows):
    """The web with these rows of a cell and its sources; BadText if a source is no cell."""
    cells = [row[0] for row in rows]
    for index, row in enumerate(rows):
        if not all([name in cells for name in row]):
            # The line with the word stands ahead of the rows, and lines are counted from 1.
            raise BadText(index + 2)
    return Web([(row[0], row[1:]) for row in rows])
