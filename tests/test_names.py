"""Promise [3]: arguments by their names in any order, tuples and lists for one another, and results that are new."""

import inspect
import itertools
import unittest

from lotmarks import (
    books, changes, errors, partings, programs, races, rounds, rules, sweeps, tables, texts, versions, waves, webs,
)
from lotmarks.books import Book
from lotmarks.partings import Parting
from lotmarks.programs import Program
from lotmarks.rules import Rules
from lotmarks.waves import Piece
from lotmarks.webs import Web

MODULES = (books, changes, partings, programs, races, rounds, rules, sweeps, tables, texts, versions, waves, webs)
ROWS = [("b", ["a", "c"]), ("a", ["b", "a"]), ("c", [])]
WEB = Web(ROWS)
ONE = Program([["a"], ["b", "c"], ["a"], ["a", "b"]])
OTHER = Program([["c"], ["b"], ["a"]])
TABLES = {"b": [((0, 1), 1), ((1, 1), 1)], "a": [((1, 0), 1)], "c": [((), 1)]}
RULES = Rules(WEB, 2, TABLES)
BEGINNING = {"c": 1, "a": 0, "b": 1}
TABLE = {"b": [(1, 0), [3, 1]], "a": [[0, 0], (1, 1), [1, 2]], "c": [()]}
MARKS = {("b", "a"): "new"}
ACTS = [["read", "a", "b"], ("read", "c", "b"), ("write", "b"), ("write", "c")]
ARROWS = [("a", 1, "b"), ["b", 0, "a"]]
PIECE = Piece(["b", "a"], ARROWS)
WAVE = ("right", [["b"], ["a"]])

# The functions and classes that the interface lists.
INTERFACE = (
    "Web ring Program is_sweep reads kinds same depth ways needs needed idle parting Parting settles alike_at Rules rests "
    "first_unlike sinks Book is_table table_of lots_of program_of is_ring fewest_lots chain is_chain spans one_by_one "
    "least marks sweep_of how_many sweep_number number_of sure race_marks race_of races aside is_aside joined swapped "
    "dropped sweeps_seen Piece row wave waves_part written read".split()
)

# All functions of the interface, with arguments.
CALLS = [
    (webs.ring, {"web": WEB, "cells": ["a", "b"]}),
    (programs.is_sweep, {"web": WEB, "program": OTHER}),
    (versions.reads, {"web": WEB, "program": ONE}),
    (versions.kinds, {"web": WEB, "program": ONE}),
    (versions.same, {"web": WEB, "one": ONE, "other": OTHER}),
    (versions.depth, {"web": WEB, "program": ONE, "cell": "a"}),
    (versions.ways, {"web": WEB, "program": ONE, "begin": "b", "end": "a"}),
    (versions.needs, {"web": WEB, "program": ONE, "cell": "b"}),
    (versions.needed, {"web": WEB, "program": ONE}),
    (versions.idle, {"web": WEB, "program": Program([["c"], ["c"], ["a"]])}),
    (partings.parting, {"web": WEB, "one": ONE, "other": OTHER}),
    (rounds.settles, {"web": WEB, "program": Program([["c"]])}),
    (rounds.alike_at, {"web": WEB, "one": ONE, "other": ONE, "most": 3}),
    (rules.rests, {"rules": Rules(WEB, 2, {})}),
    (rules.first_unlike, {"rules": RULES, "one": ONE, "other": OTHER}),
    (rules.sinks, {"rules": RULES, "program": ONE}),
    (tables.is_table, {"web": WEB, "thing": TABLE}),
    (tables.table_of, {"web": WEB, "program": ONE}),
    (tables.lots_of, {"web": WEB, "table": tables.table_of(WEB, ONE)}),
    (tables.program_of, {"web": WEB, "table": tables.table_of(WEB, ONE)}),
    (tables.is_ring, {"web": WEB, "table": TABLE, "renewings": [("a", 1), ["b", 1]], "alone": True}),
    (tables.fewest_lots, {"web": WEB, "table": tables.table_of(WEB, ONE)}),
    (tables.chain, {"web": WEB, "table": tables.table_of(WEB, ONE)}),
    (tables.is_chain, {"web": WEB, "table": TABLE, "renewings": [("a", 1), ["b", 1]]}),
    (tables.spans, {"web": WEB, "table": tables.table_of(WEB, ONE), "n": 6}),
    (tables.one_by_one, {"web": WEB, "table": tables.table_of(WEB, OTHER)}),
    (tables.least, {"web": WEB, "program": ONE}),
    (sweeps.marks, {"web": WEB, "program": OTHER}),
    (sweeps.sweep_of, {"web": WEB, "told": MARKS}),
    (sweeps.how_many, {"web": WEB, "told": MARKS}),
    (sweeps.sweep_number, {"web": WEB, "k": 1, "told": MARKS}),
    (sweeps.number_of, {"web": WEB, "program": OTHER, "told": MARKS}),
    (sweeps.sure, {"web": WEB, "told": MARKS}),
    (races.race_marks, {"web": WEB, "cells": ["b", "c"], "acts": ACTS}),
    (races.race_of, {"web": WEB, "cells": ["c", "b", "a"], "told": MARKS}),
    (races.races, {"web": WEB, "cells": ["a", "b"]}),
    (races.aside, {"web": WEB, "cells": ["c", "a", "b"]}),
    (races.is_aside, {"web": WEB, "cells": ["c", "a", "b"], "kept": ["a"], "row": ["a", "b", "c"]}),
    (changes.joined, {"web": WEB, "program": OTHER, "i": 1}),
    (changes.swapped, {"web": WEB, "program": Program([["a"], ["c"]]), "i": 0}),
    (changes.dropped, {"web": WEB, "program": Program([["c"], ["c"]]), "i": 1, "cell": "c"}),
    (changes.sweeps_seen, {"rules": RULES, "beginning": BEGINNING, "end": {"b": 0, "a": 1, "c": 1}}),
    (waves.row, {"piece": PIECE, "n": 3}),
    (waves.wave, {"piece": PIECE, "pair": WAVE, "n": 3}),
    (waves.waves_part, {"piece": PIECE, "one": WAVE, "other": ["odd", (("a", "b"),)]}),
    (texts.written, {"thing": WEB}),
    (texts.read, {"text": texts.written(ONE)}),
]
CLASSES = [
    (Web, {"rows": ROWS}), (Program, {"lots": [["a", "b"], ["c"]]}), (Rules, {"web": WEB, "worths": 2, "tables": TABLES}),
    (Parting, {"rules": RULES, "beginning": BEGINNING, "cell": "a"}), (Book, {"web": WEB}),
    (Piece, {"cells": ["b", "a"], "arrows": ARROWS}),
]
METHODS = [
    (lambda: WEB, "sources", {"cell": "b"}), (lambda: WEB, "targets", {"cell": "a"}), (lambda: ONE, "times", {"n": 3}),
    (lambda: ONE, "renewings", {}), (lambda: ONE, "renewed", {}), (lambda: RULES, "table", {"cell": "b"}),
    (lambda: RULES, "tells", {"cell": "b", "read": [1, 1]}),
    (lambda: RULES, "run", {"program": ONE, "beginning": BEGINNING}),
    (lambda: book(), "hold", {"name": "z", "one": ONE, "other": OTHER}), (lambda: book(), "drop", {"name": "x"}),
    (lambda: book(), "state", {"name": "x"}), (lambda: book(), "names", {}),
    (lambda: book(), "do", {"deed": ["remove", "a"]}), (lambda: book(), "undo", {}), (lambda: book(), "again", {}),
    (lambda: book(), "deeds", {}),
]


def book():
    """A book with a pair, a deed that is done, and one that is taken back."""
    found = Book(Web([("c", ["a"]), ("a", []), ("b", ["a"])]))
    found.hold("x", ONE, OTHER)
    found.do(("sources", "b", ["b"]))
    found.do(("sources", "c", []))
    found.do(("sources", "b", []))
    found.undo()
    return found


def plain(thing):
    """What a caller sees of a thing, as lists of it and of its parts."""
    if isinstance(thing, (Web, Program, Rules, Piece, Parting, Book)):
        return [type(thing).__name__, [[key, plain(part)] for key, part in vars(thing).items()]]
    if isinstance(thing, dict):
        return ["dict", [[plain(key), plain(part)] for key, part in thing.items()]]
    if isinstance(thing, (list, tuple)):
        return [type(thing).__name__, [plain(part) for part in thing]]
    return [type(thing).__name__, thing]


def other_kind(thing):
    """A thing with tuples in the place of lists, and lists in the place of tuples; keys of dicts stay."""
    if isinstance(thing, dict):
        return {key: other_kind(part) for key, part in thing.items()}
    if isinstance(thing, (list, tuple)):
        return (list if isinstance(thing, tuple) else tuple)(other_kind(part) for part in thing)
    return thing


def spoil(thing):
    """Change all lists and dicts in a thing that was returned."""
    parts = list(thing.values()) if isinstance(thing, dict) else list(thing) if isinstance(thing, (list, tuple)) else []
    for part in parts:
        spoil(part)
    if isinstance(thing, (list, dict)):
        thing.clear()
        if isinstance(thing, list):
            thing.append("spoilt")
        else:
            thing["spoilt"] = "spoilt"


class TestArguments(unittest.TestCase):
    def calls(self):
        """All calls: what is called, anew each time, and its arguments."""
        for called, told in CALLS + CLASSES:
            yield lambda called=called: called, told
        for made, name, told in METHODS:
            yield lambda made=made, name=name: getattr(made(), name), told

    def test_all_functions_and_classes_are_called_here(self):
        own = [call for call, _ in CALLS + CLASSES]
        self.assertEqual(sorted(call.__name__ for call in own), sorted(INTERFACE))
        self.assertEqual({call.__module__ for call in own}, {module.__name__ for module in MODULES})

    def test_by_name_in_any_order(self):
        for made, told in self.calls():
            expected = plain(made()(*told.values()))
            for names in itertools.permutations(told):
                self.assertEqual(plain(made()(**{name: told[name] for name in names})), expected)
            for many in range(len(told)):
                first, rest = list(told.values())[:many], list(told)[many:]
                self.assertEqual(plain(made()(*first, **{name: told[name] for name in rest[::-1]})), expected)

    def test_tuples_and_lists_for_one_another(self):
        for made, told in self.calls():
            self.assertEqual(plain(made()(*map(other_kind, told.values()))), plain(made()(*told.values())))

    def test_what_is_passed_stays(self):
        for made, told in self.calls():
            ahead = plain(list(told.values()))
            made()(**told)
            self.assertEqual(plain(list(told.values())), ahead)

    def test_what_was_returned_may_be_changed(self):
        for made, told in self.calls():
            found = made()(**told)
            expected = plain(found)
            spoil(found)
            self.assertEqual(plain(made()(**told)), expected)

    def test_what_a_book_returned_may_be_changed(self):
        found = book()
        for name in ("names", "deeds", "undo", "again", "undo"):
            spoil(getattr(found, name)())
        spoil(found.do(("remove", "c")))
        self.assertEqual((found.names(), found.state("x")), (["x"], "lost"))
        self.assertEqual(found.deeds(), [("sources", "b", ("b",)), ("remove", "c")])

    def test_what_an_object_was_passed_may_be_changed_later(self):
        for made, told in CLASSES:
            passed = {name: copied(part) for name, part in told.items()}
            found = made(**passed)
            expected = plain(found)
            for part in passed.values():
                spoil(part)
            self.assertEqual(plain(found), expected)

    def test_errors_by_name(self):
        for name, found in vars(errors).items():
            if inspect.isclass(found) and found is not errors.LotError:
                names = list(inspect.signature(found).parameters) if "__init__" in vars(found) else []
                for thing in ("a", None, [1], {}, WEB):
                    error = found(**{one: thing for one in names})
                    self.assertEqual(vars(error), {one: thing for one in names}, name)
                    self.assertEqual(vars(found(*[thing for _ in names])), vars(error))


def copied(thing):
    """A copy of all lists and dicts in a thing."""
    if isinstance(thing, dict):
        return {key: copied(part) for key, part in thing.items()}
    if isinstance(thing, (list, tuple)):
        return type(thing)(copied(part) for part in thing)
    return thing


if __name__ == "__main__":
    unittest.main()
