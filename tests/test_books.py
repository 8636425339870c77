"""Promises [2], [3], [4], [6], [10] and [17]: books, their deeds and the states of what they hold."""

import random
import unittest

from lotmarks.books import Book
from lotmarks.errors import BadDeed, BadName, Held, NoDeed, NotHeld, Taken, UnknownCell, Used
from lotmarks.programs import Program
from lotmarks.versions import same
from lotmarks.webs import Web
from tests.things import THREE, any_objects, check_lacking_of_two, check_raises, no_names

AB = Program([["a"], ["b"]])
BA = Program([["b"], ["a"]])
BOTH = Program([["a", "b"]])


def plain_book():
    """A book of the cells b, a, c, of which b reads c; c and a read nothing but themselves."""
    return Book(Web([("b", ["c"]), ("a", ["a"]), ("c", [])]))


def seen(book):
    """All that a book tells."""
    return book.web, book.names(), [book.state(name) for name in book.names()], book.deeds()


def check_refused(test, book, made, told, call):
    """A call raises an error, and all is as it was ahead of it, what can be done again too."""
    ahead = seen(book)
    check_raises(test, made, told, call)
    test.assertEqual(seen(book), ahead)


class TestHeld(unittest.TestCase):
    def test_states(self):
        book = plain_book()
        self.assertIsNone(book.hold("x", AB, BA))
        self.assertIsNone(book.hold("y", AB, Program([["a"]])))
        self.assertEqual((book.state("x"), book.state("y")), ("same", "unlike"))
        self.assertEqual(book.names(), ["x", "y"])

    def test_names_ascend(self):
        book = plain_book()
        for name in ("m", "ab", "abcdefgh", "z", "a", "aa"):
            book.hold(name, AB, BA)
        self.assertEqual(book.names(), ["a", "aa", "ab", "abcdefgh", "m", "z"])
        self.assertIsNone(book.drop("ab"))
        self.assertEqual(book.names(), ["a", "aa", "abcdefgh", "m", "z"])

    def test_a_dropped_name_is_free_again(self):
        book = plain_book()
        book.hold("x", AB, BA)
        book.drop("x")
        check_refused(self, book, NotHeld, "x", lambda: book.state("x"))
        check_refused(self, book, NotHeld, "x", lambda: book.drop("x"))
        book.hold("x", AB, Program([]))
        self.assertEqual(book.state("x"), "unlike")

    def test_a_pair_of_equal_programs_and_of_empty_ones(self):
        book = plain_book()
        book.hold("x", AB, AB)
        book.hold("e", Program([]), Program([]))
        self.assertEqual((book.state("x"), book.state("e")), ("same", "same"))

    def test_the_list_of_names_is_new(self):
        book = plain_book()
        book.hold("x", AB, BA)
        book.names().append("y")
        book.names().clear()
        self.assertEqual(book.names(), ["x"])

    def test_no_names(self):
        book = plain_book()
        book.hold("x", AB, BA)
        for thing in no_names():
            check_refused(self, book, BadName, thing, lambda: book.hold(thing, AB, BA))
        check_refused(self, book, BadName, "A", lambda: book.hold("A", Program([["z"]]), BA))

    def test_held_names_go_ahead_of_strange_cells(self):
        book = plain_book()
        book.hold("x", AB, BA)
        check_refused(self, book, Held, "x", lambda: book.hold("x", AB, BA))
        check_refused(self, book, Held, "x", lambda: book.hold("x", Program([["z"]]), BA))

    def test_cells_that_the_web_lacks(self):
        book = Book(THREE)
        check_lacking_of_two(self, lambda one, other: book.hold("x", one, other))
        self.assertEqual(book.names(), [])

    def test_names_that_are_not_held(self):
        book = plain_book()
        book.hold("x", AB, BA)
        for thing in any_objects():
            check_refused(self, book, NotHeld, thing, lambda: book.state(thing))
            check_refused(self, book, NotHeld, thing, lambda: book.drop(thing))

    def test_arguments_by_name(self):
        book = Book(web=THREE)
        book.hold(other=Program([["a"]]), name="x", one=Program([["c"], ["a"]]))
        self.assertEqual(book.state(name="x"), "unlike")
        self.assertEqual(book.do(deed=("sources", "a", [])), [])
        self.assertEqual(book.undo(), [])
        book.drop(name="x")
        self.assertEqual(book.names(), [])


class TestDeeds(unittest.TestCase):
    def test_a_new_cell_stands_behind_all_others(self):
        book = plain_book()
        self.assertEqual(book.do(("cell", "aa", ["c", "aa", "b"])), [])
        self.assertEqual(book.web, Web([("b", ["c"]), ("a", ["a"]), ("c", []), ("aa", ["c", "aa", "b"])]))

    def test_other_sources(self):
        book = plain_book()
        self.assertEqual(book.do(("sources", "c", ["c", "a"])), [])
        self.assertEqual(book.web, Web([("b", ["c"]), ("a", ["a"]), ("c", ["c", "a"])]))
        book.do(("sources", "c", []))
        self.assertEqual(book.web, Web([("b", ["c"]), ("a", ["a"]), ("c", [])]))

    def test_a_cell_goes(self):
        book = plain_book()
        self.assertEqual(book.do(("remove", "b")), [])
        self.assertEqual(book.web, Web([("a", ["a"]), ("c", [])]))
        # a is a source of its own only.
        book.do(("remove", "a"))
        self.assertEqual(book.web, Web([("c", [])]))

    def test_news_are_those_pairs_whose_state_has_changed(self):
        book = plain_book()
        for name, one, other in [("z", AB, BA), ("k", AB, BOTH), ("c", Program([["c"]]), Program([])), ("a", AB, AB)]:
            book.hold(name, one, other)
        self.assertEqual(book.do(("sources", "b", ["a"])), [("k", "unlike"), ("z", "unlike")])
        self.assertEqual(book.do(("sources", "b", ["a", "b"])), [])
        self.assertEqual(book.do(("remove", "b")), [("a", "lost"), ("k", "lost"), ("z", "lost")])
        self.assertEqual(book.do(("sources", "a", [])), [])
        self.assertEqual(book.do(("cell", "b", ["c"])), [("a", "same"), ("k", "same"), ("z", "same")])
        self.assertEqual([book.state(name) for name in "ackz"], ["same", "unlike", "same", "same"])

    def test_a_pair_is_lost_by_a_cell_of_either_program(self):
        book = plain_book()
        book.hold("x", Program([["b"]]), Program([]))
        book.hold("y", Program([]), Program([["c"], ["b"]]))
        book.hold("z", Program([["a"]]), Program([["c"]]))
        self.assertEqual(book.do(("remove", "b")), [("x", "lost"), ("y", "lost")])
        self.assertEqual(book.undo(), [("x", "unlike"), ("y", "unlike")])

    def test_the_web_that_was_passed_stays(self):
        web = Web([("b", ["c"]), ("a", ["a"]), ("c", [])])
        book = Book(web)
        self.assertEqual(book.web, web)
        book.do(("cell", "d", []))
        book.do(("remove", "a"))
        self.assertEqual(web, Web([("b", ["c"]), ("a", ["a"]), ("c", [])]))
        self.assertNotEqual(book.web, web)

    def test_deeds_are_told_as_tuples(self):
        book = plain_book()
        sources, deed = ["c", "a"], ["sources", "b", ("a",)]
        book.do(("cell", "d", sources))
        book.do(deed)
        book.do(["remove", "b"])
        sources.append("b")
        deed[1] = "c"
        expected = [("cell", "d", ("c", "a")), ("sources", "b", ("a",)), ("remove", "b")]
        self.assertEqual(book.deeds(), expected)
        for told in book.deeds():
            self.assertIsInstance(told, tuple)
            self.assertTrue(len(told) == 2 or isinstance(told[2], tuple))
        self.assertEqual(book.web, Web([("a", ["a"]), ("c", []), ("d", ["c", "a"])]))
        book.deeds().clear()
        self.assertEqual(book.deeds(), expected)

    def test_news_are_a_new_list(self):
        book = plain_book()
        book.hold("x", AB, BA)
        news = book.do(("sources", "b", ["a"]))
        self.assertEqual(news, [("x", "unlike")])
        self.assertIsInstance(news[0], tuple)
        news.clear()
        self.assertEqual((book.undo(), book.again()), ([("x", "same")], [("x", "unlike")]))


class TestTakenBack(unittest.TestCase):
    def test_back_through_all_deeds_and_again(self):
        book = plain_book()
        book.hold("x", AB, BA)
        deeds = [
            ("cell", "d", ("b",)), ("sources", "b", ("a",)), ("sources", "d", ()), ("remove", "b"), ("cell", "b", ()),
            ("remove", "a"), ("cell", "a", ("d",)), ("sources", "d", ("a", "d")),
        ]
        webs, news = [book.web], []
        for deed in deeds:
            news.append(book.do(deed))
            webs.append(book.web)
        states = [[], [("x", "unlike")], [], [("x", "lost")], [("x", "same")], [("x", "lost")], [("x", "same")], []]
        self.assertEqual(news, states)
        backwards = [[], [("x", "lost")], [("x", "same")], [("x", "lost")], [("x", "unlike")], [], [("x", "same")], []]
        for many in range(len(deeds), 0, -1):
            self.assertEqual(book.deeds(), deeds[:many])
            self.assertEqual(book.undo(), backwards[len(deeds) - many])
            self.assertEqual(book.web, webs[many - 1])
            self.assertEqual(book.deeds(), deeds[:many - 1])
        check_refused_nothing(self, book, book.undo)
        for many in range(len(deeds)):
            self.assertEqual(book.again(), news[many])
            self.assertEqual((book.web, book.deeds()), (webs[many + 1], deeds[:many + 1]))
        check_refused_nothing(self, book, book.again)

    def test_a_cell_that_comes_back_stands_where_it_stood(self):
        book = plain_book()
        book.do(("remove", "b"))
        book.undo()
        self.assertEqual(book.web.cells, ("b", "a", "c"))
        book.again()
        book.do(("cell", "b", []))
        self.assertEqual(book.web.cells, ("a", "c", "b"))

    def test_a_new_deed_ends_what_can_be_done_again(self):
        book = plain_book()
        book.do(("cell", "d", []))
        book.do(("cell", "e", []))
        book.undo()
        book.undo()
        book.do(("cell", "f", []))
        check_refused_nothing(self, book, book.again)
        self.assertEqual(book.deeds(), [("cell", "f", ())])
        book.undo()
        book.again()
        self.assertEqual(book.web.cells, ("b", "a", "c", "f"))

    def test_a_refused_deed_does_not(self):
        book = plain_book()
        book.do(("cell", "d", []))
        book.undo()
        for deed in [("remove", "c"), ("remove", "z"), ("cell", "a", []), ("sources", "a", ["z"]), "deed"]:
            with self.assertRaises((Used, UnknownCell, Taken, BadDeed)):
                book.do(deed)
        self.assertEqual(book.again(), [])
        self.assertEqual(book.deeds(), [("cell", "d", ())])

    def test_hold_and_drop_are_no_deeds(self):
        book = plain_book()
        book.hold("x", AB, BA)
        check_refused_nothing(self, book, book.undo)
        book.do(("sources", "b", ["a"]))
        book.undo()
        book.hold("y", AB, BOTH)
        book.drop("x")
        self.assertEqual(book.deeds(), [])
        self.assertEqual(book.again(), [("y", "unlike")])
        check_refused_nothing(self, book, book.again)
        book.drop("y")
        self.assertEqual(book.undo(), [])
        check_refused_nothing(self, book, book.undo)

    def test_a_pair_that_is_held_behind_a_deed(self):
        book = plain_book()
        book.do(("cell", "d", []))
        book.hold("x", Program([["d"]]), Program([["d"], ["d"]]))
        self.assertEqual(book.state("x"), "same")
        self.assertEqual(book.undo(), [("x", "lost")])
        self.assertEqual(book.state("x"), "lost")
        self.assertEqual(book.names(), ["x"])
        check_refused(self, book, Held, "x", lambda: book.hold("x", AB, BA))
        self.assertEqual(book.do(("cell", "d", ["d"])), [("x", "unlike")])
        self.assertEqual(book.undo(), [("x", "lost")])
        book.drop("x")
        self.assertEqual(book.again(), [])

    def test_drawn_deeds(self):
        chance = random.Random(3)
        words = ["cell", "sources", "remove"]
        for _ in range(40):
            book = plain_book()
            told, webs = [], [book.web]
            for turn in range(30):
                names = [name for name in "abcde" if chance.random() < 0.4]
                word, cell = chance.choice(words), chance.choice("abcde")
                ahead = {name: state_by(book, name) for name in book.names()}
                deed = ("remove", cell) if word == "remove" else (word, cell, tuple(names))
                try:
                    if chance.random() < 0.3:
                        news = book.undo()
                        told.pop(), webs.pop()
                    else:
                        news = book.do(deed)
                        told.append(deed), webs.append(book.web)
                except (Used, UnknownCell, Taken, NoDeed):
                    news = []
                self.assertEqual((book.deeds(), book.web), (told, webs[-1]))
                changed = [(name, book.state(name)) for name in book.names() if ahead[name] != state_by(book, name)]
                self.assertEqual(news, changed)
                if turn < 6:
                    programs = [Program([[cell] for cell in book.web if chance.random() < 0.7]) for _ in range(2)]
                    PAIRS["abcdef"[turn]] = programs
                    book.hold("abcdef"[turn], *programs)


PAIRS = {}


def state_by(book, name):
    """The state of a pair of PAIRS, by the words of the point; it is what the book tells."""
    one, other = PAIRS[name]
    if not set(one.renewed() + other.renewed()) <= set(book.web):
        state = "lost"
    else:
        state = "same" if same(book.web, one, other) else "unlike"
    assert book.state(name) == state
    return state


def check_refused_nothing(test, book, call):
    """There is no deed to take back, or to do again, and all is as it was."""
    ahead = seen(book)
    with test.assertRaises(NoDeed) as held:
        call()
    test.assertEqual(vars(held.exception), {})
    test.assertEqual(seen(book), ahead)


class TestWrongDeeds(unittest.TestCase):
    def check(self, made, told, deed):
        book = plain_book()
        book.hold("x", AB, BA)
        book.do(("cell", "d", []))
        book.do(("cell", "e", []))
        book.undo()
        check_refused(self, book, made, told, lambda: book.do(deed))
        book.again()
        self.assertEqual(book.web.cells, ("b", "a", "c", "d", "e"))

    def test_no_deeds(self):
        for thing in any_objects():
            self.check(BadDeed, thing, thing)

    def test_other_words_and_lengths(self):
        for deed in [
            ("cell",), ("cell", "z"), ("cell", "z", [], []), ("sources", "a"), ("sources", "a", [], 1), ("remove",),
            ("remove", "a", []), ("remove", "a", None), ("cells", "z", []), ("Cell", "z", []), ("delete", "a"),
            (None, "z", []), (1, "a"), (["cell"], "z", []), ({}, "z", []), ["cell", "z"], ["remove"], ("source", "a", []),
            ("undo",), ("", "a"), ("", "a", []), (True, "a"), (("remove",), "a"),
        ]:
            self.check(BadDeed, deed, deed)

    def test_names_that_are_none(self):
        for thing in no_names():
            for deed in [("cell", thing, []), ("sources", thing, []), ("remove", thing), ["cell", thing, ["z"]]]:
                self.check(BadDeed, deed, deed)

    def test_sources_that_are_none(self):
        lists = [["a", "a"], ["a", "c", "a"], ("c", "c"), ["A"], ["a", ""], ["a", 1], [None], [["a"]], ["a", True]]
        things = [thing for thing in any_objects() if not isinstance(thing, (list, tuple))]
        for sources in lists + things + [[thing] for thing in no_names()]:
            for deed in [("cell", "z", sources), ("sources", "a", sources), ("sources", "z", sources)]:
                self.check(BadDeed, deed, deed)

    def test_a_cell_that_is_to_be_there_and_is_not(self):
        for cell in ("z", "e", "aa", "abcdefgh"):
            self.check(UnknownCell, cell, ("sources", cell, []))
            self.check(UnknownCell, cell, ("sources", cell, ["y"]))
            self.check(UnknownCell, cell, ("remove", cell))

    def test_a_new_cell_that_is_there(self):
        for cell in "abcd":
            self.check(Taken, cell, ("cell", cell, []))
            self.check(Taken, cell, ("cell", cell, ["z"]))

    def test_sources_that_are_no_cells_behind_the_deed(self):
        self.check(UnknownCell, "y", ("cell", "z", ["y"]))
        self.check(UnknownCell, "e", ("cell", "z", ["a", "z", "e", "y"]))
        self.check(UnknownCell, "y", ("cell", "z", ("y", "e")))
        self.check(UnknownCell, "e", ("sources", "a", ["a", "b", "e", "y"]))
        self.check(UnknownCell, "z", ("sources", "a", ["z", "a"]))

    def test_a_cell_that_another_one_reads(self):
        self.check(Used, "c", ("remove", "c"))
        book = plain_book()
        book.do(("sources", "c", ["c", "a"]))
        check_refused(self, book, Used, "a", lambda: book.do(("remove", "a")))
        check_refused(self, book, Used, "c", lambda: book.do(("remove", "c")))
        book.do(("remove", "b"))
        self.assertEqual(book.do(("remove", "c")), [])
        self.assertEqual(book.web, Web([("a", ["a"])]))

    def test_the_only_cell(self):
        for sources in ([], ["a"]):
            book = Book(Web([("a", sources)]))
            check_refused(self, book, Used, "a", lambda: book.do(("remove", "a")))
            book.do(("cell", "b", []))
            book.do(("remove", "a"))
            self.assertEqual(book.web, Web([("b", [])]))

    def test_nothing_to_take_back_or_to_do_again(self):
        book = plain_book()
        check_refused_nothing(self, book, book.undo)
        check_refused_nothing(self, book, book.again)
        book.do(("cell", "d", []))
        check_refused_nothing(self, book, book.again)
        book.undo()
        check_refused_nothing(self, book, book.undo)


if __name__ == "__main__":
    unittest.main()
