"""Promises [3], [4] and [35]: the texts of webs and programs."""

import itertools
import random
import unittest

from lotmarks.errors import BadText
from lotmarks.programs import Program
from lotmarks.texts import read, written
from lotmarks.webs import Web
from tests.things import all_programs, chance_programs, small_webs

WEB = Web([("b", ["a", "b"]), ("a", []), ("abcdefgh", ["b", "abcdefgh", "a"])])
WEB_TEXT = "web\nb a b\na\nabcdefgh b abcdefgh a\n"
PROGRAM = Program([["b", "a"], ["c"], ["aa", "a", "b", "ab"]])
PROGRAM_TEXT = "program\na b\nc\na aa ab b\n"


def is_name(text):
    return 1 <= len(text) <= 8 and set(text) <= set("abcdefghijklmnopqrstuvwxyz")


def wrong_line_by_words(text):
    """The number that BadText tells for a text, or None."""
    *whole, rest = text.split("\n")
    lines = [line + "\n" for line in whole] + ([rest] if rest else [])
    met = []
    for number, line in enumerate(lines, 1):
        names = line[:-1].split(" ")
        if number == 1:
            stands = line in ("web\n", "program\n")
        elif lines[0] == "web\n":
            stands = all(map(is_name, names)) and names[0] not in met and len(set(names[1:])) == len(names[1:])
            met.append(names[0])
        else:
            stands = all(map(is_name, names)) and all(one < other for one, other in zip(names, names[1:]))
        if not stands or line[-1] != "\n":
            return number
    if len(lines) == 0 or lines == ["web\n"]:
        return len(lines) + 1
    if lines[0] == "web\n":
        for number, line in enumerate(lines[1:], 2):
            if not set(line[:-1].split(" ")) <= set(met):
                return number
    return None


class TestTexts(unittest.TestCase):
    def check_bad(self, text, line):
        with self.assertRaises(BadText) as held:
            read(text)
        self.assertEqual((type(held.exception), held.exception.line), (BadText, line), repr(text))
        self.assertEqual(wrong_line_by_words(text), line, repr(text))

    def test_by_hand(self):
        self.assertEqual(written(WEB), WEB_TEXT)
        self.assertEqual(written(PROGRAM), PROGRAM_TEXT)
        self.assertEqual(written(Program([])), "program\n")
        self.assertEqual(written(Web([("z", [])])), "web\nz\n")
        self.assertEqual(written(Web([("web", ["program"]), ("program", [])])), "web\nweb program\nprogram\n")

    def test_read_by_hand(self):
        self.assertEqual(read(WEB_TEXT), WEB)
        self.assertEqual(read(PROGRAM_TEXT), PROGRAM)
        self.assertIsInstance(read("web\nz\n"), Web)
        self.assertEqual(read("program\n"), Program([]))
        self.assertEqual(read("program\nprogram\nweb\nweb\n"), Program([["program"], ["web"], ["web"]]))
        self.assertEqual(read("web\nb a\na b\n").cells, ("b", "a"))

    def test_there_and_back(self):
        for rows in itertools.islice(small_webs(), 0, None, 7):
            self.assertEqual(read(written(Web(rows))), Web(rows))
        for program in list(all_programs("abc", 2)) + list(chance_programs(50, 9)):
            self.assertEqual(read(written(program)), program)
        self.assertEqual(written(read(WEB_TEXT)), WEB_TEXT)
        self.assertEqual(written(read(PROGRAM_TEXT)), PROGRAM_TEXT)

    def test_no_line_at_all(self):
        self.check_bad("", 1)

    def test_other_first_lines(self):
        for first in [
            "", " ", "Web", "WEB", "web ", " web", "webs", "we", "programs", "Program", " program", "program ", "web\r",
            "program\t", "a", "a b", "web program", "wed", "\n",
        ]:
            for rest in ("", "a\n", "a b\nb\n"):
                self.check_bad(first + "\n" + rest, 1)

    def test_a_first_line_without_its_line_feed(self):
        for text in ("web", "program", "w", " ", "a b", "\r", "web\r"):
            self.check_bad(text, 1)

    def test_no_last_line_feed(self):
        self.check_bad("web\na", 2)
        self.check_bad("program\na", 2)
        self.check_bad("web\na\nb a", 3)
        self.check_bad("program\na\na b", 3)
        self.check_bad("web\na\n ", 3)
        # A line that can't stand goes ahead, and one that lacks its line feed goes ahead of strange sources.
        self.check_bad("web\na z\nb", 3)
        self.check_bad("web\n\nb", 2)

    def test_a_web_without_a_cell(self):
        self.check_bad("web\n", 2)

    def test_lines_that_can_not_stand(self):
        for line in [
            "", " ", "a ", " a", "a  b", "  a", "a  ", "a\tb", "\ta", "a\t", "A", "a B", "a1", "1", "a-b", "a,b", "a\r",
            "a b\r", "\r", "abcdefghi", "a abcdefghi", "\u00e4", "a \u00df", "a\u00a0b", "a\x0bb", "a\x0c", "a\u2028", "a\x1cb",
            "a\x85", "a.", "a b b", "a b c b", "{", "`", "a \n",
        ]:
            for word in ("web", "program"):
                self.check_bad(f"{word}\n{line}\n", 2)
                self.check_bad(f"{word}\nc\n{line}\nb\n\n", 3)
                self.check_bad(f"{word}\nb c\nc\nd\n{line}\n", 5)

    def test_cells_told_before(self):
        self.check_bad("web\na\na\n", 3)
        self.check_bad("web\na b\nb\nc\nb c\n\n", 5)
        self.check_bad("web\na z\nb\na b\n", 4)
        self.assertEqual(read("web\na a b\nb b a\n"), Web([("a", ["a", "b"]), ("b", ["b", "a"])]))

    def test_lots_that_are_not_ascending(self):
        for line in ("b a", "a c b", "b a c", "aa a", "a a", "b b", "a b a", "ab aa", "z y"):
            self.check_bad(f"program\n{line}\n", 2)
            self.check_bad(f"program\na b\n{line}\nb a\n", 3)
        self.assertEqual(read("program\na\na\nb\na\n"), Program([["a"], ["a"], ["b"], ["a"]]))

    def test_strange_sources(self):
        self.check_bad("web\na z\n", 2)
        self.check_bad("web\na b\nb a c\nd y\n", 3)
        self.check_bad("web\na\nb\nc b d a\n", 4)
        # Only if all else can stand.
        self.check_bad("web\na z\n\n", 3)
        self.check_bad("web\na z\nb y\na\n", 4)
        self.check_bad("web\na z\nb y\nc", 4)
        self.assertEqual(read("web\na b\nb\n"), Web([("a", ["b"]), ("b", [])]))

    def test_drawn_texts(self):
        chance = random.Random(4)
        met = {}
        for _ in range(6000):
            word = chance.choice(["web\n"] * 5 + ["program\n"] * 5 + ["", "a\n", "\n"])
            signs = chance.choice(["abc  \n\n", "ab \n", "abcdefg\n\n \r", "a\n"])
            text = word + "".join(chance.choice(signs) for _ in range(chance.randint(0, 14))) + chance.choice(["\n", ""])
            line = wrong_line_by_words(text)
            met[line] = met.get(line, 0) + 1
            if line is None:
                self.assertEqual(written(read(text)), text)
            else:
                self.check_bad(text, line)
        self.assertGreater(min(met[None], met[1], met[2], met[3], met[4]), 50)

    def test_texts_with_one_sign_more_or_less(self):
        for text in (WEB_TEXT, PROGRAM_TEXT):
            for at in range(len(text) + 1):
                for changed in [text[:at] + text[at + 1:], *[text[:at] + sign + text[at:] for sign in "ab \nZ"]]:
                    line = wrong_line_by_words(changed)
                    if line is None:
                        self.assertEqual(written(read(changed)), changed)
                    else:
                        self.check_bad(changed, line)

    def test_arguments_by_name(self):
        self.assertEqual(read(text=written(thing=WEB)), WEB)


if __name__ == "__main__":
    unittest.main()
