"""The forms of the lines that a desk is told: points 122, 124 and 125."""

import itertools
import unittest

from termshelf.desklines import is_line
from tests import plaindesk
from tests.samples import Case, any_things, marked, things_but

GOOD = """
shelf a plain 1|shelf abcdefgh signs 40|shelf a puttings 9|copy a b|copy a a|drop a|shelves|put a one f A B|take a one c
put a one ?|put a one x y z !|together a put one c|together a take one c / put two f A B / put b c|terms a|notes a f A B
changes a|log a|ask a meets A|ask above instances x|ask a above A|ask a variants A|first 1 a meets A|first 40 a above c
shown a meets f A B|steps a instances c|barred a variants c|meet A / c|meet f A B / g c|hand h a meets A
loose h a above f A B|more h|left h|rest h|anew h|hands|text a|read a|read a x|read a shelf plain 1 / words c 0
read a /|read a / /|read a x / y / / z|read a // x|cut a|join a plain b|join a signs b c b a a d|unlike a b|unlike a a
put put put put|shelf shelf plain 1|ask ask meets ask|meet meet / meet|put a one //|put a one :|take a b /x
"""
BAD = """
|shelf|shelf a|shelf a plain|shelf a plain 0|shelf a plain 41|shelf a plain 01|shelf a plain +1|shelf a plain x
shelf a Plain 1|shelf a puts 1|shelf a plain 1 1|shelf A plain 1|shelf abcdefghi plain 1|shelf plain 1|Shelf a plain 1
copy a|copy a b c|copy a B|copy|drop|drop a b|drop A|shelves a|put a one|put a|put a One c|put A one c|put a one /
put a one c / c|put a one / c|take a one c /|put one|together a|together|together a put one|together a put one c /
together a / put one c|together a put one c / / put two c|together a drop one c|together a put One c
together a put one c / put|together a put c|terms|terms a b|notes a|notes a /|notes a c / c|changes|changes a b|log|log a b|ask a|ask a meets
ask a meet A|ask a A meets|ask meets A|ask a meets /|ask a meets A / B|ask a Meets A|first a meets A|first 0 a meets A
first 41 a meets A|first 1 a meets|first a 1 meets A|first 01 a meets A|shown a meets|shown a c|steps a meets|steps a
barred a above|barred a|meet|meet A|meet A /|meet / A|meet A / B / C|meet A / B /|meet / A / B|meet A // B|meet /
hand h a meets|hand h meets A|hand h a|hand|loose h a meets|loose h a b A|loose H a meets A|more|more h h|more H|left
left h 1|rest|rest h h|anew|anew h h|hands h|hand|text|text a b|text A|read|read A|read 1 x|cut|cut a b|join a plain
join a|join a puts b|join a plain B|join a plain b b b b b b b|join a b plain|join plain b|unlike a|unlike a b c|unlike
say a|a|/|x|words c 0|f A B|rules|open|close|put  a one c|PUT a one c|put a one  c
"""


def rows(text):
    return [line for row in text.strip("\n").split("\n") for line in row.split("|")]


class Lines(Case):
    def test_each_form(self):
        for line in rows(GOOD):
            self.assertIs(is_line(line), True, line)
            self.assertIs(is_line(thing=line), True, line)
            self.assertIs(plaindesk.is_line(line), True, line)
            for other in (" " + line, line + " ", line.replace(" ", "  ", 1) if " " in line else " ", line + "\n",
                          "\n" + line, line.replace(" ", "\n", 1) if " " in line else "\n", line.capitalize()):
                self.assertIs(is_line(other), False, other)

    def test_just_not_of_a_form(self):
        for line in rows(BAD):
            self.assertIs(is_line(line), False, line)
            self.assertIs(plaindesk.is_line(line), False, line)

    def test_every_line_with_words_out_put_in_and_turned(self):
        for line in rows(GOOD):
            words = line.split(" ")
            others = [words[:at] + words[at + 1:] for at in range(len(words))]
            others += [words[:at] + [more] + words[at:] for at, more in itertools.product(
                range(len(words) + 1), ["a", "A", "/", "1", "41", "meets", "plain", "put", "shelves", "?"])]
            others += [words[:at] + [words[at + 1], words[at]] + words[at + 2:] for at in range(len(words) - 1)]
            others += [words[:at] + [other] + words[at + 1:] for at, other in itertools.product(
                range(len(words)), ["a", "A", "/", "0", "40", "above", "signs", "take", "hands", "abcdefghi", ""])]
            for other in others:
                text = " ".join(other)
                self.assertIs(is_line(text), plaindesk.is_line(text), text)

    def test_four_hundred_signs(self):
        for line, more in [("put a one f", " A"), ("read a x", " y"), ("meet A / B", " /x"), ("notes a c", " 1"),
                           ("together a put one c", " d")]:
            whole = line + more * 199
            for many in (399, 400, 401, 402):
                text = whole[:many - 1] + "A"
                self.assertIs(is_line(text), len(text) <= 400 and plaindesk.is_line(text), (line, many))
        good = "put a one " + "A" * 390
        self.assertEqual([len(good), is_line(good), is_line(good + "A")], [400, True, False])
        deeds = "together a " + " / ".join(["put a A"] * 39)
        self.assertEqual([len(deeds), is_line(deeds)], [11 + 39 * 7 + 38 * 3, True])
        more = "together a " + " / ".join(["put a A"] * 40)
        self.assertEqual([len(more), is_line(more)], [408, False])
        self.assertIs(is_line("shelves" + " " * 400), False)

    def test_any_things(self):
        for thing in things_but(str) + [["shelves"], ("hands",), {"shelves": None}]:
            before = marked(thing)
            self.told(False, is_line(thing))
            self.assertEqual(marked(thing), before)
        for thing in any_things():
            self.told(False, is_line(thing))


if __name__ == "__main__":
    unittest.main()
