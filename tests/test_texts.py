"""Promises 2 and 14: texts of rules and roads."""

import random

from seencursors.errors import ParseError
from seencursors.roads import Road, full_road
from seencursors.rules import Rule
from seencursors.texts import format_road, format_rule, parse_road, parse_rule

from helpers import ODD, SHAPES, TWELVE, Case, places_of
from model import some_calls, some_road, some_worlds

RULE = "cursors 2\nshape 0\ncall 0.0 end\ncall end\nshape 1\ncall 0.0 next 1\ncall 0.1 end"
ROAD = "begin 0\nbegin 0>1\nbegin 1\nchange 0 0>1\nchange 0>1 0\nchange 0>1 1"
WIDE = "cursors 1\nshape 5>4\ncall 0.0 0.9 0.10 0.31 1.0 1.15 next 0"
BAD_INTEGERS = [
    "", "00", "01", "+0", "-0", "-1", "0x0", "1_0", " 0", "0 ", "\t0", "0\t", "0.", "a", "None", "True", "1e0", "1.0.0",
    "9" * 5000, "0" * 5000 + "1", "1" + "0" * 4999, "66", "100", "0" * 64]


class TextsTest(Case):

    def wrong_rule(self, text, line):
        self.same(self.raises(ParseError, parse_rule, text).line, line)

    def wrong_road(self, text, line):
        self.same(self.raises(ParseError, parse_road, text).line, line)

    def wrong_lines(self, text, index, lines, wrong):
        """A text with other lines in place of one is wrong from there on."""
        rows = text.split("\n")
        for line in lines:
            self.assertNotIn("\n", line)
            wrong("\n".join(rows[:index] + [line] + rows[index + 1:]), index)

    def test_examples(self):
        rule = parse_rule(RULE)
        self.same([rule.call((1,), 0), rule.call((0,), 1), format_rule(rule) == RULE],
                  [(((0, 0),), 1), ((), None), True])
        self.wrong_road("begin 0\nchange 0 0>1\nchange 0>1 0>1", 2)

    def test_named(self):
        self.same(format_rule(rule=parse_rule(text=RULE)), RULE)
        self.same(format_road(road=parse_road(text=ROAD)), ROAD)

    def test_formatted(self):
        self.same(format_rule(Rule(1, {
            (5, 4): [(((0, 0), (0, 9), (0, 10), (0, 31), (1, 0), (1, 15)), 0)]})), WIDE)
        self.same(format_rule(Rule(2, {(2,): [((), 0), ((), None)], (0, 2): [(((1, 3),), 1), (((0, 0),), 0)]})),
                  "cursors 2\nshape 0>2\ncall 1.3 next 1\ncall 0.0 next 0\nshape 2\ncall next 0\ncall end")
        self.same(format_road(Road([(1,), (0,), (0, 1)], [((0, 1), (1,)), ((0, 1), (0,)), ((0,), (0, 1))])), ROAD)
        self.same(format_road(Road([(3,)], [])), "begin 3")

    def test_parsed(self):
        self.same(parse_rule(RULE).calls, {
            (0,): [(((0, 0),), None), ((), None)], (1,): [(((0, 0),), 1), (((0, 1),), None)]})
        self.same(parse_rule(WIDE).calls, {
            (5, 4): [(((0, 0), (0, 9), (0, 10), (0, 31), (1, 0), (1, 15)), 0)]})
        road = parse_road(ROAD)
        self.same(road.begin, [(0,), (0, 1), (1,)])
        self.same(road.changes, [((0,), (0, 1)), ((0, 1), (0,)), ((0, 1), (1,))])
        self.same(parse_road("begin 2").changes, [])

    def test_there_and_back(self):
        for world in some_worlds(5, 80, widths=(0, 1, 2, 3, 4, 5)):
            rule, road = world.rule, world.road
            self.assertEqual(parse_rule(format_rule(rule)), rule)
            self.assertEqual(parse_road(format_road(road)), road)
            self.same(format_rule(parse_rule(format_rule(rule))), format_rule(rule))
            self.assertIsNot(parse_rule(format_rule(rule)), parse_rule(format_rule(rule)))
        for shape in SHAPES:
            rule = Rule(2, {shape: [(tuple(places_of(shape)), 1), ((), 0)]})
            self.assertEqual(parse_rule(format_rule(rule)), rule)
            self.assertEqual(parse_road(format_road(full_road([shape]))), full_road([shape]))

    def test_64_cursors_and_twelve_shapes(self):
        rule = Rule(64, some_calls(random.Random(1), 64, TWELVE))
        self.assertEqual(parse_rule(format_rule(rule)), rule)
        self.same(len(format_rule(rule).split("\n")), 1 + 12 * 65)
        self.assertEqual(parse_road(format_road(full_road(TWELVE))), full_road(TWELVE))

    def test_no_strings(self):
        for thing in ODD:
            if not isinstance(thing, str):
                self.wrong_rule(thing, 0)
                self.wrong_road(thing, 0)
        self.wrong_rule(RULE.split("\n"), 0)
        self.wrong_road(ROAD.split("\n"), 0)
        for text in ["", "\n", "\n" + RULE, "\n" + ROAD, " ", "\t", "x" * 5000, "\n" * 4999]:
            self.wrong_rule(text, 0)
            self.wrong_road(text, 0)

    def test_the_other_text(self):
        self.wrong_rule(ROAD, 0)
        self.wrong_road(RULE, 0)

    def test_cut_off(self):
        lines = RULE.split("\n")
        for many in (1, 2, 3, 5, 6):
            self.wrong_rule("\n".join(lines[:many]), many)
            self.wrong_rule("\n".join(lines[:many]) + "\n", many)
        self.assertEqual(parse_rule("\n".join(lines[:4])), Rule(2, {(0,): [(((0, 0),), None), ((), None)]}))
        self.wrong_rule("cursors 64\nshape 0" + "\ncall end" * 63, 65)
        roads = ROAD.split("\n")
        for many in range(1, 6):
            self.assertEqual(format_road(parse_road("\n".join(roads[:many]))), "\n".join(roads[:many]))
        for text, parse in [(RULE, self.wrong_rule), (ROAD, self.wrong_road)]:
            rows = text.split("\n")
            parse(text + "\n", len(rows))
            parse(text + "\n\n", len(rows))
            for index, row in enumerate(rows):
                words = row.split(" ")
                parse("\n".join(rows[:index] + [" ".join(words[:-1])]), index)

    def test_lines_left_out(self):
        for index, line in enumerate([0, 1, 3, 3, 4, 6, 6]):
            rows = RULE.split("\n")
            del rows[index]
            self.wrong_rule("\n".join(rows), line)
        rows = ROAD.split("\n")
        for index in range(6):
            rest = rows[:index] + rows[index + 1:]
            self.assertEqual(format_road(parse_road("\n".join(rest))), "\n".join(rest))
        self.wrong_road("\n".join(rows[3:]), 0)

    def test_lines_doubled(self):
        for text, wrong, lines in [
                (RULE, self.wrong_rule, [1, 2, 4, 4, 5, 7, 7]), (ROAD, self.wrong_road, range(1, 7))]:
            rows = text.split("\n")
            for index, line in enumerate(lines):
                wrong("\n".join(rows[:index + 1] + rows[index:]), line)

    def test_lines_exchanged(self):
        rows = RULE.split("\n")
        for index, line in [(0, 0), (1, 1), (3, 3), (4, 4)]:
            other = rows[:index] + [rows[index + 1], rows[index]] + rows[index + 2:]
            self.wrong_rule("\n".join(other), line)
        self.wrong_rule("\n".join(rows[:1] + rows[4:] + rows[1:4]), 4)
        rows = ROAD.split("\n")
        for index in range(5):
            other = rows[:index] + [rows[index + 1], rows[index]] + rows[index + 2:]
            self.wrong_road("\n".join(other), index + 1)

    def test_words_too_many_or_too_few(self):
        for text, wrong in [(RULE, self.wrong_rule), (ROAD, self.wrong_road), (WIDE, self.wrong_rule)]:
            for index, line in enumerate(text.split("\n")):
                words = line.split(" ")
                self.wrong_lines(text, index, [
                    line + " ", " " + line, line + " x", line + " end", line + " 0", "x " + line, "", " ",
                    line.replace(" ", "  ", 1), line.replace(" ", "\t", 1), line.upper(), line.title(),
                    line + "\t", "\t" + line, words[0], " ".join(words[1:]), line + line, words[0] + " "], wrong)

    def test_lines_with_words_in_wrong_order(self):
        for index in range(4):
            self.wrong_lines("cursors 3\nshape 1\ncall end\ncall end", index, [
                "call", "call next", "call next x", "call 0.0", "call 0.0 next", "call 0.0 1", "call 1", "next 1",
                "end", "call end end", "call next 1 end", "call end next 1", "call next 1 next 1", "call next 1 0.0",
                "call end 0.0", "call 0.0 0.0 end", "call 0.1 0.0 end", "call 0.2 end", "call 1.0 end", "call 0 end",
                "call 0.0.0 end", "call . end", "call 0. end", "call .0 end", "call 0.-1 end", "call 0.00 end",
                "call 00.0 end", "call 0,0 end", "call 0>0 end", "call 0.0  end", "call  end", "call next 3",
                "call next  1", "call next -1", "call next +1", "call next 01", "call next None", "call next 0.0",
                "shape", "shape ", "shape 1 1", "shape 6", "shape -1", "shape 01", "shape 1>1", "shape 0>1>2",
                "shape >", "shape 1>", "shape >1", "shape 0.1", "shape True", "shapes 0", "cursors", "cursors 0",
                "cursors 65",
                "cursors -1", "cursors +1", "cursors 01", "cursors 1 1", "begin 0", "change 0 1"], self.wrong_rule)

    def test_lines_of_roads_with_wrong_words(self):
        for index in range(6):
            self.wrong_lines(ROAD, index, [
                "begin", "begin 0 1", "begin 6", "begin 00", "begin 1>1", "begin 0>1>2", "begin 0.1", "begin >",
                "begin 0>", "begin -1", "begin +1", "begins 0", "change", "change 0", "change 0 0", "change 0>1 0>1",
                "change 0 6", "change 6 0", "change 0 1 2", "change 0 1>1", "change 0 01", "change 0 ", "change  0 1",
                "changes 0 1", "shape 0", "cursors 1", "call end"], self.wrong_road)

    def test_integers(self):
        for word in BAD_INTEGERS:
            self.wrong_rule("cursors " + word, 0)
            self.wrong_rule("cursors 2\nshape " + word, 1)
            self.wrong_rule("cursors 2\nshape 0>" + word, 1)
            self.wrong_rule("cursors 2\nshape 0>1\ncall 0." + word + " end", 2)
            self.wrong_rule("cursors 2\nshape 0>1\ncall " + word + ".0 end", 2)
            self.wrong_rule("cursors 2\nshape 0>1\ncall end\ncall next " + word, 3)
            self.wrong_road("begin " + word, 0)
            self.wrong_road("begin 0\nbegin 1>" + word, 1)
            self.wrong_road("begin 0\nchange 0 " + word, 1)
            self.wrong_road("begin 0\nchange " + word + " 0", 1)

    def test_numbers_of_cursors(self):
        for many in range(1, 65):
            rule = parse_rule(f"cursors {many}\nshape 0" + f"\ncall next {many - 1}" * many)
            self.same(rule.calls, {(0,): [((), many - 1)] * many})
            self.wrong_rule(f"cursors {many}\nshape 0\ncall next {many}", 2)
            self.wrong_rule(f"cursors {many}\nshape 0" + "\ncall end" * (many + 1), many + 2)
            self.wrong_rule(f"cursors {many}\nshape 0" + "\ncall end" * (many - 1), many + 1)
        for many in (0, 65, 99):
            self.wrong_rule(f"cursors {many}\nshape 0\ncall end", 0)

    def test_widths(self):
        for one in range(8):
            wrong = one > 5
            self.assertIs(wrong, self.is_wrong(f"begin {one}"))
            for two in range(8):
                wrong = one > 5 or two > 5 or one == two
                self.assertIs(wrong, self.is_wrong(f"begin {one}>{two}"))

    def is_wrong(self, text):
        try:
            parse_road(text)
        except ParseError:
            return True
        return False

    def test_order_of_shapes(self):
        for ahead in SHAPES:
            for shape in SHAPES:
                words = [">".join(map(str, ahead)), ">".join(map(str, shape))]
                text = "cursors 1\nshape {}\ncall end\nshape {}\ncall end".format(*words)
                if ahead < shape:
                    self.same(parse_rule(text).shapes, [ahead, shape])
                    self.same(parse_road("begin {}\nbegin {}".format(*words)).begin, [ahead, shape])
                else:
                    self.wrong_rule(text, 3)
                    self.wrong_road("begin {}\nbegin {}".format(*words), 1)

    def test_order_of_changes(self):
        source = random.Random(2)
        for _ in range(200):
            changes = some_road(source, TWELVE)[1][:2]
            if len(changes) == 2:
                lines = ["change " + " ".join(">".join(map(str, shape)) for shape in change) for change in changes]
                text = "\n".join(["begin 3"] + lines)
                if changes[0] < changes[1]:
                    self.same(parse_road(text).changes, changes)
                else:
                    self.wrong_road(text, 2)

    def test_begin_behind_a_change(self):
        self.wrong_road("begin 0\nchange 0 1\nbegin 1", 2)
        self.wrong_road("change 0 1", 0)
        self.wrong_road("change 0 1\nbegin 0", 0)

    def test_the_first_wrong_line_counts(self):
        self.wrong_rule("cursors 1\nshape 9\ncall x\nshape 0", 1)
        self.wrong_rule("cursors 1\nshape 1\ncall 0.1 0.1 end\nshape 0", 2)
        self.wrong_rule("cursors 1\nshape 1\ncall end\nshape 0\nx", 3)
        self.wrong_road("begin 1\nbegin 0\nx", 1)
        self.wrong_road("begin 1\nx\nbegin 0", 1)
