"""Promises 2, 14 and 36: the shell."""

import random

from seencursors.booths import Booth
from seencursors.errors import (
    CursorError, DuplicateName, Endless, InvalidHash, InvalidLine, InvalidName, InvalidNumber, InvalidWidth, Moving,
    NothingToUndo, Over, ParseError, UnknownLabel, UnknownName, UnknownShape)
from seencursors.rules import Rule
from seencursors.shell import Shell
from seencursors.texts import format_rule

from helpers import ODD, Case, places_of
from slow import SlowDesk, desk_call, desk_rule

TEXT = "cursors,2/shape,0/call,0.0,end/call,end/shape,1/call,0.0,next,1/call,0.1,end"
B, BA = (1,), (1, 0)
# For each first word the others that make a line, by a shell with a booth main and a listing one.
WORDS = {
    "open": "new 1 " + TEXT, "close": "main", "put": "main b 5", "drop": "main a", "start": "main 0", "move": "main 1",
    "enter": "main two", "undo": "main", "step": "main one", "surely": "main one", "stayed": "main one", "keys": "main",
    "finish": "main one", "seen": "main one", "doubts": "main one", "shape": "main", "booths": ""}
NUMBER_AT = {"open": 2, "put": 3, "start": 2, "move": 2}


def text_of(rule):
    return format_rule(rule).replace("\n", "/").replace(" ", ",")


def some_shell():
    """A shell with a booth main, with a key a and a listing one; it moves from width 1 to 0."""
    shell = Shell()
    rule = Rule(2, {(0,): [(((0, 0),), None), ((), None)], B: [(((0, 0),), 1), (((0, 1),), None)],
                    BA: [((), 1), ((), None)]})
    for line in ("open main 1 " + text_of(rule), "put main a 4", "enter main one"):
        shell.run(line)
    return shell


class ShellTest(Case):

    def shell_raises(self, error, shell, line):
        before = self.told(shell)
        caught = self.raises(error, shell.run, line)
        self.same(self.told(shell), before)
        return caught

    def told(self, shell):
        """What a shell tells of its booths, and of listings that they may have."""
        names = [name for name in shell.run("booths").split(" ") if name != "none"]
        found = [[shell.run(f"{first} {name}") for first in ("keys", "shape")] for name in names]
        for name in names:
            try:
                found.append(shell.run(f"seen {name} one"))
            except UnknownLabel:
                found.append(None)
        return names + found

    def test_examples(self):
        shell = Shell()
        lines = ['open main 1 ' + TEXT, 'put main a 4', 'enter main one']
        self.same([[shell.run(line) for line in lines], shell.run('step main one'), shell.run('surely main one'),
                   shell.run('seen main one'), shell.run('undo main')], [['ok', 'ok', 'ok'], 'a', 'a', '1', 'ok'])
        self.same([shell.run('seen main one'), shell.run('finish main one'), shell.run('shape main'),
                   shell.run('booths')], ['none', 'a -', '1', 'main'])

    def test_named(self):
        self.same(Shell().run(line="booths"), "none")

    def test_each_line_with_its_answer(self):
        shell = Shell()
        for line, answer in [
                ("booths", "none"), ("open main 1 " + TEXT, "ok"), ("keys main", "none"), ("put main b 7", "ok"),
                ("put main a 4", "ok"), ("keys main", "a b"), ("enter main one", "ok"), ("stayed main one", "a b"),
                ("surely main one", "none"), ("seen main one", "none"),
                ("doubts main one", " ".join(str(code) for code in range(32))), ("step main one", "a"),
                ("surely main one", "a"), ("seen main one", "1"), ("shape main", "1"),
                ("doubts main one", " ".join(str(code) for code in range(1, 32, 2))), ("put main c 9", "ok"),
                ("stayed main one", "a b"), ("keys main", "a b c"), ("finish main one", "b,c"), ("seen main one", "1 -1"),
                ("surely main one", "a"), ("drop main a", "ok"), ("stayed main one", "b"), ("surely main one", "none"),
                ("drop main b", "ok"), ("stayed main one", "none"), ("keys main", "c"), ("undo main", "ok"),
                ("keys main", "b c"), ("booths", "main"), ("open ab 0 " + TEXT, "ok"), ("booths", "ab main"),
                ("enter ab one", "ok"), ("step ab one", "none"), ("doubts ab one", "none"), ("seen ab one", "-1"),
                ("close main", "ok"), ("booths", "ab"), ("close ab", "ok"), ("booths", "none")]:
            self.same(shell.run(line), answer)

    def test_finish_and_moves(self):
        shell = Shell()
        rule = Rule(3, {B: [(((0, 0),), 1), ((), 2), (((0, 1),), 0)], (2,): [(tuple(places_of((2,))), 1)] * 3,
                        (1, 2): [(((0, 0), (1, 0)), 1), (((0, 1),), 2), (((1, 1), (1, 3)), None)]})
        for line, answer in [
                ("open z 1 " + text_of(rule), "ok"), ("put z a 4", "ok"), ("put z b 7", "ok"), ("put z c 0", "ok"),
                ("enter z one", "ok"), ("start z 2", "ok"), ("shape z", "1>2"), ("finish z one", "a,c b -"),
                ("undo z", "ok"), ("seen z one", "1 2"), ("undo z", "ok"), ("undo z", "ok"), ("move z 1", "ok"),
                ("step z one", "a c"), ("move z 1", "ok"), ("shape z", "2"), ("step z one", "a b c"),
                ("seen z one", "1 1")]:
            self.same(shell.run(line), answer)
        self.shell_raises(UnknownShape, shell, "start z 1")

    def test_lines_that_are_none_by_their_words(self):
        shell = some_shell()
        for first, rest in WORDS.items():
            words = [first] + rest.split(" ") if rest else [first]
            line = " ".join(words)
            wrong = [line + " ", " " + line, line + " more", line + "\n", "\n" + line, line.upper(), line.title(), first + "x",
                     "x " + line, first + "\n" + rest, line.replace(" ", "\t", 1) if rest else "\tbooths"]
            for at in range(len(words)):
                wrong.append(" ".join(words[:at] + words[at + 1:]))
                wrong.append(" ".join(words[:at] + ["", words[at]] + words[at + 1:]))
                wrong.append(" ".join(words[:at] + [""] + words[at + 1:]))
                wrong.append(" ".join(words[:at] + [words[at], words[at]] + words[at + 1:]))
                wrong.append(" ".join(words[:at] + [words[at][:1] + "\n" + words[at][1:]] + words[at + 1:]))
            for thing in wrong:
                self.shell_raises(InvalidLine, shell, thing)
            if first in NUMBER_AT:
                for number in ["", "-1", "+1", "01", "00", "100", "1000", "1.0", "1.", "a", "1a", "a1", "0x1", "1_0", "one",
                               "None", "True", "9" * 3000, "0" * 3000, "0" * 3000 + "1", "1\t", "\t1", "1\n", "99\n", "--1",
                               "1e1", "(1)", ",1"]:
                    changed = words[:NUMBER_AT[first]] + [number] + words[NUMBER_AT[first] + 1:]
                    self.shell_raises(InvalidLine, shell, " ".join(changed))
        for thing in ODD + ["  ", "\n", "\t", "opens", "open", "run main", "help", "told main one", "Booths", "booths\t",
                            "put,main,b,5", ["booths"], ("booths",), {"booths": 1}, "list", "-", "0"]:
            self.shell_raises(InvalidLine, shell, thing)

    def test_tabs_within_words(self):
        shell = some_shell()
        self.shell_raises(UnknownName, shell, "keys main\t")
        self.shell_raises(UnknownLabel, shell, "step main one\t")
        self.shell_raises(InvalidName, shell, "put main \tb 5")
        self.shell_raises(InvalidName, shell, "open ne\tw 1 " + TEXT)
        self.same(self.shell_raises(ParseError, shell, "open new 1 cursors\t2").line, 0)

    def test_numbers_up_to_99(self):
        shell = some_shell()
        for number in range(100):
            if number < 32:
                self.same(shell.run(f"put main b {number}"), "ok")
                self.same(shell.run("undo main"), "ok")
            else:
                self.shell_raises(InvalidHash, shell, f"put main b {number}")
            if number > 5 or number == 1:
                self.shell_raises(InvalidWidth, shell, f"start main {number}")
            self.shell_raises(InvalidNumber, shell, f"move main {number}")
            if number > 5:
                self.shell_raises(InvalidWidth, shell, f"open new {number} {TEXT}")
            elif number > 1:
                self.shell_raises(UnknownShape, shell, f"open new {number} {TEXT}")
            else:
                self.same([shell.run(f"open new {number} {TEXT}"), shell.run("shape new"), shell.run("close new")],
                          ["ok", str(number), "ok"])
        self.same(shell.run("start main 0"), "ok")
        for number in (0, 3, 99):
            self.shell_raises(InvalidNumber, shell, f"move main {number}")
        self.same([shell.run("move main 2"), shell.run("shape main")], ["ok", "0"])

    def test_invalid_line_ahead_of_all_other_errors(self):
        shell = some_shell()
        for line in ["open MAIN 100 x", "open main 06 x", "put nobody a 100", "put nobody A 01", "put main a -1",
                     "start nobody 100", "start main x", "move nobody 00", "move main 100", "step nobody", "keys",
                     "finish nobody one two", "seen nobody", "close nobody more", "undo nobody more", "booths main",
                     "put nobody", "open main 1", "open main 1 a b", "drop nobody a b", "enter nobody one more"]:
            self.shell_raises(InvalidLine, shell, line)

    def test_errors_of_open_in_their_order(self):
        shell = some_shell()
        for name in ("Main", "main1", "mainmainm", "-", "ma,in", "1", "9" * 3000):
            for rest in ("1 " + TEXT, "9 " + TEXT, "1 x", "99 x", "5 " + TEXT):
                self.shell_raises(InvalidName, shell, f"open {name} {rest}")
        for rest in ("1 " + TEXT, "9 " + TEXT, "1 x", "99 x", "5 " + TEXT):
            self.shell_raises(DuplicateName, shell, f"open main {rest}")
        lines = TEXT.split("/")
        for width in (1, 5, 6, 99):
            for text, at in [("x", 0), ("/", 0), (",", 0), ("cursors,2", 1), ("cursors,0", 0), ("cursors,65", 0),
                             ("cursors,02", 0), (TEXT + "/", 7), (TEXT + ",", 6), ("/" + TEXT, 0), ("," + TEXT, 0),
                             (TEXT.replace("/", "//"), 1), (TEXT.replace(",", ",,"), 0), (TEXT + "/x", 7),
                             (TEXT.replace("next,1", "next,2"), 5), (TEXT.replace("0.1", "0.2"), 6),
                             ("/".join(lines[:3]), 3), ("/".join(lines[:6]), 6), (TEXT.replace("shape,1", "shape,0"), 4),
                             ("cursors," + "9" * 3000, 0), (TEXT.replace("next,1", "next," + "1" * 3000), 5)]:
                self.same(self.shell_raises(ParseError, shell, f"open new {width} {text}").line, at)
        for width in (6, 7, 99):
            self.shell_raises(InvalidWidth, shell, f"open new {width} {TEXT}")
        for width in (2, 3, 4, 5):
            self.shell_raises(UnknownShape, shell, f"open new {width} {TEXT}")
        self.same(shell.run("booths"), "main")

    def test_unknown_booths_ahead_of_their_errors(self):
        shell = some_shell()
        for first, rest in WORDS.items():
            if first not in ("open", "booths"):
                for name in ("nobody", "Main", "mainmainm", "one", "a", "9" * 3000, "-1"):
                    self.shell_raises(UnknownName, shell, first + " " + rest.replace("main", name, 1))
        for line in ("put nobody A 99", "start nobody 99", "move nobody 0", "enter nobody One", "step nobody ONE"):
            self.shell_raises(UnknownName, shell, line)

    def test_errors_of_booths(self):
        shell = some_shell()
        for line, error in [
                ("put main A 5", InvalidName), ("put main A 99", InvalidName), ("put main a 5", DuplicateName),
                ("put main a 99", DuplicateName), ("put main b 32", InvalidHash), ("drop main b", UnknownName),
                ("drop main A", UnknownName), ("start main 1", InvalidWidth), ("start main 6", InvalidWidth),
                ("start main 2", UnknownShape), ("move main 1", InvalidNumber), ("enter main One", InvalidName),
                ("enter main one", DuplicateName), ("step main two", UnknownLabel), ("step main ONE", UnknownLabel),
                ("surely main two", UnknownLabel), ("stayed main two", UnknownLabel), ("finish main two", UnknownLabel),
                ("seen main two", UnknownLabel), ("doubts main two", UnknownLabel), ("put main b 99", InvalidHash),
                ("finish main " + "1" * 3000, UnknownLabel), ("drop main " + "1" * 3000, UnknownName)]:
            self.shell_raises(error, shell, line)
        shell.run("start main 0")
        self.shell_raises(Moving, shell, "start main 2")
        self.shell_raises(InvalidNumber, shell, "move main 3")
        for _ in range(3):
            shell.run("undo main")
        self.shell_raises(NothingToUndo, shell, "undo main")
        for line in ("enter main one", "step main one", "step main one"):
            shell.run(line)
        self.shell_raises(Over, shell, "step main one")
        self.shell_raises(Over, shell, "finish main one")
        shell.run("open ring 0 " + text_of(Rule(1, {(0,): [((), 0)]})))
        shell.run("enter ring one")
        self.shell_raises(Endless, shell, "finish ring one")

    def test_booths_closed_and_opened_again(self):
        shell = some_shell()
        shell.run("step main one")
        self.same(shell.run("close main"), "ok")
        for line in ("keys main", "close main", "undo main", "shape main", "seen main one"):
            self.shell_raises(UnknownName, shell, line)
        self.same([shell.run("open main 0 " + TEXT), shell.run("keys main"), shell.run("shape main")], ["ok", "none", "0"])
        self.shell_raises(UnknownLabel, shell, "seen main one")
        self.shell_raises(NothingToUndo, shell, "undo main")

    def test_two_shells_beside_each_other(self):
        one, two = Shell(), Shell()
        one.run("open main 1 " + TEXT)
        self.same([two.run("booths"), one.run("booths")], ["none", "main"])
        self.shell_raises(UnknownName, two, "keys main")
        two.run("open main 0 " + TEXT)
        two.run("put main a 3")
        self.same([one.run("keys main"), two.run("keys main"), one.run("shape main"), two.run("shape main")],
                  ["none", "a", "1", "0"])
        one.run("close main")
        self.same([one.run("booths"), two.run("booths")], ["none", "main"])

    def test_names_that_are_words_of_lines(self):
        shell = Shell()
        for line, answer in [
                ("open booths 1 " + TEXT, "ok"), ("open open 0 " + TEXT, "ok"), ("booths", "booths open"),
                ("keys booths", "none"), ("put booths open 4", "ok"), ("put booths none 4", "ok"), ("keys booths", "none open"),
                ("enter booths booths", "ok"), ("step booths booths", "none open"), ("seen booths booths", "1"),
                ("shape open", "0"), ("undo booths", "ok"), ("close open", "ok"), ("booths", "booths"),
                ("drop booths open", "ok"), ("keys booths", "none"), ("close booths", "ok"), ("booths", "none")]:
            self.same(shell.run(line), answer)

    def test_beside_booths(self):
        """Each line answers what the booth answers, over histories."""
        for seed in range(25):
            source, rule = random.Random(seed), desk_rule(seed, tells=0.8)
            shell, booth, slow = Shell(), Booth(rule, 1), SlowDesk(rule.calls, 1)
            shell.run("open desk 1 " + text_of(rule))
            for _ in range(40):
                kind, given = ("undo", ()) if slow.history and source.random() < 0.2 else desk_call(source, slow)
                getattr(slow, kind)(*given)
                answer, line = getattr(booth, kind)(*given), " ".join([kind, "desk", *map(str, given)])
                self.same(shell.run(line), "ok" if answer is None else " ".join(answer) or "none")
                self.same([shell.run("keys desk"), shell.run("shape desk")],
                          [" ".join(booth.names) or "none", ">".join(map(str, booth.shape))])
                for label in slow.listings:
                    for first, function in [("surely", booth.surely_told), ("stayed", booth.stayed),
                                            ("seen", booth.numbers_of), ("doubts", booth.doubts_of)]:
                        self.same(shell.run(f"{first} desk {label}"), " ".join(map(str, function(label))) or "none")
            for label in slow.listings:
                try:
                    wanted = " ".join(",".join(told) or "-" for told in booth.finish(label))
                except CursorError as error:
                    self.shell_raises(type(error), shell, f"finish desk {label}")
                else:
                    self.same(shell.run(f"finish desk {label}"), wanted)
