"""Rules of 64 cursors in a row, in a ring, and up and down over four shapes: each question in a time one would wait."""

import random
import time

from seencursors.booths import Booth
from seencursors.desks import Desk
from seencursors.doubts import chain, doubt_run, in_doubt, is_chain
from seencursors.errors import Endless, Over
from seencursors.hindsight import barrier, hindsight, is_barrier, run_with
from seencursors.marks import doubts_behind, is_story, story_chain, witness
from seencursors.missed import closed_set, concerns, is_closed, missed_run
from seencursors.roads import full_road
from seencursors.rules import Rule
from seencursors.runs import is_run, listed
from seencursors.shell import Shell
from seencursors.smallest import apart, pairs, smallest
from seencursors.stops import is_stop_paper, latest_stop, stop_paper
from seencursors.surprises import calm_set, is_calm_set, surprise
from seencursors.switches import fewest_switches, is_switch_levels, switch_levels, weakest
from seencursors.tables import Table
from seencursors.texts import format_rule, parse_rule
from seencursors.traces import is_trace, nexts, shapes_at
from seencursors.waits import is_wait_heights, is_waiting_loop, longest_wait, wait_heights, waiting_loop
from seencursors.watches import Watch

from helpers import TWELVE, Case, places_of

# Many times what any of them takes on a common machine.
SECONDS = 30
FOUR = [(5,), (4,), (5, 4), (4, 5)]
LETTERS = "abcdefghijklmnopqrstuvwxyz"


def way(kind, shapes, tells, seed=1):
    """A rule of 64 cursors; up and down goes to the next cursor with every second shape, else to the one before."""
    source, calls = random.Random(seed), {}
    for index, shape in enumerate(shapes):
        calls[shape] = []
        for at in range(64):
            later = at - 1 if kind == "up and down" and index % 2 else at + 1
            if kind == "ring":
                later %= 64
            elif kind == "up and down" and later == 64:
                later = 63
            listing = tuple(place for place in places_of(shape) if source.random() < tells)
            calls[shape].append((listing, later if 0 <= later < 64 else None))
    return Rule(64, calls)


def some_ways():
    for kind in ("row", "ring", "up and down"):
        for tells in (0.0, 0.1, 0.9):
            yield way(kind, FOUR, tells), FOUR
        yield way(kind, TWELVE, 0.3), TWELVE


class GreatestTest(Case):

    def soon(self, function, *given):
        before = time.perf_counter()
        got = function(*given)
        self.assertLess(time.perf_counter() - before, SECONDS, function)
        return got

    def test_questions_about_a_hash(self):
        for rule, shapes in some_ways():
            road = full_road(shapes)
            for code in (0, 21):
                asked = (rule, road, code)
                missed, paper = self.soon(missed_run, *asked), self.soon(closed_set, *asked)
                self.assertIs(missed is None, paper is not None)
                self.assertIs(self.soon(is_closed, *asked, paper), missed is None)
                self.soon(concerns, *asked)
                few = self.soon(fewest_switches, *asked)
                levels = self.soon(switch_levels, *asked, 10 ** 9 if few is None else few[0])
                self.assertIs(self.soon(is_switch_levels, *asked, 10 ** 9 if few is None else few[0], levels), True)
                longest, loop = self.soon(longest_wait, *asked), self.soon(waiting_loop, *asked)
                self.assertIs(longest is None, loop is not None)
                if longest is None:
                    self.assertIs(self.soon(is_waiting_loop, *asked, loop), True)
                else:
                    paper = self.soon(wait_heights, *asked, longest[0])
                    self.assertIs(self.soon(is_wait_heights, *asked, longest[0], paper), True)

    def test_questions_about_all(self):
        for rule, shapes in some_ways():
            road = full_road(shapes)
            self.soon(weakest, rule, road)
            latest = self.soon(latest_stop, rule, road)
            paper = self.soon(stop_paper, rule, road, 10 ** 9 if latest is None else latest[0])
            self.assertIs(paper is None, latest is None)
            if latest is not None:
                self.assertIs(self.soon(is_stop_paper, rule, road, latest[0], paper), True)
            least = self.soon(smallest, rule)
            self.assertIsNone(self.soon(apart, rule, least))
            self.assertIsNotNone(self.soon(pairs, rule, least))
            self.assertEqual(self.soon(parse_rule, self.soon(format_rule, rule)), rule)
            six = full_road(shapes[:6])
            found, paper = self.soon(surprise, rule, six), self.soon(calm_set, rule, six)
            self.assertIs(found is None, paper is not None)
            self.assertIs(self.soon(is_calm_set, rule, six, paper), found is None)

    def test_long_traces_and_watches(self):
        for rule, shapes in some_ways():
            source, road = random.Random(2), full_road(shapes)
            watch, trace, marks, story = Watch(rule, road), [], [3, 17], []
            while len(trace) < 200 and watch.nexts:
                trace.append(source.choice([number for number in watch.nexts if number != -1] or watch.nexts))
                self.soon(watch.see, trace[-1])
            asked = (rule, road, trace)
            self.assertGreaterEqual(len(trace), 64)
            self.assertIs(self.soon(is_trace, *asked), True)
            self.same([watch.shapes, watch.nexts, watch.doubts],
                      [self.soon(shapes_at, *asked), self.soon(nexts, *asked), self.soon(in_doubt, *asked)])
            lists = self.soon(hindsight, *asked)
            for code in (0, 21):
                run, paper = self.soon(doubt_run, *asked, code), self.soon(chain, *asked, code)
                self.assertIs(self.soon(is_chain, *asked, code, paper) if run is None else
                              self.soon(is_run, rule, road, run), True)
            for shape in shapes:
                run, paper = self.soon(run_with, *asked, 70 % len(trace), shape), self.soon(
                    barrier, *asked, 70 % len(trace), shape)
                self.same([run is not None, paper is None], [shape in lists[70 % len(trace)]] * 2)
                self.assertIs(self.soon(is_barrier, *asked, 70 % len(trace), shape, paper), run is None)
            # A story with these numbers, by the shapes of a run.
            run = self.soon(run_with, *asked, 0, lists[0][0])
            for number, row in zip(trace, zip(*[self.soon(listed, rule, road, run, mark) for mark in marks])):
                story.append((number, row))
            self.assertIs(self.soon(is_story, rule, road, marks, story), True)
            doubts = self.soon(doubts_behind, rule, road, marks, story)
            self.assertLessEqual(set(doubts), set(watch.doubts))
            for code in (0, 21):
                found = [self.soon(function, rule, road, marks, story, code) for function in (witness, story_chain)]
                self.same([found[0] is not None, found[1] is None], [code in doubts] * 2)

    def test_desks_and_booths(self):
        names = [one + two + three for one in LETTERS[:2] for two in LETTERS for three in LETTERS]
        for rule, shapes in some_ways():
            if shapes != FOUR:
                continue
            desk, booth = Desk(rule, 5), Booth(rule, 5)
            for made in (desk, booth):
                for at, name in enumerate(names):
                    made.put(name, at * 7 % 32)
                made.enter("one")
            for made in (desk, booth):
                for at in range(90):
                    try:
                        self.soon(made.step, "one")
                    except Over:
                        break
                    if len(made.shape) == 2:
                        made.move(8)
                    else:
                        made.start(9 - made.shape[0])
            self.same([desk.told("one"), desk.stayed("one"), desk.names], [booth.told("one"), booth.stayed("one"), names])
            self.same(len(desk.run_of("one", "aaa")), len(booth.numbers_of("one")))
            self.assertLessEqual(set(booth.surely_told("one")), set(booth.told("one")))
            booth.enter("two")
            try:
                self.assertLessEqual(len(self.soon(booth.finish, "two")), 64)
            except Endless:
                self.same(booth.numbers_of("two"), [])
            other = self.soon(booth.copy)
            while len(booth):
                booth.undo()
            self.same([booth.names, other.names], [[], names])

    def test_a_great_table_by_the_shell(self):
        shell, table = Shell(), Table(5)
        text = format_rule(way("ring", FOUR, 0.5)).replace("\n", "/").replace(" ", ",")
        shell.run("open main 5 " + text)
        for at in range(26 * 26):
            name = LETTERS[at // 26] + LETTERS[at % 26]
            shell.run(f"put main {name} {at % 32}")
            table.put(name, at % 32)
        shell.run("enter main one")
        for line in ("start main 4", "move main 31", "move main 1"):
            self.soon(shell.run, "step main one")
            shell.run(line)
        self.same(shell.run("shape main"), "4")
        self.same(self.soon(shell.run, "keys main").split(), table.names)
        self.same(len(self.soon(shell.run, "seen main one").split()), 3)
        table.start(4)
        for count in (31, 1):
            table.move(count)
        self.same([table.at((0, 15)), table.shape],
                  [[name for name in table.names if table.code_of(name) % 16 == 15], (4,)])
