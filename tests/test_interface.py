"""Promises 1 and 2: every function and method of the interface, by position and by name, and what they return."""

import copy
import importlib
import inspect

from seencursors.booths import Booth
from seencursors.desks import Desk
from seencursors.roads import Road
from seencursors.rules import Rule
from seencursors.shell import Shell
from seencursors.tables import Table
from seencursors.watches import Watch

from helpers import Case, holders

A, B = (0,), (1,)
RULE = Rule(2, {A: [(((0, 0),), None), ((), None)], B: [(((0, 0),), 1), (((0, 1),), None)]})
OTHER = RULE.with_call(A, 1, (((0, 0),), None))
ROAD, ALONE = Road([A, B], [(A, B), (B, A)]), Road([B], [])
TEXT = "cursors 2\nshape 0\ncall 0.0 end\ncall end\nshape 1\ncall 0.0 next 1\ncall 0.1 end"
RUN, STORY, MARKS = [(B, False), (B, False)], [(1, (False,)), (-1, (True,))], [3]
BOTH = {"rule": RULE, "road": ROAD}
RING = Rule(1, {B: [(((0, 0),), 0)]})
TREE = ("call", 0, [(-1, ("call", 0, [(-1, ("stop",))]))])
# Module, function, arguments in the order of the interface.
FUNCTIONS = [
    ("bits", "is_width", {"thing": 3}), ("bits", "is_hash", {"thing": 3}), ("bits", "bucket", {"code": 13, "width": 3}),
    ("shapes", "is_shape", {"thing": (1, 0)}), ("shapes", "places", {"shape": (1, 0)}),
    ("shapes", "is_place", {"shape": (1, 0), "thing": (1, 0)}),
    ("shapes", "place_of", {"shape": (1, 2), "code": 7, "moved": True}),
    ("roads", "full_road", {"shapes": [A, B]}),
    ("texts", "format_rule", {"rule": RULE}), ("texts", "format_road", {"road": ROAD}),
    ("texts", "parse_rule", {"text": TEXT}), ("texts", "parse_road", {"text": "begin 0"}),
    ("runs", "is_run", {**BOTH, "thing": RUN}), ("runs", "cursors_of", {**BOTH, "run": RUN}),
    ("runs", "lists_of", {**BOTH, "run": RUN}), ("runs", "is_whole", {**BOTH, "run": RUN}),
    ("runs", "listed", {**BOTH, "run": RUN, "code": 3}),
    ("missed", "missed_run", {**BOTH, "code": 3}), ("missed", "closed_set", {**BOTH, "code": 2}),
    ("missed", "is_closed", {**BOTH, "code": 2, "thing": [(A, False, 0), (B, False, 0)]}),
    ("missed", "concerns", {**BOTH, "code": 2}),
    ("smallest", "apart", {"rule": RULE, "other": OTHER}), ("smallest", "pairs", {"rule": RULE, "other": RULE}),
    ("smallest", "smallest", {"rule": RULE}),
    ("waits", "longest_wait", {**BOTH, "code": 3}), ("waits", "wait_heights", {**BOTH, "code": 3, "number": 4}),
    ("waits", "is_wait_heights", {**BOTH, "code": 3, "number": 2, "thing": {(B, False, 0): 2, (A, False, 1): 1}}),
    ("waits", "waiting_loop", {"rule": RING, "road": ALONE, "code": 3}),
    ("waits", "is_waiting_loop", {"rule": RING, "road": ALONE, "code": 3, "thing": ([(B, False)], 0)}),
    ("switches", "fewest_switches", {**BOTH, "code": 3}),
    ("switches", "switch_levels", {**BOTH, "code": 3, "number": 1}),
    ("switches", "is_switch_levels", {**BOTH, "code": 3, "number": 1, "thing": {(B, False, 0): 0, (A, False, 1): 1}}),
    ("switches", "weakest", BOTH),
    ("trades", "trade", {**BOTH, "code": 3}), ("trades", "fronts", {**BOTH, "code": 3, "pairs": [(1, 2)]}),
    ("trades", "is_fronts", {**BOTH, "code": 3, "pairs": [(1, 2)],
                             "thing": {(B, False, 0): [(0, 1)], (A, False, 1): [(1, 2)]}}),
    ("traces", "trace_of", {**BOTH, "run": RUN}), ("traces", "is_trace", {**BOTH, "thing": [1]}),
    ("traces", "shapes_at", {**BOTH, "trace": [1]}), ("traces", "nexts", {**BOTH, "trace": [1]}),
    ("doubts", "in_doubt", {**BOTH, "trace": [1]}), ("doubts", "doubt_run", {**BOTH, "trace": [1], "code": 3}),
    ("doubts", "chain", {**BOTH, "trace": [1, -1], "code": 2}),
    ("doubts", "is_chain", {**BOTH, "trace": [1, -1], "code": 2, "thing": [[], []]}),
    ("hindsight", "hindsight", {**BOTH, "trace": [1, -1]}),
    ("hindsight", "run_with", {**BOTH, "trace": [1, -1], "index": 1, "shape": A}),
    ("hindsight", "barrier", {**BOTH, "trace": [1, -1], "index": 0, "shape": A}),
    ("hindsight", "is_barrier", {**BOTH, "trace": [1, -1], "index": 0, "shape": A, "thing": [[], []]}),
    ("stops", "latest_stop", BOTH), ("stops", "stop_paper", {**BOTH, "number": 2}),
    ("stops", "is_stop_paper", {**BOTH, "number": 2, "thing": [{(B, False, 0): 1} if at % 2 else {} for at in range(32)]}),
    ("clear", "first_clear", {**BOTH, "most": 2}),
    ("clear", "doubt_book", {"rule": RULE, "road": ALONE, "most": 1}),
    ("clear", "is_doubt_book", {"rule": RULE, "road": ALONE, "most": 1, "thing": {(1,): (7, [(B, False)])}}),
    ("surprises", "surprise", BOTH), ("surprises", "calm_set", {"rule": RULE, "road": ALONE}),
    ("surprises", "is_calm_set", {"rule": RULE, "road": ALONE, "thing": [(B, B, 1), (B, B, 0)]}),
    ("marks", "sights", {"rule": RULE, "shape": B, "cursor": 0, "marks": MARKS}),
    ("marks", "is_story", {**BOTH, "marks": MARKS, "thing": STORY}),
    ("marks", "shapes_behind", {**BOTH, "marks": MARKS, "story": STORY}),
    ("marks", "next_sights", {**BOTH, "marks": MARKS, "story": STORY[:1]}),
    ("marks", "doubts_behind", {**BOTH, "marks": MARKS, "story": STORY[:1]}),
    ("marks", "witness", {**BOTH, "marks": MARKS, "story": STORY[:1], "code": 5}),
    ("marks", "is_witness", {**BOTH, "marks": MARKS, "story": STORY[:1], "code": 5, "thing": ([(B, False)], [[False]])}),
    ("marks", "story_chain", {**BOTH, "marks": MARKS, "story": STORY, "code": 4}),
    ("marks", "is_story_chain", {**BOTH, "marks": MARKS, "story": STORY, "code": 4, "thing": [[], []]}),
    ("marks", "first_clear_story", {**BOTH, "marks": MARKS, "most": 2}),
    ("plans", "plan", {"rule": RULE, "road": Road([A], []), "most": 2}),
    ("plans", "is_plan", {"rule": RULE, "road": Road([A], []), "most": 2, "thing": TREE}),
    ("plans", "holdout", {"rule": RULE, "road": ALONE, "most": 1}),
    ("plans", "is_holdout", {"rule": RULE, "road": ALONE, "most": 1,
                             "thing": {(0,): ((1,), 1, [(B, False)]), (1,): ((-1,), 8, [(B, False)])}})]


def watch():
    made = Watch(RULE, ROAD)
    made.see(1)
    return made


def table():
    made = Table(1)
    made.put("a", 6)
    made.start(2)
    return made


def desk():
    made = Desk(Rule(2, {**RULE.calls, (1, 0): [(((0, 0), (1, 0)), 1), ((), None)]}), 1)
    made.put("b", 2)
    made.put("a", 4)
    made.enter("one")
    made.step("one")
    return made


def moving():
    made = desk()
    made.start(0)
    return made


def booth():
    made = Booth(desk().rule, 1)
    made.put("b", 2)
    made.put("a", 4)
    made.enter("one")
    made.step("one")
    return made


def moving_booth():
    made = booth()
    made.start(0)
    return made


def shell():
    made = Shell()
    made.run("open main 1 " + TEXT.replace("\n", "/").replace(" ", ","))
    return made


ONE = {"label": "one"}
# What makes an object, method, arguments in the order of the interface.
METHODS = [
    (lambda: RULE, "call", {"shape": B, "cursor": 0}),
    (lambda: RULE, "with_call", {"shape": B, "cursor": 0, "call": ((), 1)}),
    (lambda: ROAD, "behind", {"shape": B}), (lambda: ROAD, "without", {"changes": [(A, B)]}),
    (lambda: ROAD, "with_change", {"change": (B, (2,))}),
    (watch, "see", {"number": -1}), (watch, "undo", {}), (watch, "is_sure", {"code": 3}), (watch, "copy", {}),
    (table, "put", {"name": "b", "code": 3}), (table, "drop", {"name": "a"}), (lambda: Table(1), "start", {"width": 2}),
    (table, "move", {"count": 1}), (table, "code_of", {"name": "a"}), (table, "is_moved", {"name": "a"}),
    (table, "at", {"place": (0, 0)}), (table, "copy", {}),
    (desk, "put", {"name": "c", "code": 3}), (desk, "drop", {"name": "a"}), (desk, "start", {"width": 0}),
    (moving, "move", {"count": 1}), (desk, "enter", {"label": "two"}), (desk, "step", ONE), (desk, "undo", {}),
    (desk, "told", ONE), (desk, "stayed", ONE), (desk, "run_of", {"label": "one", "name": "a"}), (desk, "is_over", ONE),
    (desk, "copy", {}),
    (booth, "put", {"name": "c", "code": 3}), (booth, "drop", {"name": "a"}), (booth, "start", {"width": 0}),
    (moving_booth, "move", {"count": 1}), (booth, "enter", {"label": "two"}), (booth, "step", ONE), (booth, "undo", {}),
    (booth, "finish", ONE), (booth, "told", ONE), (booth, "stayed", ONE), (booth, "is_over", ONE),
    (booth, "numbers_of", ONE), (booth, "doubts_of", ONE), (booth, "surely_told", ONE), (booth, "can_stop", ONE),
    (booth, "copy", {}), (shell, "run", {"line": "booths"})]
PROPERTIES = {
    (lambda: RULE): ["cursors", "shapes", "calls"], (lambda: ROAD): ["begin", "changes", "shapes"],
    watch: ["rule", "road", "trace", "shapes", "nexts", "doubts", "has_ended", "is_clear"],
    table: ["shape", "names", "moved"], desk: ["rule", "shape", "names", "moved"], booth: ["rule", "shape", "names"]}
CLASSES = [
    ("rules", "Rule", {"cursors": 1, "calls": {A: [((), None)]}}),
    ("roads", "Road", {"begin": [A, B], "changes": [(A, B)]}), ("watches", "Watch", BOTH),
    ("tables", "Table", {"width": 3}), ("desks", "Desk", {"rule": RULE, "width": 1}),
    ("booths", "Booth", {"rule": RULE, "width": 1}), ("shell", "Shell", {})]
# Those that only answer.
ASK = ["call", "behind", "code_of", "is_moved", "at", "told", "stayed", "run_of", "is_over", "is_sure", "numbers_of",
       "doubts_of", "surely_told", "can_stop"]
ERRORS = """InvalidWidth InvalidHash InvalidNumber InvalidShape InvalidMove InvalidRule InvalidCall UnknownShape
UnknownCursor InvalidRoad UnknownChange Mismatch InvalidRun InvalidPairs InvalidTrace InvalidMarks InvalidStory
NothingToUndo Moving InvalidPlace UnknownLabel Over Endless InvalidName DuplicateName UnknownName InvalidLine""".split()


def ways_to_call(function, given):
    """Calls by position, by name, by name in another order, and by position first."""
    names = list(given)
    yield lambda: function(*given.values())
    yield lambda: function(**given)
    yield lambda: function(**{name: given[name] for name in names[::-1]})
    yield lambda: function(*list(given.values())[:1], **{name: given[name] for name in names[:0:-1]})


class InterfaceTest(Case):

    def plain(self, thing):
        """What is compared: of objects what they tell."""
        names = {Rule: "calls cursors", Road: "begin changes", Watch: "trace doubts", Table: "shape names moved",
                 Desk: "shape names moved", Booth: "shape names"}
        if type(thing) in names:
            return [type(thing).__name__] + [getattr(thing, name) for name in names[type(thing)].split()]
        return thing

    def test_functions(self):
        self.assertEqual(len({name for _, name, _ in FUNCTIONS}), len(FUNCTIONS))
        for module, name, given in FUNCTIONS:
            function = getattr(importlib.import_module("seencursors." + module), name)
            self.assertEqual([function.__module__, function.__name__], ["seencursors." + module, name])
            self.assertEqual(list(inspect.signature(function).parameters), list(given), name)
            before = {key: copy.deepcopy(self.plain(part)) for key, part in given.items()}
            wanted = copy.deepcopy(self.plain(function(*given.values())))
            self.assertIsNotNone(wanted, name)
            for way in ways_to_call(function, given):
                got = way()
                self.same(self.plain(got), wanted)
                for part in holders(got):
                    part.clear()
                self.same({key: self.plain(part) for key, part in given.items()}, before)

    def test_each_is_function_says_yes_here(self):
        """So what is passed above is a paper, a run or the like, and stays as it is."""
        for module, name, given in FUNCTIONS:
            if name.startswith("is_"):
                function = getattr(importlib.import_module("seencursors." + module), name)
                self.assertIs(function(*given.values()), True, name)

    def test_methods(self):
        for make, name, given in METHODS:
            kind = type(make())
            self.assertIn(name, vars(kind))
            self.assertEqual(list(inspect.signature(vars(kind)[name]).parameters)[1:], list(given), (kind, name))
            wanted = copy.deepcopy(self.plain(getattr(make(), name)(*given.values())))
            for at in range(4):
                made = make()
                got = list(ways_to_call(getattr(made, name), given))[at]()
                self.same(self.plain(got), wanted)
                if name in ("put", "drop", "start", "move", "enter", "see", "undo"):
                    self.assertIsNone(got)
                told = copy.deepcopy(self.state(made))
                for part in holders(got):
                    part.clear()
                self.same(self.state(made), told)
                if name in ASK:
                    self.same(getattr(made, name)(**given), wanted)

    def state(self, made):
        """All that the properties of an object and some of its methods tell."""
        found = [self.plain(getattr(made, name)) for make, names in PROPERTIES.items() if type(make()) is type(made)
                 for name in names]
        if isinstance(made, (Desk, Booth)) and made.names:
            found += [made.told("one"), made.stayed("one"), len(made)]
        if isinstance(made, Desk):
            found += [made.run_of("one", name) for name in made.stayed("one")]
        if isinstance(made, Booth):
            found += [made.numbers_of("one"), made.doubts_of("one"), made.surely_told("one")]
        return found

    def test_properties(self):
        for make, names in PROPERTIES.items():
            made = make()
            for name in names:
                wanted = copy.deepcopy(self.plain(getattr(made, name)))
                for part in holders(getattr(made, name)):
                    part.clear()
                self.same(self.plain(getattr(made, name)), wanted)

    def test_classes(self):
        for module, name, given in CLASSES:
            kind = getattr(importlib.import_module("seencursors." + module), name)
            self.assertEqual(kind.__module__, "seencursors." + module)
            self.assertEqual(list(inspect.signature(kind).parameters), list(given))
            wanted = self.plain(kind(*given.values()))
            for way in ways_to_call(kind, given):
                made = way()
                self.assertIs(type(made), kind)
                if name != "Shell":
                    self.same(self.plain(made), wanted)

    def test_arguments_are_copied(self):
        begin, changes, calls = [A, B], [(A, B)], {A: [((), None)]}
        road, rule, shapes = Road(begin, changes), Rule(1, calls), [A, B]
        full = importlib.import_module("seencursors.roads").full_road(shapes)
        calls[A].append(((), 0))
        calls.clear()
        for part in (begin, changes, shapes):
            part.clear()
        self.same([road.begin, road.changes, rule.calls, full.begin], [[A, B], [(A, B)], {A: [((), None)]}, [A, B]])

    def test_errors(self):
        module = importlib.import_module("seencursors.errors")
        base = module.CursorError
        self.assertEqual(base.__bases__, (ValueError,))
        for name in ERRORS:
            kind = getattr(module, name)
            self.assertEqual(kind.__bases__, (base,))
            self.assertEqual(str(kind("so")), "so")
        self.assertEqual(module.ParseError.__bases__, (base,))
        for made in (module.ParseError(3), module.ParseError(line=3)):
            self.same(made.line, 3)
