"""Promises 2, 9, 29 and 30: plans and holdouts."""

import itertools
import random

from seencursors.errors import InvalidNumber, Mismatch
from seencursors.plans import holdout, is_holdout, is_plan, plan
from seencursors.roads import Road, full_road
from seencursors.rules import Rule

from helpers import LARGE, NO_HASHES, NO_INTEGERS, ODD, Case, places_of
from model import World, some_calls, some_worlds
from seen import Callers

A, B, AB, BA, C = (0,), (1,), (0, 1), (1, 0), (2,)
RULE = Rule(2, {A: [(((0, 0),), None), ((), None)], B: [(((0, 0),), None), (((0, 1),), None)]})
ROAD, ALONE = full_road([A, B]), Road([B], [])
STOP = ("stop",)
NO_MOSTS = NO_INTEGERS + LARGE + [-1, 0, 4, 5]


def calls_of(*rows):
    """The calls of a shape by the buckets of table 0 that each lists, and how each goes on."""
    return [(tuple((0, number) for number in row), later) for row, later in rows]


def plan_worlds(seed, count):
    """Worlds of up to four cursors, of which some have plans of one, two and three calls, and some none."""
    source = random.Random(seed)
    worlds = some_worlds(seed, count, most_cursors=4, tells=(0.6, 0.9, 0.95), ends=(0.2, 0.5))
    for _ in range(count):
        chosen = source.sample([A, B, C, AB], source.randint(1, 3))
        cursors = source.randint(2, 4)
        calls = some_calls(source, cursors, chosen, 0.4, 0.0)
        for shape in chosen:
            # Each place is listed with one of the cursors, so that it takes several calls.
            for place in places_of(shape):
                at = source.randrange(min(cursors, 3))
                calls[shape][at] = (tuple(sorted(calls[shape][at][0] + (place,))), calls[shape][at][1])
            if source.random() < 0.3:
                at = source.randrange(cursors)
                calls[shape][at] = (tuple(places_of(shape)), calls[shape][at][1])
        begin = source.sample(chosen, source.randint(1, len(chosen)))
        pairs = [pair for pair in itertools.permutations(chosen, 2) if source.random() < 0.3]
        worlds.append(World(cursors, calls, begin, pairs))
    return worlds


def turned_trees(tree, cursors):
    """Trees near one: at some node another cursor, branch, answer, order, kind."""
    if tree == STOP:
        yield from (("call", 0, []), ("stop", 0), (), ("call",), ("call", 0), ("halt",), ("call", 0, [(0, STOP)]))
        yield from (("call", 0, [(-1, STOP)]), ["stop"], "stop", None, ("stop", 0, []), ("stop",) * 2)
        return
    _, cursor, branches = tree
    yield from (STOP, list(tree), tree[:2], tree + (0,), ("stop", cursor, branches), ("", cursor, branches))
    for other in [*range(-1, cursors + 1), True, False, None, "0"]:
        if repr(other) != repr(cursor):
            yield ("call", other, branches)
    yield from (("call", cursor, tuple(branches)), ("call", cursor, dict(branches)), ("call", cursor, None))
    yield from (("call", cursor, branches[::-1]), ("call", cursor, branches + branches[-1:]), ("call", branches, cursor))
    for at, (answer, part) in enumerate(branches):
        ahead, behind = branches[:at], branches[at + 1:]
        yield ("call", cursor, ahead + behind)
        yield ("call", cursor, [*ahead, [answer, part], *behind])
        yield ("call", cursor, [*ahead, (answer, part, 0), *behind])
        yield ("call", cursor, [*ahead, (part, answer), *behind])
        for other in [*range(-1, cursors + 1), bool(answer), None, "0"]:
            if repr(other) != repr(answer):
                yield ("call", cursor, [*ahead, (other, part), *behind])
                yield ("call", cursor, sorted([*ahead, (other, part), (answer, part), *behind], key=repr))
        for odd in turned_trees(part, cursors):
            yield ("call", cursor, [*ahead, (answer, odd), *behind])


def is_plain(tree):
    """Whether a tree is one by its form alone, so that the words can be asked."""
    if tree == STOP:
        return isinstance(tree, tuple)
    if not isinstance(tree, tuple) or len(tree) != 3 or not isinstance(tree[2], list) or tree[0] != "call":
        return False
    return all(isinstance(branch, tuple) and len(branch) == 2 and type(branch[0]) is int and is_plain(branch[1])
               for branch in tree[2])


class PlansTest(Case):

    def test_examples(self):
        self.same([plan(RULE, ALONE, 1), is_plan(RULE, ALONE, 2, ("call", 1, [(-1, ("call", 0, [(-1, STOP)]))]))],
                  [None, True])
        self.same([plan(RULE, ROAD, 2), is_holdout(RULE, ALONE, 1, {
            (0,): ((-1,), 1, [(B, False)]), (1,): ((-1,), 8, [(B, False)])})], [None, True])

    def test_named(self):
        self.assertIs(is_plan(RULE, ALONE, 2, plan(most=2, road=ALONE, rule=RULE)), True)
        self.same(is_plan(thing=STOP, most=2, road=ALONE, rule=RULE), False)
        paper = holdout(most=1, road=ALONE, rule=RULE)
        self.same(is_holdout(thing=paper, most=1, road=ALONE, rule=RULE), True)

    def test_against_the_words(self):
        seen = {}
        for world in plan_worlds(261, 100):
            callers, before = Callers(world), False
            for most in (1, 2, 3):
                wanted = callers.can(most)
                tree = self.fresh(plan, world.rule, world.road, most)
                paper = self.fresh(holdout, world.rule, world.road, most)
                self.same([tree is not None, paper is None], [wanted, wanted])
                if wanted and not before:
                    seen[most] = seen.get(most, 0) + 1
                before = wanted
                if wanted:
                    for more in range(1, 4):
                        self.assertIs(is_plan(world.rule, world.road, more, tree), callers.is_plan(more, tree))
                    self.assertIs(callers.is_plan(most, tree), True)
                else:
                    self.assertIs(callers.is_holdout(most, paper), True)
                    self.assertIs(is_holdout(world.rule, world.road, most, paper), True)
                    turned = dict(reversed(list(paper.items())))
                    self.assertIs(is_holdout(world.rule, world.road, most, turned), True)
            seen[None] = seen.get(None, 0) + (not before)
        for most in (None, 1, 2, 3):
            self.assertGreater(seen.get(most, 0), 5, seen)

    def test_one_two_and_three_calls(self):
        for cursors in (1, 2, 3, 4):
            rule = Rule(cursors, {C: calls_of(*[(
                [bucket for bucket in range(4) if min(bucket, cursors - 1) == at], None) for at in range(cursors)])})
            for most in (1, 2, 3):
                self.assertIs(plan(rule, full_road([C]), most) is None, most < cursors)
                self.assertIs(holdout(rule, full_road([C]), most) is None, most >= cursors)

    def test_what_the_answers_tell(self):
        """The first call tells which table it is, the second one what is asked with this one alone."""
        rule = Rule(3, {B: calls_of(([], 1), ([0, 1], 0), ([], 0)), C: calls_of(([], 2), ([], 0), ([0, 1, 2, 3], 0))})
        still = Road([B, C], [])
        tree = ("call", 0, [(1, ("call", 1, [(0, STOP)])), (2, ("call", 2, [(0, STOP)]))])
        self.assertIs(is_plan(rule, still, 2, tree), True)
        self.assertIsNotNone(plan(rule, still, 2))
        self.assertIsNone(plan(rule, still, 1))
        for most in (1, 2, 3):
            self.assertIsNone(plan(rule, full_road([B, C]), most))
        # Both calls one after the other also do, where the answers tell nothing.
        both = ("call", 1, [(0, ("call", 2, [(0, STOP)]))])
        self.assertIs(is_plan(rule, still, 2, both), True)
        self.assertIs(is_plan(rule, Road([B, C], [(B, C)]), 2, both), True)
        self.assertIs(is_plan(rule, Road([B, C], [(C, B)]), 2, both), False)
        self.assertIs(is_plan(rule, full_road([B, C]), 2, both), False)
        # If the table may become larger alone, what came ahead of it counts.
        for road, wanted in [(Road([B], [(B, C)]), True), (Road([B, C], [(B, C)]), True), (full_road([B, C]), False)]:
            self.assertIs(plan(rule, road, 2) is not None, wanted)

    def test_calls_behind_an_end(self):
        rule = Rule(2, {B: calls_of(([0], None), ([1], None))})
        tree = ("call", 0, [(-1, ("call", 1, [(-1, STOP)]))])
        self.assertIs(is_plan(rule, ALONE, 2, tree), True)
        again = ("call", 0, [(-1, ("call", 0, [(-1, ("call", 1, [(-1, STOP)]))]))])
        self.same([is_plan(rule, ALONE, most, again) for most in (1, 2, 3)], [False, False, True])
        # More calls than are needed, but no more than the number.
        for more, most in ((1, 2), (2, 3)):
            row = STOP
            for cursor in [1, 0, 1][:more] + [0]:
                row = ("call", cursor, [(-1, row)])
            self.same([is_plan(rule, ALONE, number, row) for number in (1, 2, 3)],
                      [False, more <= 1, True])
        late = ("call", 1, [(-1, ("call", 0, [(-1, ("call", 0, [(-1, STOP)]))]))])
        self.same([is_plan(rule, ALONE, most, late) for most in (1, 2, 3)], [False, False, True])
        self.same([is_plan(rule, ALONE, most, STOP) for most in (1, 2, 3)], [False] * 3)

    def test_near_a_plan(self):
        seen = {True: 0, False: 0}
        for world in plan_worlds(262, 40):
            callers = Callers(world)
            for most in (1, 2, 3):
                tree = plan(world.rule, world.road, most)
                if tree is None:
                    continue
                for thing in [tree, *list(turned_trees(tree, world.cursors))[:400]]:
                    wanted = is_plain(thing) and callers.is_plan(most, thing)
                    seen[wanted] += 1
                    self.assertIs(is_plan(world.rule, world.road, most, thing), wanted, thing)
        self.assertGreater(min(seen.values()), 50, seen)

    def test_all_small_trees(self):
        """Each tree of at most two calls by three cursors, judged by all answers that can come."""
        seen = {True: 0, False: 0}
        for world in plan_worlds(263, 12):
            callers = Callers(world)
            answers = [-1, *range(world.cursors)][:3]
            small = [STOP] + [("call", cursor, [(answer, STOP) for answer in row]) for cursor in range(world.cursors)
                              for row in ([], [-1], [0], [1], [-1, 0], [-1, 1], [0, 1])]
            trees = list(small)
            for cursor in range(world.cursors):
                for many in (1, 2):
                    for row in itertools.combinations(answers, many):
                        for parts in itertools.product(small[:9] if many == 2 else small, repeat=many):
                            trees.append(("call", cursor, list(zip(row, parts))))
            for tree in trees:
                for most in (1, 2):
                    wanted = callers.is_plan(most, tree)
                    seen[wanted] += 1
                    self.assertIs(is_plan(world.rule, world.road, most, tree), wanted, (tree, most))
        self.assertGreater(min(seen.values()), 30, seen)

    def test_things_that_are_no_plans(self):
        rule = Rule(2, {B: calls_of(([0, 1], 1), ([], 0)), C: calls_of(([0, 1, 2, 3], 0), ([], 1))})
        road = full_road([B, C])
        tree = ("call", 0, [(0, STOP), (1, STOP)])
        self.assertIs(is_plan(rule, road, 1, tree), True)
        for odd in ["stop", "call", ["stop"], ("stop", None), ("Stop",), ("stop", "stop"), ((),), (("stop",),)]:
            self.assertIs(is_plan(rule, road, 1, odd), False, odd)
        for odd in ODD + ["stop", ("call",), ["call"], "CALL"]:
            self.assertIs(is_plan(rule, road, 1, odd), False, odd)
            self.assertIs(is_plan(rule, road, 1, (odd,)), False, odd)
            self.assertIs(is_plan(rule, road, 1, (odd, 0, tree[2])), False, odd)
            self.assertIs(is_plan(rule, road, 1, ("call", 0, odd)), False, odd)
            if type(odd) is not int or odd != 0:
                self.assertIs(is_plan(rule, road, 1, ("call", odd, tree[2])), False, odd)
            self.assertIs(is_plan(rule, road, 1, ("call", 0, [odd, (1, STOP)])), False, odd)
            self.assertIs(is_plan(rule, road, 1, ("call", 0, [(0, STOP), (1, odd)])), False, odd)
            if type(odd) is not int or odd != 1:
                self.assertIs(is_plan(rule, road, 1, ("call", 0, [(0, STOP), (odd, STOP)])), False, odd)
        for thing in turned_trees(tree, 2):
            self.assertIs(is_plan(rule, road, 1, thing), False, thing)


class HoldoutTest(Case):

    def test_near_a_holdout(self):
        seen, source = {True: 0, False: 0}, random.Random(264)
        for world in plan_worlds(265, 25):
            callers = Callers(world)
            steps = [(shape, moved) for shape in world.shapes for moved in (False, True)]
            for most in (1, 2, 3):
                paper = holdout(world.rule, world.road, most)
                if paper is None:
                    continue
                for key in source.sample(list(paper), min(len(paper), 4)):
                    answers, code, course = paper[key]
                    rest = {other: worth for other, worth in paper.items() if other != key}
                    near = [(answers, other, course) for other in (0, 1, 2, 5, 31)] + [
                        (answers[:-1], code, course), (answers + answers[-1:], code, course),
                        (answers, code, course[:-1]), (answers, code, course + course[-1:]),
                        source.choice(list(paper.values()))]
                    near += [(answers[:-1] + (other,), code, course) for other in range(-1, world.cursors)]
                    for at in range(most):
                        near += [(answers, code, course[:at] + [step] + course[at + 1:]) for step in steps]
                    near += self.others(world, callers, key)
                    things = [rest] + [{**paper, key: worth} for worth in near]
                    things += [{**rest, key[:-1] + (world.cursors,): paper[key]}, {**paper, key + (0,): paper[key]},
                               {**paper, key[:-1]: paper[key]}, {**rest, key[1:] + (-1,): paper[key]}]
                    for thing in things:
                        wanted = callers.is_holdout(most, thing)
                        seen[wanted] += 1
                        self.assertIs(is_holdout(world.rule, world.road, most, thing), wanted, thing)
                for other in (1, 2, 3):
                    self.assertIs(is_holdout(world.rule, world.road, other, paper), other == most)
        self.assertGreater(min(seen.values()), 300, seen)

    def others(self, world, callers, cursors):
        """What fits one tuple of cursors alone: each row of answers that can come with a hash in doubt."""
        for answers, codes in callers.come(cursors).items():
            for code in sorted(codes)[:1]:
                rows = [[]]
                for cursor, answer in zip(cursors, answers):
                    rows = [row + [(shape, moved)] for row in rows
                            for shape in (world.after(row[-1][0]) if row else world.begin)
                            for moved in ([False, True] if len(shape) > 1 else [False])
                            if world.later((shape, moved, cursor)) == (None if answer == -1 else answer)
                            and not world.tells(code, (shape, moved, cursor))]
                yield (answers, code, rows[0])

    def test_answers_to_cursors_that_begin_alike(self):
        rule = Rule(2, {A: calls_of(([], 0), ([], 0)), B: calls_of(([], 1), ([], 1))})
        a, b = (A, False), (B, False)
        for road, ways in ((full_road([A, B]), 4), (Road([A, B], []), 2)):
            rows = [((0, 0), [a, a]), ((1, 1), [b, b]), ((0, 1), [a, b]), ((1, 0), [b, a])][:ways]
            keys, count = [(0, 0), (0, 1), (1, 0), (1, 1)], 0
            for chosen in itertools.product(rows, repeat=4):
                paper = {key: (answers, at, course) for at, (key, (answers, course)) in enumerate(zip(keys, chosen))}
                wanted = chosen[0][0][0] == chosen[1][0][0] and chosen[2][0][0] == chosen[3][0][0]
                count += wanted
                self.assertIs(is_holdout(rule, road, 2, paper), wanted, paper)
            self.assertEqual(count, ways ** 4 // 4)
        # Three calls: rows that begin alike by two have two answers alike.
        keys = list(itertools.product((0, 1), repeat=3))
        paper = {key: ((0, 1, 0), 7, [a, b, a]) for key in keys}
        self.assertIs(is_holdout(rule, ROAD, 3, paper), True)
        self.assertIs(is_holdout(rule, ROAD, 3, {**paper, (1, 0, 1): ((0, 1, 1), 7, [a, b, b])}), True)
        for other in (((0, 0, 0), 7, [a, a, a]), ((1, 1, 0), 7, [b, b, a])):
            self.assertIs(is_holdout(rule, ROAD, 3, {**paper, (1, 0, 1): other}), False)
        both = {(1, 0, last): ((0, 0, 0), 7, [a, a, a]) for last in (0, 1)}
        self.assertIs(is_holdout(rule, ROAD, 3, {**paper, **both}), True)
        whole = {(1, *rest): ((1, 0, 0), 7, [b, a, a]) for rest in itertools.product((0, 1), repeat=2)}
        self.assertIs(is_holdout(rule, ROAD, 3, {**paper, **whole}), True)

    def test_things_that_are_no_holdouts(self):
        rule = Rule(2, {AB: [(((0, 0),), 1), (((1, 0),), None)], B: [((), 1), ((), 0)]})
        road = full_road([AB, B])
        paper = holdout(rule, road, 1)
        self.assertIs(is_holdout(rule, road, 1, paper), True)
        for thing in ODD + [list(paper.items()), tuple(paper.items()), list(paper), [paper], {(0,): paper[(0,)]}]:
            self.assertIs(is_holdout(rule, road, 1, thing), False, thing)
        paper = {(0,): ((1,), 3, [(AB, True)]), (1,): ((-1,), 4, [(AB, False)])}
        self.assertIs(is_holdout(rule, road, 1, paper), True)
        for key, (answers, code, course) in paper.items():
            rest = {other: worth for other, worth in paper.items() if other != key}
            wrong = ODD + [
                [answers, code, course], (answers, code), (answers, code, course, 0), (code, answers, course),
                (list(answers), code, course), (answers, code, tuple(course)), (answers[0], code, course),
                (answers, code, [list(course[0])]), (answers, code, [(AB, int(course[0][1]))]),
                (answers, code, [((0, True), course[0][1])]), (answers, code, [((False, 1), course[0][1])]),
                ((bool(answers[0]),), code, course), (answers + answers, code, course), ((answers,), code, course)]
            wrong += [(odd, code, course) for odd in ODD] + [((odd,), code, course) for odd in NO_INTEGERS]
            wrong += [(answers, odd, course) for odd in NO_HASHES]
            wrong += [(answers, code, odd) for odd in ODD] + [(answers, code, [odd]) for odd in ODD]
            for odd in wrong:
                self.assertIs(is_holdout(rule, road, 1, {**paper, key: odd}), False, odd)
            for odd in [(bool(key[0]),), key[0], str(key[0]), (str(key[0]),), (key,), key + key, (), (2,), (-1,), (None,),
                        None, True, ((),)]:
                self.assertIs(is_holdout(rule, road, 1, {**rest, odd: paper[key]}), False, odd)
                self.assertIs(is_holdout(rule, road, 1, {**paper, odd: paper[key]}),
                              odd in paper, odd)

    def test_answers_are_integers(self):
        rule = Rule(2, {B: [((), 1), ((), 0)]})
        paper = holdout(rule, ALONE, 2)
        self.assertIs(is_holdout(rule, ALONE, 2, paper), True)
        for key, (answers, code, course) in paper.items():
            for odd in [(bool(answers[0]), answers[1]), (answers[0], bool(answers[1])), tuple(map(bool, answers)),
                        (str(answers[0]), answers[1]), (answers[0], None)]:
                self.assertIs(is_holdout(rule, ALONE, 2, {**paper, key: (odd, code, course)}), False)
            same = {other: ((bool(worth[0][0]), worth[0][1]), *worth[1:]) for other, worth in paper.items()}
            self.assertIs(is_holdout(rule, ALONE, 2, same), False)

    def test_a_holdout_has_all_rows_of_cursors(self):
        rule = Rule(4, {B: [((), None)] * 4})
        for most in (1, 2, 3):
            paper = holdout(rule, ALONE, most)
            self.assertEqual(list(paper), list(itertools.product(range(4), repeat=most)))
            for key in paper:
                self.same(paper[key][0], (-1,) * most)
                self.same(paper[key][2], [(B, False)] * most)

    def test_greatest_rules_and_roads(self):
        source, shapes, seen = random.Random(266), [(5, 4), (4, 5), (5,)], {True: 0, False: 0}
        for tells in (0.1, 0.8, 0.97, 0.99, 1.0):
            rule, road = Rule(4, some_calls(source, 4, shapes, 0.3, tells)), full_road(shapes)
            for most in (1, 2, 3):
                tree, paper = plan(rule, road, most), holdout(rule, road, most)
                seen[tree is None] += 1
                self.assertIs(tree is None, paper is not None)
                self.assertIs(is_plan(rule, road, most, tree), tree is not None)
                self.assertIs(is_holdout(rule, road, most, paper), paper is not None)
        self.assertGreater(min(seen.values()), 2, seen)

    def test_errors_in_their_order(self):
        for function, rest in [(plan, []), (holdout, []), (is_plan, [STOP]), (is_plan, [None]), (is_holdout, [{}]),
                               (is_holdout, [None])]:
            for road in (Road([A, C], []), Road([A], [(A, C)]), full_road([AB])):
                for most in (1, 0, None):
                    self.raises(Mismatch, function, RULE, road, most, *rest)
            for most in NO_MOSTS:
                self.raises(InvalidNumber, function, RULE, ROAD, most, *rest)
            for most in (1, 2, 3):
                function(RULE, ROAD, most, *rest)

    def test_in_turns(self):
        asked = [(world, most) for world in plan_worlds(267, 6) for most in (1, 2, 3)]
        fresh = {}
        for at, (world, most) in enumerate(asked):
            rule, road = Rule(world.cursors, world.calls), Road(world.begin, world.changes)
            fresh[at] = [plan(rule, road, most), holdout(rule, road, most)]
        order = list(range(len(asked))) * 3
        random.Random(268).shuffle(order)
        for at in order:
            world, most = asked[at]
            self.same([plan(world.rule, world.road, most), holdout(world.rule, world.road, most)], fresh[at])
