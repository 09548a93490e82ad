"""The interface of the document and the plain form of the package's files."""

import ast
import builtins
import pathlib
import unittest

FOLDER = pathlib.Path(__file__).resolve().parent.parent / "seencursors"

FUNCTIONS = {
    "bits": ["is_width(thing)", "is_hash(thing)", "bucket(code, width)"],
    "shapes": ["is_shape(thing)", "places(shape)", "is_place(shape, thing)", "place_of(shape, code, moved)"],
    "roads": ["full_road(shapes)"],
    "texts": ["format_rule(rule)", "format_road(road)", "parse_rule(text)", "parse_road(text)"],
    "runs": [
        "is_run(rule, road, thing)", "cursors_of(rule, road, run)", "lists_of(rule, road, run)",
        "is_whole(rule, road, run)", "listed(rule, road, run, code)"],
    "missed": [
        "missed_run(rule, road, code)", "closed_set(rule, road, code)", "is_closed(rule, road, code, thing)",
        "concerns(rule, road, code)"],
    "smallest": ["apart(rule, other)", "pairs(rule, other)", "smallest(rule)"],
    "waits": [
        "longest_wait(rule, road, code)", "wait_heights(rule, road, code, number)",
        "is_wait_heights(rule, road, code, number, thing)", "waiting_loop(rule, road, code)",
        "is_waiting_loop(rule, road, code, thing)"],
    "switches": [
        "fewest_switches(rule, road, code)", "switch_levels(rule, road, code, number)",
        "is_switch_levels(rule, road, code, number, thing)", "weakest(rule, road)"],
    "trades": [
        "trade(rule, road, code)", "fronts(rule, road, code, pairs)", "is_fronts(rule, road, code, pairs, thing)"],
    "traces": [
        "trace_of(rule, road, run)", "is_trace(rule, road, thing)", "shapes_at(rule, road, trace)",
        "nexts(rule, road, trace)"],
    "doubts": [
        "in_doubt(rule, road, trace)", "doubt_run(rule, road, trace, code)", "chain(rule, road, trace, code)",
        "is_chain(rule, road, trace, code, thing)"],
    "hindsight": [
        "hindsight(rule, road, trace)", "run_with(rule, road, trace, index, shape)",
        "barrier(rule, road, trace, index, shape)", "is_barrier(rule, road, trace, index, shape, thing)"],
    "stops": ["latest_stop(rule, road)", "stop_paper(rule, road, number)", "is_stop_paper(rule, road, number, thing)"],
    "clear": ["first_clear(rule, road, most)", "doubt_book(rule, road, most)", "is_doubt_book(rule, road, most, thing)"],
    "surprises": ["surprise(rule, road)", "calm_set(rule, road)", "is_calm_set(rule, road, thing)"],
    "marks": [
        "sights(rule, shape, cursor, marks)", "is_story(rule, road, marks, thing)",
        "shapes_behind(rule, road, marks, story)", "next_sights(rule, road, marks, story)",
        "doubts_behind(rule, road, marks, story)", "witness(rule, road, marks, story, code)",
        "is_witness(rule, road, marks, story, code, thing)", "story_chain(rule, road, marks, story, code)",
        "is_story_chain(rule, road, marks, story, code, thing)", "first_clear_story(rule, road, marks, most)"],
    "plans": [
        "plan(rule, road, most)", "is_plan(rule, road, most, thing)", "holdout(rule, road, most)",
        "is_holdout(rule, road, most, thing)"],
}
CLASSES = {
    "rules": {"Rule": [
        "__init__(self, cursors, calls)", "cursors(self)", "shapes(self)", "calls(self)", "call(self, shape, cursor)",
        "with_call(self, shape, cursor, call)", "__eq__(self, other)"]},
    "roads": {"Road": [
        "__init__(self, begin, changes)", "begin(self)", "changes(self)", "shapes(self)", "behind(self, shape)",
        "without(self, changes)", "with_change(self, change)", "__eq__(self, other)"]},
    "watches": {"Watch": [
        "__init__(self, rule, road)", "see(self, number)", "undo(self)", "rule(self)", "road(self)", "trace(self)",
        "shapes(self)", "nexts(self)", "doubts(self)", "has_ended(self)", "is_clear(self)", "is_sure(self, code)",
        "__len__(self)", "copy(self)"]},
    "tables": {"Table": [
        "__init__(self, width)", "put(self, name, code)", "drop(self, name)", "start(self, width)", "move(self, count)",
        "shape(self)", "names(self)", "moved(self)", "code_of(self, name)", "is_moved(self, name)", "at(self, place)",
        "copy(self)"]},
    "desks": {"Desk": [
        "__init__(self, rule, width)", "put(self, name, code)", "drop(self, name)", "start(self, width)",
        "move(self, count)", "enter(self, label)", "step(self, label)", "undo(self)", "rule(self)", "shape(self)",
        "names(self)", "moved(self)", "told(self, label)", "stayed(self, label)", "run_of(self, label, name)",
        "is_over(self, label)", "__len__(self)", "copy(self)"]},
    "booths": {"Booth": [
        "__init__(self, rule, width)", "put(self, name, code)", "drop(self, name)", "start(self, width)",
        "move(self, count)", "enter(self, label)", "step(self, label)", "undo(self)", "finish(self, label)", "rule(self)",
        "shape(self)", "names(self)", "told(self, label)", "stayed(self, label)", "is_over(self, label)",
        "numbers_of(self, label)", "doubts_of(self, label)", "surely_told(self, label)", "can_stop(self, label)",
        "__len__(self)", "copy(self)"]},
    "shell": {"Shell": ["__init__(self)", "run(self, line)"]},
}

BUILTINS = """len range enumerate zip min max sum abs sorted reversed int str bool bytes list tuple dict set frozenset
isinstance ord repr any all divmod pow iter next map super property staticmethod classmethod NotImplemented Exception
ValueError TypeError KeyError IndexError LookupError ZeroDivisionError RuntimeError StopIteration type""".split()
LIBRARY = {"heapq": ["heapify", "heappop", "heappush"]}
# Generator expressions are barred beside a class with __eq__ where the package would want them.
BARRED = (
    ast.GeneratorExp, ast.AsyncFunctionDef, ast.AsyncFor, ast.AsyncWith, ast.Await, ast.Import, ast.Div, ast.SetComp)


def files():
    return sorted(FOLDER.rglob("*.py"))


def tree_of(path):
    return ast.parse(path.read_text())


def signatures(body):
    return [f"{node.name}({ast.unparse(node.args)})" for node in body if isinstance(node, ast.FunctionDef)]


class PackageTest(unittest.TestCase):

    def test_functions_stand_in_their_files(self):
        for name, wanted in FUNCTIONS.items():
            found = signatures(tree_of(FOLDER / f"{name}.py").body)
            for line in wanted:
                self.assertIn(line, found, name)

    def test_classes_have_their_methods_in_their_own_bodies(self):
        for name, wanted in CLASSES.items():
            found = {node.name: node for node in tree_of(FOLDER / f"{name}.py").body if isinstance(node, ast.ClassDef)}
            for label, lines in wanted.items():
                for line in lines:
                    self.assertIn(line, signatures(found[label].body), label)

    def test_the_folder_holds_python_alone(self):
        for path in FOLDER.rglob("*"):
            if path.is_file() and path.parent.name != "__pycache__":
                self.assertEqual(path.suffix, ".py", path)

    def test_sizes_and_characters(self):
        for path in files():
            lines = path.read_text().split("\n")
            self.assertLess(len(lines), 400, path)
            for line in lines:
                self.assertLessEqual(len(line), 120, path)
                self.assertTrue(all(" " <= sign <= "~" for sign in line), (path, line))
            for node in ast.walk(tree_of(path)):
                if isinstance(node, ast.FunctionDef):
                    self.assertLessEqual(node.end_lineno - node.lineno, 39, (path, node.name))

    def test_plain_statements(self):
        for path in files():
            for node in ast.walk(tree_of(path)):
                barred = isinstance(node, BARRED) and not self.is_set_in_sorted(path, node)
                self.assertFalse(barred, (path, getattr(node, "lineno", 0)))
                if isinstance(node, ast.ImportFrom) and node.module in LIBRARY:
                    self.assertLessEqual({name.name for name in node.names}, set(LIBRARY[node.module]), path)
                elif isinstance(node, ast.ImportFrom):
                    self.assertEqual((node.module or "").split(".")[0], "seencursors", path)
                if isinstance(node, ast.FunctionDef):
                    self.assertIn([ast.unparse(mark) for mark in node.decorator_list], ([], ["property"]), path)
                if isinstance(node, ast.Constant) and isinstance(node.value, str):
                    self.assertNotIn("%", node.value, path)

    def is_set_in_sorted(self, path, node):
        """A set comprehension stands directly in sorted or len."""
        calls = [call for call in ast.walk(tree_of(path)) if isinstance(call, ast.Call)]
        heads = [ast.dump(call.args[0], include_attributes=True) for call in calls
                 if isinstance(call.func, ast.Name) and call.func.id in ("sorted", "len") and len(call.args) == 1]
        return isinstance(node, ast.SetComp) and ast.dump(node, include_attributes=True) in heads

    def test_builtins(self):
        for path in files():
            for node in ast.walk(tree_of(path)):
                if isinstance(node, ast.Name) and hasattr(builtins, node.id):
                    self.assertIn(node.id, BUILTINS, path)
                    self.assertIsInstance(node.ctx, ast.Load, (path, node.id))
                if isinstance(node, ast.arg):
                    self.assertFalse(hasattr(builtins, node.arg), (path, node.arg))

    def test_type_is_asked_beside_a_class_alone(self):
        for path in files():
            tree = tree_of(path)
            right = [node.left for node in ast.walk(tree) if isinstance(node, ast.Compare)
                     and len(node.ops) == 1 and isinstance(node.ops[0], (ast.Is, ast.IsNot))
                     and isinstance(node.comparators[0], ast.Name)]
            for node in ast.walk(tree):
                if isinstance(node, ast.Call) and isinstance(node.func, ast.Name) and node.func.id == "type":
                    self.assertIn(node, right, (path, node.lineno))

    def test_is_stands_beside_plain_values(self):
        for path in files():
            for node in ast.walk(tree_of(path)):
                if isinstance(node, ast.Compare) and any(isinstance(op, (ast.Is, ast.IsNot)) for op in node.ops):
                    about = node.comparators[0]
                    plain = isinstance(about, ast.Constant) and repr(about.value) in ("None", "True", "False")
                    self.assertTrue(plain or ast.unparse(node.left).startswith("type("), (path, node.lineno))

    def test_no_two_files_import_from_each_other(self):
        ahead = {path.stem: [node.module.split(".")[1] for node in tree_of(path).body
                             if isinstance(node, ast.ImportFrom) and node.module.startswith("seencursors.")]
                 for path in files()}
        while ahead:
            free = [name for name, wanted in ahead.items() if not set(wanted) & set(ahead)]
            self.assertTrue(free, ahead)
            for name in free:
                del ahead[name]

    def test_no_name_of_an_import_is_used_for_something_else(self):
        for path in files():
            imported = [name.name for node in ast.walk(tree_of(path)) if isinstance(node, ast.ImportFrom)
                        for name in node.names]
            for node in ast.walk(tree_of(path)):
                if isinstance(node, ast.Name) and isinstance(node.ctx, ast.Store):
                    self.assertNotIn(node.id, imported, path)
                if isinstance(node, ast.arg):
                    self.assertNotIn(node.arg, imported, path)
            self.assertEqual(len(imported), len(set(imported)), path)
            for name in imported:
                used = [node for node in ast.walk(tree_of(path)) if isinstance(node, ast.Name) and node.id == name]
                self.assertTrue(used, (path, name))
