"""The part "The interface" of the document: the errors."""

from seencursors import errors

from helpers import Case

NAMES = """InvalidWidth InvalidHash InvalidNumber InvalidShape InvalidMove InvalidRule InvalidCall UnknownShape
UnknownCursor InvalidRoad UnknownChange Mismatch InvalidRun InvalidPairs InvalidTrace InvalidMarks InvalidStory
NothingToUndo Moving InvalidPlace UnknownLabel Over Endless InvalidName DuplicateName UnknownName InvalidLine""".split()


class ErrorsTest(Case):

    def test_base(self):
        self.assertEqual(errors.CursorError.__bases__, (ValueError,))
        self.assertEqual(str(errors.CursorError("words")), "words")

    def test_each_is_a_direct_subclass_that_takes_a_string(self):
        for name in NAMES:
            error = getattr(errors, name)
            self.assertEqual(error.__name__, name)
            self.assertEqual(error.__bases__, (errors.CursorError,), name)
            self.assertEqual(str(error("words")), "words")

    def test_parse_error_has_its_line(self):
        self.assertEqual(errors.ParseError.__bases__, (errors.CursorError,))
        self.assertEqual(errors.ParseError(3).line, 3)
        self.assertEqual(errors.ParseError(line=0).line, 0)
        self.assertIsInstance(str(errors.ParseError(7)), str)

    def test_nothing_else_is_there(self):
        found = [name for name in vars(errors) if not name.startswith("__")]
        self.assertEqual(sorted(found), sorted(NAMES + ["CursorError", "ParseError"]))
