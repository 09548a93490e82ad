"""Promises 2, 3 and 10: widths, hashes, buckets."""

from seencursors.bits import bucket, is_hash, is_width
from seencursors.errors import InvalidHash, InvalidWidth

from helpers import LARGE, NO_INTEGERS, Case


class BitsTest(Case):

    def test_examples(self):
        self.same([bucket(13, 3), bucket(31, 0), is_hash(31), is_hash(True)], [5, 0, True, False])

    def test_widths(self):
        for thing in range(-40, 40):
            self.assertIs(is_width(thing), thing in (0, 1, 2, 3, 4, 5), thing)

    def test_hashes(self):
        for thing in range(-40, 70):
            self.assertIs(is_hash(thing), 0 <= thing and thing < 32, thing)

    def test_any_object(self):
        for thing in NO_INTEGERS + LARGE:
            self.assertIs(is_width(thing), False)
            self.assertIs(is_hash(thing), False)

    def test_bucket_is_the_remainder(self):
        for width, many in [(0, 1), (1, 2), (2, 4), (3, 8), (4, 16), (5, 32)]:
            for code in range(32):
                self.same(bucket(code, width), code - code // many * many)

    def test_bucket_of_wrong_things(self):
        for thing in NO_INTEGERS + LARGE + [-1, 6]:
            self.raises(InvalidWidth, bucket, 3, thing)
        for thing in NO_INTEGERS + LARGE + [-1, 32]:
            self.raises(InvalidHash, bucket, thing, 3)
            self.raises(InvalidWidth, bucket, thing, 6)
            self.raises(InvalidWidth, bucket, thing, True)

    def test_named(self):
        self.assertIs(is_width(thing=5), True)
        self.assertIs(is_hash(thing=32), False)
        self.assertEqual(bucket(width=2, code=7), 3)
        self.assertEqual(bucket(7, width=2), 3)
