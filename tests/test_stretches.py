import unittest

from growbook.errors import BadPaper
from growbook.stretches import book_seal, growth_of, leaf_seal, none_seal, path_of, risen, split, top_of
from tests.helper import (
    all_seals, leaves_of, list_seal, noting_seal, numbering_seal, plain_growth, plain_path, plain_split, plain_top,
    tuple_seal,
)

SIZES = [*range(1, 41), 63, 64, 65, 100, 127, 128, 129, 255, 256, 257]


class Split(unittest.TestCase):
    def test_small_sizes(self):
        told = [split(size) for size in range(2, 18)]
        self.assertEqual(told, [1, 2, 2, 4, 4, 4, 4, 8, 8, 8, 8, 8, 8, 8, 8, 16])

    def test_sizes_one_by_one(self):
        for size in range(2, 5000):
            self.assertEqual(split(size), plain_split(size))

    def test_powers_of_two_and_their_neighbours(self):
        for power in range(2, 200):
            self.assertEqual(split((1 << power) - 1), 1 << (power - 1))
            self.assertEqual(split(1 << power), 1 << (power - 1))
            self.assertEqual(split((1 << power) + 1), 1 << power)

    def test_very_great_sizes(self):
        self.assertEqual(split(1 << 40), 1 << 39)
        self.assertEqual(split((1 << 40) + 1), 1 << 40)
        self.assertEqual(split((1 << 41) - 1), 1 << 40)

    def test_it_is_a_whole_number(self):
        for size in (2, 3, 1 << 40):
            self.assertIs(type(split(size)), int)

    def test_sizes_beyond_the_bound_are_not_refused(self):
        for size in (1, 0, -1):
            self.assertIs(type(split(size)), int)


class Seals(unittest.TestCase):
    def test_the_none_seal(self):
        calls = []
        self.assertEqual(none_seal(noting_seal(calls)), ("none", 0, 0))
        self.assertEqual(calls, [("none", 0, 0)])
        self.assertEqual([type(thing) for thing in calls[0]], [str, int, int])

    def test_the_leaf_seal(self):
        calls = []
        self.assertEqual(leaf_seal(noting_seal(calls), "put 1 a", "a head"), ("leaf", "put 1 a", "a head"))
        self.assertEqual(calls, [("leaf", "put 1 a", "a head")])

    def test_the_book_seal(self):
        calls = []
        self.assertEqual(book_seal(noting_seal(calls), 7, "a top"), ("book", 7, "a top"))
        self.assertEqual(calls, [("book", 7, "a top")])

    def test_the_empty_text_and_the_empty_book(self):
        self.assertEqual(leaf_seal(tuple_seal, "", None), ("leaf", "", None))
        self.assertEqual(book_seal(tuple_seal, 0, none_seal(tuple_seal)), ("book", 0, ("none", 0, 0)))


class Tops(unittest.TestCase):
    def test_rows_written_out(self):
        def pair(first, rest):
            return ("pair", first, rest)

        self.assertEqual(top_of(tuple_seal, []), ("none", 0, 0))
        self.assertEqual(top_of(tuple_seal, ["a"]), "a")
        self.assertEqual(top_of(tuple_seal, ["a", "b"]), pair("a", "b"))
        self.assertEqual(top_of(tuple_seal, ["a", "b", "c"]), pair(pair("a", "b"), "c"))
        self.assertEqual(top_of(tuple_seal, ["a", "b", "c", "d"]), pair(pair("a", "b"), pair("c", "d")))
        self.assertEqual(top_of(tuple_seal, list("abcde")), pair(pair(pair("a", "b"), pair("c", "d")), "e"))
        self.assertEqual(
            top_of(tuple_seal, list("abcdefg")),
            pair(pair(pair("a", "b"), pair("c", "d")), pair(pair("e", "f"), "g")),
        )

    def test_all_sizes_up_to_400(self):
        numbers = numbering_seal()
        for size in range(401):
            leaves = leaves_of(size)
            self.assertEqual(top_of(tuple_seal, leaves), plain_top(tuple_seal, leaves))
            self.assertEqual(top_of(numbers, leaves), plain_top(numbers, leaves))

    def test_leaves_that_are_alike(self):
        tops = []
        for size in range(1, 70):
            leaves = ["same"] * size
            tops.append(top_of(tuple_seal, leaves))
            self.assertEqual(tops[-1], plain_top(tuple_seal, leaves))
        self.assertEqual(len(set(tops)), len(tops))

    def test_every_seal_and_any_leaf(self):
        for seal in all_seals():
            for size in range(12):
                for leaves in (leaves_of(size), [None] * size, [0] * size, [seal("leaf", "", 0)] * size):
                    self.assertTrue(top_of(seal, leaves) == plain_top(seal, leaves))

    def test_the_list_stays_as_it_was(self):
        for size in range(20):
            leaves = leaves_of(size)
            top_of(tuple_seal, leaves)
            self.assertEqual(leaves, leaves_of(size))


class Paths(unittest.TestCase):
    def test_paths_written_out(self):
        top = tuple_seal
        self.assertEqual(path_of(tuple_seal, ["a"], 0), [])
        self.assertEqual(path_of(tuple_seal, ["a", "b"], 0), ["b"])
        self.assertEqual(path_of(tuple_seal, ["a", "b"], 1), ["a"])
        self.assertEqual(path_of(tuple_seal, ["a", "b", "c"], 0), ["b", "c"])
        self.assertEqual(path_of(tuple_seal, ["a", "b", "c"], 2), [top("pair", "a", "b")])
        self.assertEqual(
            path_of(tuple_seal, list("abcdefg"), 4),
            ["f", "g", top("pair", top("pair", "a", "b"), top("pair", "c", "d"))],
        )

    def test_every_place_of_many_sizes(self):
        seal = numbering_seal()
        for size in [*SIZES, 399, 400]:
            leaves = leaves_of(size)
            top = plain_top(seal, leaves)
            for place in range(size):
                path = path_of(seal, leaves, place)
                self.assertIs(type(path), list)
                self.assertEqual(path, plain_path(seal, leaves, place))
                self.assertEqual(risen(seal, leaves[place], place, size, path), top)

    def test_leaves_that_are_alike(self):
        for size in range(1, 20):
            for place in range(size):
                path = path_of(tuple_seal, ["same"] * size, place)
                self.assertEqual(path, plain_path(tuple_seal, ["same"] * size, place))
                self.assertEqual(risen(tuple_seal, "same", place, size, path), plain_top(tuple_seal, ["same"] * size))

    def test_every_seal(self):
        for seal in all_seals():
            for size in range(1, 12):
                leaves = leaves_of(size)
                for place in range(size):
                    path = path_of(seal, leaves, place)
                    self.assertTrue(path == plain_path(seal, leaves, place))
                    self.assertTrue(risen(seal, leaves[place], place, size, path) == plain_top(seal, leaves))

    def test_another_leaf_place_or_path_comes_to_another_top(self):
        for size in range(2, 18):
            leaves = leaves_of(size)
            top = top_of(tuple_seal, leaves)
            for place in range(size):
                path = path_of(tuple_seal, leaves, place)
                self.assertNotEqual(risen(tuple_seal, "other", place, size, path), top)
                for k in range(len(path)):
                    changed = [*path[:k], "other", *path[k + 1:]]
                    self.assertNotEqual(risen(tuple_seal, leaves[place], place, size, changed), top)
                for other in range(size):
                    if other != place and len(path_of(tuple_seal, leaves, other)) == len(path):
                        self.assertNotEqual(risen(tuple_seal, leaves[place], other, size, path), top)

    def test_the_lists_stay_as_they_were_and_what_is_told_is_new(self):
        for size in range(1, 20):
            leaves = leaves_of(size)
            for place in range(size):
                path = path_of(tuple_seal, leaves, place)
                before = list(path)
                risen(tuple_seal, leaves[place], place, size, path)
                self.assertEqual(path, before)
                self.assertEqual(leaves, leaves_of(size))
                path.append("more")
                self.assertEqual(path_of(tuple_seal, leaves, place), before)
                self.assertEqual(leaves, leaves_of(size))

    def test_places_beyond_the_bound_are_not_refused(self):
        for size in range(9):
            for place in (-2, -1, size, size + 1):
                self.assertIs(type(path_of(tuple_seal, leaves_of(size), place)), list)


class RisenRefusals(unittest.TestCase):
    def refused(self, leaf, place, size, path):
        with self.assertRaises(BadPaper) as taken:
            risen(tuple_seal, leaf, place, size, path)
        self.assertIs(type(taken.exception), BadPaper)

    def test_a_path_of_any_other_length(self):
        for size in SIZES[:40]:
            leaves = leaves_of(size)
            for place in range(size):
                path = path_of(tuple_seal, leaves, place)
                for length in range(len(path) + 4):
                    if length != len(path):
                        self.refused(leaves[place], place, size, (path + ["more"] * 4)[:length])

    def test_a_path_that_is_no_list(self):
        for size in (1, 2, 3, 5, 8):
            leaves = leaves_of(size)
            for place in range(size):
                path = path_of(tuple_seal, leaves, place)
                text = "x" * len(path)
                for other in (tuple(path), text, dict(enumerate(path)), set(text), None, True, False, 0, len(path)):
                    self.refused(leaves[place], place, size, other)

    def test_a_refused_list_stays_as_it_was(self):
        path = ["a", "b", "c"]
        self.refused("leaf", 0, 2, path)
        self.assertEqual(path, ["a", "b", "c"])

    def test_very_great_sizes(self):
        great = 1 << 40
        path = list(range(40))
        expected = "leaf"
        for other in path:
            expected = ("pair", expected, other)
        self.assertEqual(risen(tuple_seal, "leaf", 0, great, path), expected)
        self.assertEqual(risen(tuple_seal, "leaf", great, great + 1, ["top"]), ("pair", "top", "leaf"))
        for wrong in ([], path[:39], path + [40]):
            self.refused("leaf", 0, great, wrong)
        for wrong in ([], path, ["top", "top"]):
            self.refused("leaf", great, great + 1, wrong)


class Growths(unittest.TestCase):
    def test_growths_written_out(self):
        def pair(first, rest):
            return ("pair", first, rest)

        four = pair(pair("a", "b"), pair("c", "d"))
        self.assertEqual(growth_of(tuple_seal, [], 0), [])
        self.assertEqual(growth_of(tuple_seal, ["a"], 0), [])
        self.assertEqual(growth_of(tuple_seal, ["a"], 1), ["a"])
        self.assertEqual(growth_of(tuple_seal, ["a", "b"], 1), ["a", "b"])
        self.assertEqual(growth_of(tuple_seal, ["a", "b"], 2), [pair("a", "b")])
        self.assertEqual(growth_of(tuple_seal, ["a", "b", "c"], 2), [pair("a", "b"), "c"])
        self.assertEqual(growth_of(tuple_seal, list("abcd"), 3), ["c", "d", pair("a", "b")])
        self.assertEqual(growth_of(tuple_seal, list("abcdefg"), 4), [four, pair(pair("e", "f"), "g")])
        self.assertEqual(growth_of(tuple_seal, list("abcdefg"), 6), [pair("e", "f"), "g", four])

    def test_every_old_size_of_many_sizes(self):
        seal = numbering_seal()
        for size in [0, *SIZES, 399, 400]:
            leaves = leaves_of(size)
            for old in range(size + 1):
                growth = growth_of(seal, leaves, old)
                self.assertIs(type(growth), list)
                self.assertEqual(growth, plain_growth(seal, leaves, old))

    def test_leaves_that_are_alike(self):
        for size in range(20):
            for old in range(size + 1):
                leaves = ["same"] * size
                self.assertEqual(growth_of(tuple_seal, leaves, old), plain_growth(tuple_seal, leaves, old))

    def test_every_seal(self):
        for seal in all_seals():
            for size in range(12):
                leaves = leaves_of(size)
                for old in range(size + 1):
                    self.assertTrue(growth_of(seal, leaves, old) == plain_growth(seal, leaves, old))

    def test_the_list_stays_as_it_was_and_what_is_told_is_new(self):
        for size in range(20):
            leaves = leaves_of(size)
            for old in range(size + 1):
                growth = growth_of(tuple_seal, leaves, old)
                growth.append("more")
                self.assertEqual(leaves, leaves_of(size))
                self.assertEqual(growth_of(tuple_seal, leaves, old), growth[:-1])

    def test_old_sizes_beyond_the_bound_are_not_refused(self):
        for size in range(9):
            for old in (-2, -1, size + 1, size + 2):
                self.assertIs(type(growth_of(tuple_seal, leaves_of(size), old)), list)

    def test_things_of_a_list_seal_stay_as_they_were(self):
        leaves = [list_seal("leaf", f"{place}", 0) for place in range(11)]
        before = [list(leaf) for leaf in leaves]
        for place in range(11):
            risen(list_seal, leaves[place], place, 11, path_of(list_seal, leaves, place))
            growth_of(list_seal, leaves, place)
        self.assertEqual(leaves, before)


if __name__ == "__main__":
    unittest.main()
