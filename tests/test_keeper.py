import inspect
import random
import unittest

from growbook.errors import BadRow, NoPlace
from growbook.keeper import Keeper
from tests.helper import PlainBook, all_seals, kept, list_seal, noting_seal, numbering_seal, some_texts, tuple_seal

NONE = ("none", 0, 0)


class KeeperCase(unittest.TestCase):
    def held_against(self, keeper, book, size, keys):
        """Every paper of the book of that size against the document's own words."""
        self.assertTrue(keeper.head(size) == book.head(size))
        for old in range(size + 1):
            growth = keeper.growth(old, size)
            self.assertIs(type(growth), list)
            self.assertTrue(growth == book.growth(old, size))
        for place in range(size):
            path = keeper.path(place, size)
            self.assertIs(type(path), list)
            self.assertTrue(path == book.path(place, size))
            for key in keys:
                paper = keeper.paper(place, key, size)
                self.assertIs(type(paper), tuple)
                self.assertTrue(paper == book.paper(place, key, size))

    def entries_held_against(self, keeper, book, keys):
        self.assertEqual(keeper.size(), len(book.texts))
        for place, text in enumerate(book.texts):
            self.assertEqual(keeper.text(place), text)
            self.assertTrue(keeper.table_head(place) == book.tables[place])
            for key in keys:
                way = keeper.way(place, key)
                self.assertIs(type(way), tuple)
                self.assertTrue(way == book.way(place, key))


class Adding(KeeperCase):
    def test_the_place_is_told_from_0(self):
        keeper = Keeper(tuple_seal)
        self.assertEqual(keeper.size(), 0)
        for place in range(20):
            told = keeper.add(f"put {place} v")
            self.assertEqual(told, place)
            self.assertIs(type(told), int)
            self.assertEqual(keeper.size(), place + 1)
        self.assertEqual([keeper.text(place) for place in range(20)], [f"put {place} v" for place in range(20)])

    def test_the_empty_text_is_an_entry(self):
        keeper = Keeper(tuple_seal)
        self.assertEqual(keeper.add(""), 0)
        self.assertEqual(keeper.add(""), 1)
        empty = ("table", 8, NONE)
        leaf = ("leaf", "", empty)
        self.assertEqual(keeper.text(1), "")
        self.assertEqual(keeper.table_head(1), empty)
        self.assertEqual(keeper.head(), ("book", 2, ("pair", leaf, leaf)))
        self.assertEqual(keeper.way(0, 3), ([], None))

    def test_the_text_is_kept_as_it_stands(self):
        text = "  # a remark\n\nput 007 v \n  cut 7   \n"
        keeper = kept(tuple_seal, 8, [text])
        self.assertEqual(keeper.text(0), text)
        self.assertEqual(keeper.head(), ("book", 1, ("leaf", text, ("table", 8, NONE))))

    def test_the_table_goes_on_from_entry_to_entry(self):
        keeper = Keeper(tuple_seal)
        keeper.add("put 1 a")
        keeper.add("cut 1\nput 2 b")
        keeper.add("# nothing")
        keeper.add("put 2 c")
        self.assertEqual(keeper.table_head(0), ("table", 8, ("row", 1, "a")))
        self.assertEqual(keeper.table_head(1), ("table", 8, ("row", 2, "b")))
        self.assertEqual(keeper.table_head(2), ("table", 8, ("row", 2, "b")))
        self.assertEqual(keeper.table_head(3), ("table", 8, ("row", 2, "c")))
        self.assertEqual(keeper.way(0, 1), ([], (1, "a")))
        self.assertEqual(keeper.way(1, 1), ([], (2, "b")))
        self.assertEqual(keeper.way(3, 2), ([], (2, "c")))

    def test_a_refused_text_changes_nothing(self):
        keeper = kept(tuple_seal, 8, ["put 1 a\nput 200 b", "put 3 c"])
        before = (keeper.size(), keeper.head(), keeper.paper(1, 1), keeper.growth(1))
        refused = {"bad": 0, "put 1 z\nput 256 z": 1, "cut 1\n\ncut 1": 2, "cut 9\nbad": 0, "put 1": 0}
        for text, row in refused.items():
            with self.assertRaises(BadRow) as caught:
                keeper.add(text)
            self.assertEqual(caught.exception.row, row)
            self.assertEqual((keeper.size(), keeper.head(), keeper.paper(1, 1), keeper.growth(1)), before)
        self.assertEqual(keeper.add("cut 1"), 2)
        book = PlainBook(tuple_seal, 8, ["put 1 a\nput 200 b", "put 3 c", "cut 1"])
        self.entries_held_against(keeper, book, [0, 1, 3, 200])

    def test_a_seal_that_fails_changes_nothing(self):
        failing = []

        def seal(mark, one, other):
            if failing:
                raise RuntimeError("no seal")
            return (mark, one, other)

        keeper = kept(seal, 8, ["put 1 a"])
        before = keeper.head()
        failing.append(True)
        with self.assertRaises(RuntimeError):
            keeper.add("put 2 b")
        failing.clear()
        self.assertEqual((keeper.size(), keeper.head()), (1, before))
        self.assertEqual(keeper.add("put 3 c"), 1)
        self.assertEqual(keeper.head(), PlainBook(tuple_seal, 8, ["put 1 a", "put 3 c"]).head(2))

    def test_keepers_go_their_own_ways(self):
        one = Keeper(tuple_seal)
        other = Keeper(tuple_seal)
        one.add("put 1 a")
        self.assertEqual(other.size(), 0)
        other.add("put 1 b")
        self.assertEqual(one.way(0, 1), ([], (1, "a")))

    def test_depth_8_where_it_is_left_out(self):
        keeper = Keeper(tuple_seal)
        keeper.add("put 255 a")
        with self.assertRaises(BadRow):
            keeper.add("put 256 a")
        self.assertEqual(keeper.table_head(0), ("table", 8, ("row", 255, "a")))

    def test_depths_1_and_16(self):
        for depth in (1, 16):
            last = (1 << depth) - 1
            keeper = Keeper(tuple_seal, depth)
            keeper.add(f"put 0 a\nput {last} z")
            with self.assertRaises(BadRow):
                keeper.add(f"put {last + 1} a")
            self.assertEqual(keeper.table_head(0), ("table", depth, ("fork", ("row", 0, "a"), ("row", last, "z"))))
            self.assertEqual(keeper.way(0, last), ([("row", 0, "a")], (last, "z")))
            with self.assertRaises(NoPlace):
                keeper.way(0, last + 1)


class Papers(KeeperCase):
    def test_the_empty_book(self):
        for seal in all_seals():
            keeper = Keeper(seal)
            empty = seal("book", 0, seal("none", 0, 0))
            self.assertTrue(keeper.head() == empty)
            self.assertTrue(keeper.head(0) == empty)
            self.assertTrue(keeper.head(None) == empty)
            self.assertEqual(keeper.growth(0), [])
            self.assertEqual(keeper.growth(0, 0), [])

    def test_books_of_1_to_20_entries_by_the_document(self):
        chance = random.Random(10)
        for count in range(1, 21):
            texts = some_texts(chance, count, 3)
            keeper = kept(tuple_seal, 3, texts)
            book = PlainBook(tuple_seal, 3, texts)
            self.entries_held_against(keeper, book, range(8))
            for size in range(count + 1):
                self.held_against(keeper, book, size, [chance.randrange(8)])

    def test_with_every_seal_and_some_depths(self):
        chance = random.Random(11)
        for seal in all_seals():
            for depth in (1, 2, 8, 16):
                texts = some_texts(chance, 7, depth)
                keeper = kept(seal, depth, texts)
                book = PlainBook(seal, depth, texts)
                last = (1 << depth) - 1
                self.entries_held_against(keeper, book, [0, 1, last])
                for size in range(8):
                    self.held_against(keeper, book, size, [0, last])

    def test_a_long_book(self):
        chance = random.Random(12)
        texts = some_texts(chance, 300, 8, 3)
        keeper = kept(numbering_seal(), 8, texts)
        book = PlainBook(keeper.seal, 8, texts)
        self.assertEqual(keeper.size(), 300)
        for size in (0, 1, 255, 256, 257, 299, 300):
            self.assertEqual(keeper.head(size), book.head(size))
            self.assertEqual(keeper.growth(size), book.growth(size, 300))
        for place in (0, 1, 127, 128, 255, 256, 298, 299):
            self.assertEqual(keeper.paper(place, 77), book.paper(place, 77, 300))
            self.assertEqual(keeper.path(place), book.path(place, 300))

    def test_more_entries_than_the_bound_are_not_refused(self):
        keeper = kept(numbering_seal(), 8, [""] * 310)
        self.assertEqual(keeper.size(), 310)
        self.assertEqual(len(keeper.path(309)), len(PlainBook(keeper.seal, 8, [""] * 310).path(309, 310)))

    def test_texts_longer_than_the_bound_are_not_refused(self):
        text = "put 1 " + "a" * 20100
        keeper = kept(tuple_seal, 8, [text, "#" * 20100, "\n" * 20100])
        self.assertEqual(keeper.text(0), text)
        self.assertEqual(keeper.way(2, 1), ([], (1, "a" * 20100)))

    def test_sizes_left_out_mean_the_whole_book(self):
        keeper = kept(tuple_seal, 8, [f"put {place} v" for place in range(6)])
        self.assertEqual(keeper.head(), keeper.head(6))
        self.assertEqual(keeper.head(None), keeper.head(6))
        self.assertEqual(keeper.path(2), keeper.path(2, 6))
        self.assertEqual(keeper.path(2, None), keeper.path(2, 6))
        self.assertEqual(keeper.growth(3), keeper.growth(3, 6))
        self.assertEqual(keeper.growth(3, None), keeper.growth(3, 6))
        self.assertEqual(keeper.paper(2, 1), keeper.paper(2, 1, 6))
        self.assertEqual(keeper.paper(2, 1, None), keeper.paper(2, 1, 6))
        self.assertNotEqual(keeper.path(2), keeper.path(2, 5))

    def test_what_was_told_of_a_size_holds_when_the_book_has_grown(self):
        chance = random.Random(13)
        texts = some_texts(chance, 16, 4)
        keeper = Keeper(tuple_seal, 4)
        told = []
        for count, text in enumerate(texts):
            told.append((keeper.head(), [keeper.paper(place, 5) for place in range(count)]))
            keeper.add(text)
        for size, (head, papers) in enumerate(told):
            self.assertEqual(keeper.head(size), head)
            self.assertEqual([keeper.paper(place, 5, size) for place in range(size)], papers)

    def test_the_table_behind_an_entry_is_whole_whatever_the_size_of_the_paper(self):
        keeper = kept(tuple_seal, 8, ["put 1 a", "put 2 b", "put 1 c"])
        for size in (1, 2, 3):
            self.assertEqual(keeper.paper(0, 1, size)[3], ([], (1, "a")))
        self.assertEqual(keeper.paper(1, 1, 2)[3][1], (1, "a"))

    def test_the_names_of_the_arguments(self):
        wanted = {
            "__init__": ["self", "seal", "depth"], "add": ["self", "text"], "size": ["self"], "text": ["self", "place"],
            "table_head": ["self", "place"], "head": ["self", "size"], "path": ["self", "place", "size"],
            "growth": ["self", "old", "size"], "way": ["self", "place", "key"],
            "paper": ["self", "place", "key", "size"],
        }
        for name, names in wanted.items():
            self.assertEqual(list(inspect.signature(getattr(Keeper, name)).parameters), names)


class Refusals(KeeperCase):
    def refused(self, ask, *things):
        with self.assertRaises(NoPlace, msg=things) as caught:
            ask(*things)
        self.assertIs(type(caught.exception), NoPlace)

    def test_a_size_that_the_book_does_not_have(self):
        for count in (0, 1, 5):
            keeper = kept(tuple_seal, 8, [""] * count)
            for size in (-2, -1, count + 1, count + 2, 1 << 70, -(1 << 70)):
                self.refused(keeper.head, size)
                self.refused(keeper.path, 0, size)
                self.refused(keeper.growth, 0, size)
                self.refused(keeper.paper, 0, 0, size)

    def test_a_place_that_is_not_within_the_size(self):
        keeper = kept(tuple_seal, 8, [""] * 5)
        for size in range(6):
            for place in (-6, -5, -1, size, size + 1, 1 << 70):
                self.refused(keeper.path, place, size)
                self.refused(keeper.paper, place, 0, size)
            for place in range(size):
                self.assertIs(type(keeper.path(place, size)), list)
                self.assertIs(type(keeper.paper(place, 0, size)), tuple)

    def test_a_place_that_is_not_within_the_book(self):
        for count in (0, 1, 5):
            keeper = kept(tuple_seal, 8, [""] * count)
            for place in (-count - 1, -count, -1, count, count + 1, 1 << 70):
                if not 0 <= place < count:
                    self.refused(keeper.text, place)
                    self.refused(keeper.table_head, place)
                    self.refused(keeper.way, place, 0)
                    self.refused(keeper.path, place)
                    self.refused(keeper.paper, place, 0)

    def test_an_old_size_below_0_or_above_the_size(self):
        keeper = kept(tuple_seal, 8, [""] * 5)
        for size in range(6):
            for old in (-2, -1, size + 1, size + 2, 1 << 70):
                self.refused(keeper.growth, old, size)
            for old in range(size + 1):
                self.assertIs(type(keeper.growth(old, size)), list)
        self.refused(keeper.growth, 6)
        self.refused(keeper.growth, -1)

    def test_a_key_out_of_the_depth(self):
        for depth in (1, 8, 16):
            keeper = kept(tuple_seal, depth, ["put 0 a", "put 1 b", ""])
            last = (1 << depth) - 1
            for place in range(3):
                for key in (-2, -1, last + 1, last + 2, 1 << 70):
                    self.refused(keeper.way, place, key)
                    self.refused(keeper.paper, place, key)
                    self.refused(keeper.paper, place, key, 3)
                for key in (0, 1, last):
                    self.assertIs(type(keeper.way(place, key)), tuple)

    def test_a_refusal_changes_nothing(self):
        keeper = kept(tuple_seal, 8, ["put 1 a", "put 2 b"])
        before = (keeper.size(), keeper.head(), keeper.paper(0, 1))
        self.refused(keeper.head, 3)
        self.refused(keeper.way, 0, 256)
        self.refused(keeper.growth, 3)
        self.assertEqual((keeper.size(), keeper.head(), keeper.paper(0, 1)), before)


class New(KeeperCase):
    def test_lists_that_were_told_are_not_kept(self):
        keeper = kept(tuple_seal, 8, ["put 1 a\nput 200 b", "put 3 c", "put 4 d"])

        def told():
            return [keeper.path(1), keeper.growth(1), keeper.way(0, 1), keeper.paper(2, 1), keeper.growth(0)]

        before = repr(told())
        for thing in told():
            if isinstance(thing, list):
                thing.clear()
                thing.append("bent")
            elif len(thing) == 2:
                thing[0].clear()
            else:
                thing[2].clear()
                thing[3][0].append("bent")
        self.assertEqual(repr(told()), before)

    def test_heads_are_sealed_anew(self):
        keeper = kept(list_seal, 8, ["put 1 a", "put 2 b"])
        self.assertIsNot(keeper.head(), keeper.head())
        self.assertIsNot(keeper.table_head(0), keeper.table_head(0))
        before = repr((keeper.head(), keeper.table_head(0)))
        keeper.head().append("bent")
        keeper.table_head(0).append("bent")
        self.assertEqual(repr((keeper.head(), keeper.table_head(0))), before)

    def test_marks_are_those_of_the_document(self):
        calls = []
        keeper = kept(noting_seal(calls), 8, ["", "put 1 a\nput 2 b", "cut 1"])
        keeper.head()
        keeper.paper(1, 1)
        keeper.growth(2)
        self.assertEqual({call[0] for call in calls}, {"leaf", "pair", "row", "fork", "none", "table", "book"})
        self.assertEqual({call[1:] for call in calls if call[0] == "none"}, {(0, 0)})


if __name__ == "__main__":
    unittest.main()
