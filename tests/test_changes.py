import random
import unittest

from growbook.changes import changed, read_row, read_rows
from growbook.errors import BadRow
from growbook.table import Table
from tests.helper import all_seals, plain_changed, plain_row, plain_table_head, some_text, tuple_seal

PASSED = ["", " ", "     ", "#", "# put 1 a", "   #", "  # cut 1", "#put", "##", "#\\"]

READ = {
    "put 1 a": ("put", 1, "a"),
    "put 1 ": ("put", 1, ""),
    "put 1  ": ("put", 1, " "),
    "put 1  a": ("put", 1, " a"),
    "put 1 a  ": ("put", 1, "a  "),
    "put 1 a b  c": ("put", 1, "a b  c"),
    "put 1 2 3": ("put", 1, "2 3"),
    "put 1 #": ("put", 1, "#"),
    "put 1 put 2 b": ("put", 1, "put 2 b"),
    "   put 1 a": ("put", 1, "a"),
    "put 0 a": ("put", 0, "a"),
    "put 255 a": ("put", 255, "a"),
    "put 00 a": ("put", 0, "a"),
    "put 007 a": ("put", 7, "a"),
    "put 000000255 a": ("put", 255, "a"),
    "put 000000000 ": ("put", 0, ""),
    "put 10 ~!\"$&'()*+,-./:;<=>?@[]^_`{|}": ("put", 10, "~!\"$&'()*+,-./:;<=>?@[]^_`{|}"),
    "cut 1": ("cut", 1),
    "cut 1 ": ("cut", 1),
    "cut 1     ": ("cut", 1),
    "   cut 1": ("cut", 1),
    "  cut 1  ": ("cut", 1),
    "cut 0": ("cut", 0),
    "cut 255": ("cut", 255),
    "cut 000000009": ("cut", 9),
}

REFUSED = [
    "put", "put ", "put  ", "put 1", "  put 1", "put  1 a", "put a", "put a b", "put a 1", "put  1", "put 1a b",
    "put -1 a", "put +1 a", "put 1_0 a", "put 1.0 a", "put 0x1 a", "put 1, a", "put1 a", "put1", "put\t1 a", "put #1 a",
    "puts 1 a", "Put 1 a", "PUT 1 a", "pu 1 a", "ut 1 a", "1 a", "a", "1", "put 256 a", "put 0000000001 a",
    "put 0000000000 a", "put 999999999 a", "put 1000000000 a", "put 12345678901234567890 a", "put " + "1" * 5000 + " a",
    "put \u0663 a", "put \u00b2 a", "put 1\u00a0a",
    "cut", "cut ", "cut   ", "cut  1", "cut a", "cut 1 a", "cut 1 2", "cut 1 #", "cut -1", "cut +1", "cut 1.", "cut 1a",
    "cut 1x", "cut1",
    "Cut 1", "CUT 1", "cuts 1", "cut 256", "cut 0000000001", "cut 1000000000", "cut \u0663", "cut 1_0",
    "- put 1 a", "put: 1 a", ".", "~", "/# a", "a # b", "set 1 a", "del 1", "cut put 1 a", "None",
]


class ReadRow(unittest.TestCase):
    def test_rows_that_are_passed_over(self):
        for row in PASSED:
            self.assertIsNone(read_row(row, 8), row)

    def test_rows_that_are_read(self):
        for row, change in READ.items():
            told = read_row(row, 8)
            self.assertEqual(told, change, row)
            self.assertIs(type(told), tuple)
            self.assertIs(type(told[1]), int)

    def test_rows_that_are_refused(self):
        for row in REFUSED:
            with self.assertRaises(BadRow, msg=row) as caught:
                read_row(row, 8)
            self.assertEqual(caught.exception.row, 0)

    def test_keys_at_both_ends_of_each_depth(self):
        for depth in range(1, 17):
            last = (1 << depth) - 1
            for key in (0, last):
                self.assertEqual(read_row(f"put {key} v", depth), ("put", key, "v"))
                self.assertEqual(read_row(f"cut {key}", depth), ("cut", key))
            for row in (f"put {last + 1} v", f"cut {last + 1}"):
                with self.assertRaises(BadRow) as caught:
                    read_row(row, depth)
                self.assertEqual(caught.exception.row, 0)

    def test_at_most_9_figures_whatever_the_depth(self):
        self.assertEqual(read_row("put 999999999 v", 30), ("put", 999999999, "v"))
        for depth in (16, 30, 40, 1000):
            for row in ("put 1000000000 v", "put 0000000001 v", "cut 1000000000"):
                with self.assertRaises(BadRow):
                    read_row(row, depth)

    def test_depths_beyond_the_bound_are_not_refused(self):
        self.assertEqual(read_row("put 131071 v", 17), ("put", 131071, "v"))
        self.assertEqual(read_row("cut 0", 0), ("cut", 0))
        for depth in (0, -1):
            self.assertIsNone(read_row("# put 1 a", depth))
            with self.assertRaises(BadRow):
                read_row("put 1 a", depth)

    def test_short_rows_against_the_document(self):
        chance = random.Random(9)
        parts = ["put", "cut", " ", " ", " ", "  ", "#", "0", "1", "7", "12", "000000001", "0000000001", "256", "a"]
        for _ in range(6000):
            row = "".join(chance.choice(parts) for _ in range(chance.randint(0, 6)))
            for depth in (1, 8):
                wanted = plain_row(row, depth)
                if wanted == "bad":
                    with self.assertRaises(BadRow, msg=row) as caught:
                        read_row(row, depth)
                    self.assertEqual(caught.exception.row, 0)
                else:
                    self.assertEqual(read_row(row, depth), wanted, row)


class ReadRows(unittest.TestCase):
    def refused_at(self, text, depth, place):
        with self.assertRaises(BadRow, msg=text) as caught:
            read_rows(text, depth)
        self.assertEqual(caught.exception.row, place, text)

    def test_nothing_to_do(self):
        for text in ("", "\n", "\n\n\n", "   ", "#", "# a\n\n   # b\n", " \n \n"):
            self.assertEqual(read_rows(text, 8), [])

    def test_each_tuple_has_its_rows_place_behind(self):
        self.assertEqual(read_rows("put 1 a", 8), [("put", 1, "a", 0)])
        self.assertEqual(read_rows("cut 1", 8), [("cut", 1, 0)])
        text = "# first\nput 3 three\n\n  cut 3  \nput 3 \n   \nput 0 #\n"
        told = read_rows(text, 8)
        self.assertEqual(told, [("put", 3, "three", 1), ("cut", 3, 3), ("put", 3, "", 4), ("put", 0, "#", 6)])
        self.assertIs(type(told), list)
        self.assertEqual({type(step) for step in told}, {tuple})

    def test_each_row_that_is_read_or_passed_over(self):
        rows = [*PASSED, *READ, *PASSED]
        wanted = [(*READ[row], place) for place, row in enumerate(rows) if row in READ]
        self.assertEqual(read_rows("\n".join(rows), 8), wanted)

    def test_the_first_refused_row_is_told(self):
        self.refused_at("bad", 8, 0)
        self.refused_at("put 1 a\nbad", 8, 1)
        self.refused_at("\n# a\n\nput 256 a\nbad\n", 8, 3)
        self.refused_at("put 1 a\nput 2\nput 3", 8, 1)
        for row in REFUSED:
            self.refused_at(f"put 1 a\n\n{row}\nbad\nput 300 b", 8, 2)

    def test_keys_that_are_not_there_are_not_refused(self):
        self.assertEqual(read_rows("cut 5\ncut 5", 8), [("cut", 5, 0), ("cut", 5, 1)])
        self.refused_at("cut 5\nbad", 8, 1)

    def test_rows_are_parted_by_line_feeds_alone(self):
        for sign in ("\r", "\x0b", "\x0c", "\x1c", "\x85", "\u2028"):
            self.assertEqual(read_rows(f"put 1 a{sign}put 2 b", 8), [("put", 1, f"a{sign}put 2 b", 0)])

    def test_texts_of_many_rows(self):
        text = "\n".join(f"put {place % 256} {place}" for place in range(1600))
        self.assertEqual(read_rows(text, 8), [("put", place % 256, str(place), place) for place in range(1600)])
        self.assertEqual(read_rows("\n" * 20000, 8), [])
        self.assertEqual(read_rows("\n" * 30000 + "cut 1", 8), [("cut", 1, 30000)])
        self.refused_at("\n" * 19999 + "x", 8, 19999)
        self.assertEqual(read_rows("put 1 " + "a" * 30000, 8), [("put", 1, "a" * 30000, 0)])

    def test_what_is_told_is_new(self):
        first = read_rows("put 1 a", 8)
        first.append("more")
        self.assertEqual(read_rows("put 1 a", 8), [("put", 1, "a", 0)])


class Changed(unittest.TestCase):
    def filled(self, seal, depth, held):
        table = Table(seal, depth)
        for key, value in held.items():
            table.put(key, value)
        return table

    def refused_at(self, table, text, depth, place):
        before = table.rows()
        with self.assertRaises(BadRow, msg=text) as caught:
            changed(table, text, depth)
        self.assertEqual(caught.exception.row, place, text)
        self.assertEqual(table.rows(), before)

    def test_a_new_table_is_told_and_the_old_one_stays(self):
        table = self.filled(tuple_seal, 8, {1: "a", 2: "b"})
        after = changed(table, "put 1 c\ncut 2\nput 3 d", 8)
        self.assertIsInstance(after, Table)
        self.assertEqual(after.rows(), [(1, "c"), (3, "d")])
        self.assertEqual(table.rows(), [(1, "a"), (2, "b")])
        after.put(9, "later")
        table.put(8, "other")
        self.assertEqual(after.rows(), [(1, "c"), (3, "d"), (9, "later")])
        self.assertEqual(table.rows(), [(1, "a"), (2, "b"), (8, "other")])

    def test_a_text_that_changes_nothing_tells_a_table_of_its_own(self):
        table = self.filled(tuple_seal, 8, {1: "a"})
        for text in ("", "# nothing", "\n\n", "put 1 a"):
            after = changed(table, text, 8)
            self.assertIsNot(after, table)
            self.assertEqual(after.rows(), [(1, "a")])
            after.cut(1)
            self.assertEqual(table.rows(), [(1, "a")])

    def test_rows_are_done_in_their_order(self):
        table = Table(tuple_seal)
        self.assertEqual(changed(table, "put 1 a\nput 1 b", 8).rows(), [(1, "b")])
        self.assertEqual(changed(table, "put 1 a\ncut 1", 8).rows(), [])
        self.assertEqual(changed(table, "put 1 a\ncut 1\nput 1 ", 8).rows(), [(1, "")])

    def test_a_key_cut_that_is_not_there(self):
        table = self.filled(tuple_seal, 8, {1: "a"})
        self.refused_at(table, "cut 2", 8, 0)
        self.refused_at(table, "cut 1\ncut 1", 8, 1)
        self.refused_at(table, "put 3 c\n\ncut 3\n# a\ncut 3\ncut 3", 8, 4)
        self.refused_at(table, "cut 3\nput 3 c", 8, 0)

    def test_the_first_refused_row_counts_whatever_it_is_refused_for(self):
        table = self.filled(tuple_seal, 8, {1: "a"})
        self.refused_at(table, "cut 2\nbad", 8, 0)
        self.refused_at(table, "cut 1\ncut 2\nput 256 a", 8, 1)
        self.refused_at(table, "bad\ncut 2", 8, 0)
        self.refused_at(table, "cut 1\nput 256 a\ncut 2", 8, 1)
        for row in REFUSED:
            self.refused_at(table, f"put 5 e\ncut 1\n{row}\ncut 1", 8, 2)

    def test_the_head_and_the_ways_are_of_the_same_seal_and_depth(self):
        for seal in all_seals():
            for depth in (1, 8, 16):
                last = (1 << depth) - 1
                table = self.filled(seal, depth, {0: "a"})
                after = changed(table, f"put {last} z", depth)
                self.assertTrue(after.head() == plain_table_head(seal, {0: "a", last: "z"}, depth))
                self.assertTrue(table.head() == plain_table_head(seal, {0: "a"}, depth))

    def test_against_the_document(self):
        chance = random.Random(5)
        for _ in range(400):
            depth = chance.choice([1, 2, 3, 8, 16])
            held = plain_changed({}, some_text(chance, {}, depth, 12), depth)
            rows = some_text(chance, held, depth, 12).split("\n")
            for _ in range(chance.choice([0, 0, 1, 2])):
                bent = chance.choice(["bad", f"cut {chance.randrange(1 << depth)}", f"put {1 << depth} a", "put 1"])
                rows.insert(chance.randint(0, len(rows)), bent)
            text = "\n".join(rows)
            table = self.filled(tuple_seal, depth, held)
            wanted = plain_changed(held, text, depth)
            if isinstance(wanted, int):
                self.refused_at(table, text, depth, wanted)
            else:
                self.assertEqual(changed(table, text, depth).rows(), sorted(wanted.items()))
                self.assertEqual(table.rows(), sorted(held.items()))

    def test_texts_of_many_rows(self):
        text = "\n".join(f"put {place * 40} {place}" for place in range(1600))
        after = changed(Table(tuple_seal, 16), text, 16)
        self.assertEqual(after.rows(), [(place * 40, str(place)) for place in range(1600)])
        self.refused_at(after, text + "\ncut 1", 16, 1600)


if __name__ == "__main__":
    unittest.main()
