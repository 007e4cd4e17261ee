import random
import unittest

from growbook.errors import NoPlace
from growbook.table import Table
from tests.helper import all_seals, list_seal, noting_seal, numbering_seal, plain_table_head, plain_way, tuple_seal


def filled(seal, depth, held):
    table = Table(seal, depth)
    for key, value in held.items():
        table.put(key, value)
    return table


def some_held(chance, depth, most):
    """Some keys with values, the lowest and the highest key among them."""
    last = (1 << depth) - 1
    held = {0: "low", last: "high"}
    for _ in range(most):
        held[chance.randint(0, last)] = f"value {chance.randint(0, 9)}"
    return held


class TableCase(unittest.TestCase):
    def held_against(self, table, seal, held, depth, keys):
        self.assertEqual(table.rows(), sorted(held.items()))
        self.assertTrue(table.head() == plain_table_head(seal, held, depth))
        for key in keys:
            self.assertEqual(table.value(key), held.get(key))
            way = table.way(key)
            self.assertIs(type(way), tuple)
            self.assertIs(type(way[0]), list)
            self.assertTrue(way == plain_way(seal, held, depth, key))


class Contents(TableCase):
    def test_put_put_again_and_cut(self):
        table = Table(tuple_seal)
        self.assertEqual(table.rows(), [])
        self.assertIsNone(table.value(3))
        self.assertIsNone(table.put(3, "three"))
        self.assertEqual(table.value(3), "three")
        table.put(3, "other")
        self.assertEqual(table.value(3), "other")
        table.put(1, "")
        self.assertEqual(table.value(1), "")
        self.assertEqual(table.rows(), [(1, ""), (3, "other")])
        self.assertIsNone(table.cut(3))
        self.assertIsNone(table.value(3))
        self.assertEqual(table.rows(), [(1, "")])
        table.put(3, "again")
        self.assertEqual(table.value(3), "again")

    def test_rows_go_by_rising_key(self):
        table = Table(tuple_seal, 12)
        for key in (4000, 10, 9, 0, 4095, 100, 2048, 2):
            table.put(key, f"v{key}")
        keys = [0, 2, 9, 10, 100, 2048, 4000, 4095]
        self.assertEqual(table.rows(), [(key, f"v{key}") for key in keys])
        for row in table.rows():
            self.assertIs(type(row), tuple)

    def test_depth_8_where_it_is_left_out(self):
        table = Table(tuple_seal)
        self.assertEqual(table.head(), ("table", 8, ("none", 0, 0)))
        table.put(255, "last")
        with self.assertRaises(NoPlace):
            table.put(256, "beyond")
        self.assertEqual(table.head(), ("table", 8, ("row", 255, "last")))

    def test_depths_beyond_the_bound_are_not_refused(self):
        for depth in (17, 18, 20, 24):
            last = (1 << depth) - 1
            held = {0: "a", 1: "b", last: "c", last - 1: "d"}
            self.held_against(filled(tuple_seal, depth, held), tuple_seal, held, depth, [0, 2, last, last - 2])
        self.assertEqual(filled(tuple_seal, 0, {0: "a"}).head(), ("table", 0, ("row", 0, "a")))
        self.assertEqual(Table(tuple_seal, -1).head(), ("table", -1, ("none", 0, 0)))


class HeadsAndWays(TableCase):
    def test_heads_written_out(self):
        def row(key, value):
            return ("row", key, value)

        none = ("none", 0, 0)
        table = Table(tuple_seal, 2)
        self.assertEqual(table.head(), ("table", 2, none))
        table.put(1, "b")
        self.assertEqual(table.head(), ("table", 2, row(1, "b")))
        table.put(0, "a")
        self.assertEqual(table.head(), ("table", 2, ("fork", ("fork", row(0, "a"), row(1, "b")), none)))
        table.put(3, "d")
        fork = ("fork", row(0, "a"), row(1, "b"))
        self.assertEqual(table.head(), ("table", 2, ("fork", fork, row(3, "d"))))
        table.cut(0)
        self.assertEqual(table.head(), ("table", 2, ("fork", row(1, "b"), row(3, "d"))))

    def test_ways_written_out(self):
        none = ("none", 0, 0)
        one, two, five = ("row", 1, "b"), ("row", 2, "c"), ("row", 5, "f")
        table = Table(tuple_seal, 3)
        self.assertEqual(table.way(0), ([], None))
        table.put(1, "b")
        for key in range(8):
            self.assertEqual(table.way(key), ([], (1, "b")))
        table.put(2, "c")
        low = ("fork", one, two)
        self.assertEqual(table.way(0), ([none, two], (1, "b")))
        self.assertEqual(table.way(1), ([none, two], (1, "b")))
        self.assertEqual(table.way(3), ([none, one], (2, "c")))
        self.assertEqual(table.way(4), ([low], None))
        table.put(5, "f")
        self.assertEqual(table.way(7), ([low], (5, "f")))
        self.assertEqual(table.way(2), ([five, one], (2, "c")))

    def test_every_depth(self):
        chance = random.Random(1)
        for depth in range(1, 17):
            last = (1 << depth) - 1
            for most in (0, 1, 2, 5, 20):
                held = some_held(chance, depth, most)
                keys = sorted({0, last, *list(held)[:10], *[chance.randint(0, last) for _ in range(10)]})
                self.held_against(filled(tuple_seal, depth, held), tuple_seal, held, depth, keys)

    def test_tables_of_no_key_and_of_one(self):
        for depth in range(1, 17):
            last = (1 << depth) - 1
            keys = sorted({0, 1, last // 2, last})
            self.held_against(Table(tuple_seal, depth), tuple_seal, {}, depth, keys)
            for key in keys:
                held = {key: "alone"}
                self.held_against(filled(tuple_seal, depth, held), tuple_seal, held, depth, keys)

    def test_neighbours_that_part_at_the_last_bit(self):
        for depth in range(1, 17):
            last = (1 << depth) - 1
            for key in (0, last - 1):
                held = {key: "even", key + 1: "odd"}
                self.held_against(filled(tuple_seal, depth, held), tuple_seal, held, depth, [0, key, key + 1, last])

    def test_every_set_of_keys_of_a_small_depth(self):
        for depth in (1, 2, 3):
            for chosen in range(1 << (1 << depth)):
                held = {key: f"v{key}" for key in range(1 << depth) if chosen >> key & 1}
                self.held_against(filled(tuple_seal, depth, held), tuple_seal, held, depth, range(1 << depth))

    def test_full_tables(self):
        seal = numbering_seal()
        for depth in range(1, 9):
            held = {key: f"v{key % 3}" for key in range(1 << depth)}
            self.held_against(filled(seal, depth, held), seal, held, depth, [0, 1, (1 << depth) - 1])

    def test_every_seal(self):
        held = {0: "", 1: "b", 6: "c", 12: "d", 13: "d", 15: "e"}
        for seal in all_seals():
            for count in range(len(held) + 1):
                some = dict(list(held.items())[:count])
                self.held_against(filled(seal, 4, some), seal, some, 4, range(16))

    def test_the_marks_and_things_of_the_seals(self):
        calls = []
        filled(noting_seal(calls), 2, {0: "a", 3: "d"}).head()
        rows = [("row", 0, "a"), ("row", 3, "d")]
        self.assertEqual(sorted(calls[:2]), rows)
        self.assertEqual(calls[2:], [("fork", rows[0], rows[1]), ("table", 2, ("fork", rows[0], rows[1]))])

    def test_the_same_head_whatever_was_put_and_cut_ahead(self):
        chance = random.Random(2)
        for depth in range(1, 17):
            last = (1 << depth) - 1
            held = some_held(chance, depth, 12)
            straight = filled(tuple_seal, depth, held)
            crooked = Table(tuple_seal, depth)
            for _ in range(40):
                crooked.put(chance.randint(0, last), "passing")
            for key, _ in crooked.rows():
                if key not in held or chance.random() < 0.5:
                    crooked.cut(key)
            rows = list(held.items())
            chance.shuffle(rows)
            for key, value in rows:
                crooked.put(key, value)
            self.assertEqual(crooked.head(), straight.head())
            self.assertEqual(crooked.rows(), straight.rows())
            for key in list(held)[:6]:
                self.assertEqual(crooked.way(key), straight.way(key))

    def test_unlike_tables_have_unlike_heads(self):
        heads = [filled(tuple_seal, 2, {1: "a"}).head(), filled(tuple_seal, 3, {1: "a"}).head()]
        for chosen in range(3 ** 4):
            held = {key: f"v{chosen // 3 ** key % 3}" for key in range(4) if chosen // 3 ** key % 3}
            heads.append(filled(tuple_seal, 2, held).head())
        self.assertEqual(len(set(heads)), len(heads))

    def test_head_and_way_behind_each_change(self):
        chance = random.Random(3)
        for depth in (1, 3, 8, 16):
            last = (1 << depth) - 1
            table, held = Table(tuple_seal, depth), {}
            for step in range(60):
                if held and chance.random() < 0.4:
                    key = chance.choice(sorted(held))
                    table.cut(key)
                    held.pop(key)
                else:
                    key = chance.choice([0, last, chance.randint(0, last)])
                    table.put(key, f"step {step}")
                    held[key] = f"step {step}"
                self.held_against(table, tuple_seal, held, depth, [key, 0, last])


class Twins(TableCase):
    def test_a_twin_has_the_same_keys_and_values(self):
        for depth in (1, 8, 16):
            table = filled(tuple_seal, depth, {0: "a", 1: "b"})
            twin = table.twin()
            self.assertIs(type(twin), Table)
            self.assertIsNot(twin, table)
            self.held_against(twin, tuple_seal, {0: "a", 1: "b"}, depth, [0, 1, (1 << depth) - 1])
            with self.assertRaises(NoPlace):
                twin.put(1 << depth, "beyond")

    def test_each_goes_its_own_way(self):
        table = filled(tuple_seal, 8, {1: "a", 2: "b"})
        twin = table.twin()
        table.put(3, "c")
        twin.cut(1)
        twin.put(2, "other")
        self.held_against(table, tuple_seal, {1: "a", 2: "b", 3: "c"}, 8, [1, 2, 3, 4])
        self.held_against(twin, tuple_seal, {2: "other"}, 8, [1, 2, 3, 4])
        third = twin.twin()
        twin.put(9, "nine")
        self.held_against(third, tuple_seal, {2: "other"}, 8, [2, 9])

    def test_two_tables_beside_one_another(self):
        one, other = Table(tuple_seal), Table(tuple_seal)
        one.put(1, "a")
        self.assertEqual(other.rows(), [])
        self.assertIsNone(other.value(1))


class Refusals(TableCase):
    def refused(self, call, *given):
        with self.assertRaises(NoPlace) as taken:
            call(*given)
        self.assertIs(type(taken.exception), NoPlace)

    def test_keys_out_of_the_depth_in_every_call(self):
        for depth in range(1, 17):
            last = (1 << depth) - 1
            for held in ({}, {0: "low", last: "high"}):
                table = filled(tuple_seal, depth, held)
                for key in (-1, -2, -last, -last - 1, last + 1, last + 2, 1 << (depth + 1), 1 << 70, -(1 << 70)):
                    self.refused(table.put, key, "value")
                    self.refused(table.cut, key)
                    self.refused(table.value, key)
                    self.refused(table.way, key)
                self.held_against(table, tuple_seal, held, depth, [0, last])

    def test_a_key_too_long_to_be_written(self):
        table = filled(tuple_seal, 8, {3: "c"})
        for key in (1 << 20000, -(1 << 20000)):
            self.refused(table.put, key, "value")
            self.refused(table.cut, key)
            self.refused(table.value, key)
            self.refused(table.way, key)
        self.assertEqual(table.rows(), [(3, "c")])

    def test_a_key_cut_that_is_not_there(self):
        for depth in range(1, 17):
            last = (1 << depth) - 1
            table = Table(tuple_seal, depth)
            self.refused(table.cut, 0)
            table.put(0, "")
            self.refused(table.cut, last)
            self.held_against(table, tuple_seal, {0: ""}, depth, [0, last])
            table.cut(0)
            self.refused(table.cut, 0)
            self.held_against(table, tuple_seal, {}, depth, [0, last])


class ToldThings(TableCase):
    def test_changed_by_the_user_they_are_told_again_as_before(self):
        held = {0: "a", 3: "b", 200: "c", 255: "d"}
        table = filled(tuple_seal, 8, held)
        for _ in range(2):
            rows = table.rows()
            rows.reverse()
            rows.append((7, "more"))
            table.rows().clear()
            for key in (0, 7, 255):
                way = table.way(key)
                way[0].append("more")
                way[0][0] = "other"
            self.held_against(table, tuple_seal, held, 8, [0, 3, 7, 200, 255])

    def test_things_of_a_list_seal_that_the_user_changes(self):
        held = {0: "a", 3: "b", 200: "c", 255: "d"}
        table = filled(list_seal, 8, held)
        table.head()[2].clear()
        for other in table.way(0)[0]:
            other.clear()
        self.held_against(table, list_seal, held, 8, [0, 3, 7, 200, 255])

    def test_told_rows_stay_as_they_were_when_the_table_changes(self):
        table = filled(tuple_seal, 8, {1: "a", 2: "b"})
        rows, way, head = table.rows(), table.way(1), table.head()
        table.cut(2)
        table.put(1, "other")
        self.assertEqual(rows, [(1, "a"), (2, "b")])
        self.assertEqual(way, plain_way(tuple_seal, {1: "a", 2: "b"}, 8, 1))
        self.assertEqual(head, plain_table_head(tuple_seal, {1: "a", 2: "b"}, 8))

    def test_asking_changes_nothing(self):
        table = filled(tuple_seal, 8, {1: "a", 2: "b"})
        for key in range(256):
            table.value(key)
            table.way(key)
        table.head()
        table.twin()
        self.assertEqual(table.rows(), [(1, "a"), (2, "b")])


if __name__ == "__main__":
    unittest.main()
