import unittest

from growbook.frontier import Frontier
from tests.helper import all_seals, leaves_of, noting_seal, numbering_seal, plain_top, tuple_seal


def plain_kept(seal, leaves):
    """The tops of the full stretches, one for each one of the count's binary writing (point 4)."""
    tops = []
    start = 0
    for k in reversed(range(len(leaves).bit_length())):
        if len(leaves) & (1 << k):
            tops.append(plain_top(seal, leaves[start:start + (1 << k)]))
            start += 1 << k
    return tops


class Frontiers(unittest.TestCase):
    def held_against_the_row(self, seal, leaves):
        frontier = Frontier(seal)
        for count in range(len(leaves) + 1):
            self.assertEqual(frontier.size(), count)
            self.assertTrue(frontier.kept() == plain_kept(seal, leaves[:count]))
            self.assertEqual(len(frontier.kept()), bin(count).count("1"))
            self.assertTrue(frontier.top() == plain_top(seal, leaves[:count]))
            if count < len(leaves):
                self.assertIsNone(frontier.add(leaves[count]))

    def test_behind_each_leaf_up_to_400(self):
        self.held_against_the_row(tuple_seal, leaves_of(400))
        self.held_against_the_row(numbering_seal(), leaves_of(400))

    def test_leaves_that_are_alike(self):
        self.held_against_the_row(tuple_seal, ["same"] * 70)

    def test_every_seal_and_any_leaf(self):
        for seal in all_seals():
            self.held_against_the_row(seal, leaves_of(34))
            self.held_against_the_row(seal, [None] * 10)
            self.held_against_the_row(seal, [0] * 10)

    def test_the_first_ones_written_out(self):
        frontier = Frontier(tuple_seal)
        self.assertEqual(frontier.kept(), [])
        self.assertEqual(frontier.top(), ("none", 0, 0))
        frontier.add("a")
        self.assertEqual(frontier.kept(), ["a"])
        self.assertEqual(frontier.top(), "a")
        frontier.add("b")
        self.assertEqual(frontier.kept(), [("pair", "a", "b")])
        frontier.add("c")
        self.assertEqual(frontier.kept(), [("pair", "a", "b"), "c"])
        self.assertEqual(frontier.top(), ("pair", ("pair", "a", "b"), "c"))
        self.assertEqual(frontier.size(), 3)

    def test_two_beside_one_another(self):
        one, other = Frontier(tuple_seal), Frontier(tuple_seal)
        ones, others = [], []
        for place in range(40):
            one.add(f"one {place}")
            ones.append(f"one {place}")
            if place % 3 == 0:
                other.add(f"other {place}")
                others.append(f"other {place}")
            self.assertEqual((one.size(), other.size()), (len(ones), len(others)))
            self.assertEqual(one.kept(), plain_kept(tuple_seal, ones))
            self.assertEqual(other.kept(), plain_kept(tuple_seal, others))
            self.assertEqual(one.top(), plain_top(tuple_seal, ones))
            self.assertEqual(other.top(), plain_top(tuple_seal, others))

    def test_a_told_list_that_the_user_changes(self):
        leaves = leaves_of(23)
        frontier = Frontier(tuple_seal)
        for count, leaf in enumerate(leaves, start=1):
            frontier.add(leaf)
            told = frontier.kept()
            told.reverse()
            told.append("more")
            told[0] = "other"
            self.assertEqual(frontier.kept(), plain_kept(tuple_seal, leaves[:count]))
            self.assertEqual(frontier.top(), plain_top(tuple_seal, leaves[:count]))
            frontier.kept().clear()
            self.assertEqual(frontier.kept(), plain_kept(tuple_seal, leaves[:count]))
        self.assertEqual(frontier.size(), 23)

    def test_a_list_told_stays_as_it_was_when_leaves_come(self):
        frontier = Frontier(tuple_seal)
        for leaf in leaves_of(7):
            frontier.add(leaf)
        told = frontier.kept()
        before = list(told)
        frontier.add("more")
        self.assertEqual(told, before)

    def test_telling_changes_nothing(self):
        frontier = Frontier(tuple_seal)
        for leaf in leaves_of(13):
            frontier.add(leaf)
        first = (frontier.top(), frontier.kept(), frontier.size())
        self.assertEqual((frontier.top(), frontier.kept(), frontier.size()), first)

    def test_a_seal_that_fails_leaves_it_as_it_was(self):
        bad = []

        def seal(mark, one, other):
            if bad and one == bad[0]:
                raise RuntimeError("the seal fails")
            return (mark, one, other)

        leaves = leaves_of(7)
        frontier = Frontier(seal)
        for leaf in leaves:
            frontier.add(leaf)
        bad.append(frontier.kept()[0])
        with self.assertRaises(RuntimeError):
            frontier.add("more")
        bad.clear()
        self.assertEqual(frontier.size(), 7)
        self.assertEqual(frontier.kept(), plain_kept(tuple_seal, leaves))
        self.assertEqual(frontier.top(), plain_top(tuple_seal, leaves))

    def test_only_pairs_and_the_none_seal_are_sealed(self):
        calls = []
        frontier = Frontier(noting_seal(calls))
        frontier.top()
        self.assertEqual(calls, [("none", 0, 0)])
        calls.clear()
        for leaf in leaves_of(13):
            frontier.add(leaf)
            frontier.top()
        self.assertEqual({call[0] for call in calls}, {"pair"})


if __name__ == "__main__":
    unittest.main()
