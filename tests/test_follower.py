import copy
import inspect
import random
import unittest

from growbook.claims import Claim, Grows, Holds, Lacks, Stands
from growbook.follower import Follower
from growbook.keeper import Keeper
from tests.helper import alike, bent_lists, judging_seals, kept, noting_seal, numbering_seal, some_texts, tuple_seal


def following(seal, keeper, size):
    """A follower that has taken the book's head of that size."""
    follower = Follower(seal)
    if size > 0 and not follower.take(size, keeper.head(size), []):
        raise AssertionError("the first head was not taken")
    return follower


class FollowerCase(unittest.TestCase):
    def refused(self, follower, size, head, paper):
        before = (follower.size(), follower.head())
        self.assertIs(follower.take(size, head, paper), False, size)
        self.assertTrue((follower.size(), follower.head()) == before)

    def taken(self, follower, size, head, paper):
        self.assertIs(follower.take(size, head, paper), True, size)
        self.assertEqual(follower.size(), size)
        self.assertIs(type(follower.size()), int)
        self.assertTrue(follower.head() == head)


class Taking(FollowerCase):
    def test_at_first(self):
        for seal in judging_seals():
            follower = Follower(seal)
            self.assertEqual(follower.size(), 0)
            self.assertTrue(follower.head() == seal("book", 0, seal("none", 0, 0)))

    def test_a_book_followed_step_by_step(self):
        chance = random.Random(180)
        for seal in judging_seals():
            keeper = Keeper(seal, 4)
            follower = Follower(seal)
            for text in some_texts(chance, 20, 4):
                old = keeper.size()
                keeper.add(text)
                self.taken(follower, keeper.size(), keeper.head(), keeper.growth(old))

    def test_from_each_size_to_each(self):
        for seal in (tuple_seal, numbering_seal()):
            keeper = kept(seal, 2, some_texts(random.Random(181), 20, 2))
            for old in range(21):
                for size in range(21):
                    follower = following(seal, keeper, old)
                    if size < old:
                        for paper in (keeper.growth(size, old), keeper.growth(size, size), [], None):
                            self.refused(follower, size, keeper.head(size), paper)
                    else:
                        self.taken(follower, size, keeper.head(size), keeper.growth(old, size))

    def test_a_long_book_in_leaps(self):
        seal = numbering_seal()
        keeper = kept(seal, 8, some_texts(random.Random(182), 300, 8, 2))
        follower = Follower(seal)
        old = 0
        for size in (1, 2, 3, 100, 128, 129, 255, 256, 257, 299, 300, 300):
            self.taken(follower, size, keeper.head(size), keeper.growth(old, size))
            old = size
        for size in (299, 256, 1, 0, -1):
            self.refused(follower, size, keeper.head(max(size, 0)), [])
        self.refused(follower, 301, keeper.head(), keeper.growth(300))

    def test_a_size_below_its_own_is_never_taken(self):
        for seal in judging_seals():
            keeper = kept(seal, 8, ["put 1 a", "put 2 b", "put 3 c"])
            follower = following(seal, keeper, 3)
            for size in (2, 1, 0, -1, -(1 << 70)):
                for head in (keeper.head(), keeper.head(2), keeper.head(0)):
                    for paper in ([], None, keeper.growth(1), keeper.growth(2), keeper.growth(3), keeper.growth(1, 2)):
                        self.refused(follower, size, head, paper)
            self.refused(Follower(seal), -1, keeper.head(0), [])

    def test_the_same_size_again(self):
        for seal in judging_seals():
            keeper = kept(seal, 8, ["put 1 a", "put 2 b", "put 3 c"])
            other = kept(seal, 8, ["put 1 a", "put 2 b", "put 3 d"])
            follower = following(seal, keeper, 3)
            self.taken(follower, 3, keeper.head(), keeper.growth(3))
            self.refused(follower, 3, other.head(), other.growth(3))
            self.refused(follower, 3, other.head(), keeper.growth(3))
            self.refused(follower, 3, keeper.head(), [])
            follower = Follower(seal)
            self.taken(follower, 0, keeper.head(0), [])
            self.refused(follower, 0, keeper.head(1), [])
            self.refused(follower, 0, keeper.head(0), None)
            self.refused(follower, 0, keeper.head(0), ())

    def test_from_the_empty_book_any_head_goes_on(self):
        for seal in judging_seals():
            keeper = kept(seal, 8, ["put 1 a", "put 2 b", "put 3 c"])
            self.taken(Follower(seal), 3, keeper.head(), [])
            self.taken(Follower(seal), 5, "a head of its own", [])
            for paper in (None, (), "", 0, keeper.growth(1), keeper.growth(3), [None]):
                self.refused(Follower(seal), 3, keeper.head(), paper)

    def test_a_book_that_does_not_go_on(self):
        for seal in judging_seals():
            keeper = kept(seal, 8, ["put 1 a", "put 2 b", "put 3 c", "put 4 d"])
            other = kept(seal, 8, ["put 1 a", "put 2 x", "put 3 c", "put 4 d", "put 5 e"])
            for old in range(2, 5):
                follower = following(seal, keeper, old)
                for size in range(old, 6):
                    for paper in (other.growth(old, size), keeper.growth(old, min(size, 4)), [], None):
                        self.refused(follower, size, other.head(size), paper)
            self.taken(following(seal, keeper, 1), 5, other.head(), other.growth(1))

    def test_bent_papers(self):
        for seal in judging_seals():
            keeper = kept(seal, 3, some_texts(random.Random(183), 13, 3))
            things = [None, "x", 0, seal("none", 0, 0), keeper.head(), keeper.leaves[0], *keeper.growth(5)]
            for old in (1, 2, 5, 8, 12, 13):
                follower = following(seal, keeper, old)
                own = keeper.growth(old)
                for paper in bent_lists(own, things):
                    if not alike(paper, own):
                        self.refused(follower, 13, keeper.head(), paper)
                self.refused(follower, 13, keeper.head(12), own)
                self.refused(follower, 14, keeper.head(), own)
                self.taken(follower, 13, keeper.head(), own)

    def test_what_was_refused_is_not_kept(self):
        keeper = kept(tuple_seal, 8, ["put 1 a", "put 2 b", "put 3 c"])
        follower = following(tuple_seal, keeper, 1)
        self.refused(follower, 3, keeper.head(), keeper.growth(2))
        self.taken(follower, 2, keeper.head(2), keeper.growth(1, 2))
        self.taken(follower, 3, keeper.head(), keeper.growth(2))

    def test_followers_go_their_own_ways(self):
        keeper = kept(tuple_seal, 8, ["put 1 a", "put 2 b"])
        one, other = Follower(tuple_seal), Follower(tuple_seal)
        self.taken(one, 2, keeper.head(), [])
        self.assertEqual(other.size(), 0)
        self.assertEqual(other.head(), keeper.head(0))

    def test_papers_are_neither_changed_nor_kept(self):
        keeper = kept(tuple_seal, 8, ["put 1 a", "put 2 b", "put 3 c"])
        follower = following(tuple_seal, keeper, 1)
        paper = keeper.growth(1)
        before = copy.deepcopy(paper)
        self.taken(follower, 3, keeper.head(), paper)
        self.assertEqual(paper, before)
        paper.clear()
        self.taken(follower, 3, keeper.head(), keeper.growth(3))


class Judging(FollowerCase):
    def test_claims_are_judged_by_what_it_keeps(self):
        for seal in judging_seals():
            keeper = kept(seal, 8, ["put 1 a", "put 200 b", "cut 1"])
            for size in range(4):
                follower = following(seal, keeper, size)
                for of in range(4):
                    for place in range(of):
                        stands = Stands(place, keeper.text(place), keeper.table_head(place))
                        self.assertIs(follower.judge(stands, keeper.path(place, of)), of == size)
                        paper = keeper.paper(place, 1, of)
                        self.assertIs(follower.judge(Holds(place, 1, "a", 8), paper), of == size and place < 2)
                        self.assertIs(follower.judge(Lacks(place, 1, 8), paper), of == size and place == 2)
                    for old in range(of + 1):
                        wanted = of == size or old == 0
                        self.assertIs(follower.judge(Grows(old, keeper.head(old)), keeper.growth(old, of)), wanted)

    def test_judging_goes_on_with_what_is_taken(self):
        keeper = kept(tuple_seal, 8, ["put 1 a", "put 2 b"])
        follower = following(tuple_seal, keeper, 1)
        claim = Stands(1, "put 2 b", keeper.table_head(1))
        self.assertIs(follower.judge(claim, keeper.path(1)), False)
        self.taken(follower, 2, keeper.head(), keeper.growth(1))
        self.assertIs(follower.judge(claim, keeper.path(1)), True)
        self.assertEqual((follower.size(), follower.head()), (2, keeper.head()))

    def test_the_empty_book(self):
        for seal in judging_seals():
            follower = Follower(seal)
            empty = follower.head()
            self.assertIs(follower.judge(Grows(0, empty), []), True)
            self.assertIs(follower.judge(Grows(0, empty), ()), False)
            self.assertIs(follower.judge(Grows(1, empty), [empty]), False)
            self.assertIs(follower.judge(Stands(0, "", "T"), []), False)
            self.assertIs(follower.judge(Claim(), []), False)

    def test_papers_of_any_other_form(self):
        keeper = kept(tuple_seal, 8, ["put 1 a", "put 2 b"])
        follower = following(tuple_seal, keeper, 2)
        for claim in (Stands(0, "put 1 a", keeper.table_head(0)), Grows(1, keeper.head(1)), Holds(0, 1, "a", 8)):
            for paper in (None, (), [], "", 0, [None], (None,), [[]], {}):
                self.assertIs(follower.judge(claim, paper), False)

    def test_the_names_of_the_arguments(self):
        for name, names in (
            ("__init__", ["self", "seal"]), ("take", ["self", "size", "head", "paper"]),
            ("judge", ["self", "claim", "paper"]), ("size", ["self"]), ("head", ["self"]),
        ):
            self.assertEqual(list(inspect.signature(getattr(Follower, name)).parameters), names)

    def test_marks_are_those_of_the_document(self):
        calls = []
        keeper = kept(tuple_seal, 8, ["put 1 a", "put 2 b", "put 3 c"])
        follower = following(noting_seal(calls), keeper, 1)
        self.taken(follower, 3, keeper.head(), keeper.growth(1))
        self.assertIs(follower.judge(Holds(0, 1, "a", 8), keeper.paper(0, 1)), True)
        self.assertLessEqual({call[0] for call in calls}, {"leaf", "pair", "row", "fork", "none", "table", "book"})
        self.assertEqual({call[1:] for call in calls if call[0] == "none"}, {(0, 0)})


if __name__ == "__main__":
    unittest.main()
