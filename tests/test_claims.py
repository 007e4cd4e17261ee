import copy
import inspect
import random
import unittest

from growbook.claims import Claim, Grows, Holds, Lacks, Stands
from growbook.keeper import Keeper
from tests.helper import PlainBook, alike, bent_lists, bent_papers, empty_seal, judging_seals, kept, noting_seal
from tests.helper import numbering_seal, some_texts, tuple_seal

JUNK = [None, "", "x", 0, -1, 1.5, True, False, b"", {}, [], (), [None], (None,), [[]], ([],), object()]


def other_things(seal, keeper):
    """Tops that may stand in a paper's list in another one's place."""
    size = keeper.size()
    return [None, "x", 0, (), seal("none", 0, 0), keeper.head(), keeper.table_head(0), keeper.growth(size)[0],
            *keeper.path(0), keeper.leaves[0], keeper.leaves[-1], *keeper.way(size - 1, 1)[0]]


class ClaimCase(unittest.TestCase):
    def judged(self, wanted, claim, seal, size, head, paper):
        told = claim.judged(seal, size, head, paper)
        self.assertIs(told, wanted, (vars(claim), size))

    def just_its_own(self, claim, seal, size, head, own, papers):
        """The claim is true: its own paper shows it, and no other one does."""
        self.judged(True, claim, seal, size, head, own)
        bent = 0
        for paper in papers:
            if not alike(paper, own):
                bent += 1
                self.judged(False, claim, seal, size, head, paper)
        self.assertGreater(bent, 5)


class Kinds(ClaimCase):
    def test_names_and_arguments(self):
        for kind, names in (
            (Claim, []), (Stands, ["place", "text", "table"]), (Grows, ["old", "head"]),
            (Holds, ["place", "key", "value", "depth"]), (Lacks, ["place", "key", "depth"]),
        ):
            self.assertTrue(issubclass(kind, Claim))
            self.assertEqual(list(inspect.signature(kind).parameters), names)
            asked = list(inspect.signature(kind.judged).parameters)
            self.assertEqual(asked, ["self", "seal", "size", "head", "paper"])

    def test_a_bare_claim_is_never_shown(self):
        empty = tuple_seal("book", 0, tuple_seal("none", 0, 0))
        for paper in JUNK:
            self.judged(False, Claim(), tuple_seal, 0, empty, paper)


class StandsTests(ClaimCase):
    def test_a_book_of_three_by_hand(self):
        one, two, three = [("leaf", text, "T") for text in ("a", "b", "c")]
        head = ("book", 3, ("pair", ("pair", one, two), three))
        self.judged(True, Stands(0, "a", "T"), tuple_seal, 3, head, [two, three])
        self.judged(True, Stands(1, "b", "T"), tuple_seal, 3, head, [one, three])
        self.judged(True, Stands(2, "c", "T"), tuple_seal, 3, head, [("pair", one, two)])
        self.judged(False, Stands(0, "b", "T"), tuple_seal, 3, head, [two, three])
        self.judged(False, Stands(0, "a", "U"), tuple_seal, 3, head, [two, three])
        self.judged(False, Stands(0, "a", "T"), tuple_seal, 3, head, [three, two])
        self.judged(False, Stands(2, "c", "T"), tuple_seal, 3, head, (("pair", one, two),))
        self.judged(False, Stands(0, "a", "T"), tuple_seal, 4, head, [two, three])

    def test_true_just_where_it_is_true_and_the_paper_is_the_keepers_own(self):
        for seal in judging_seals():
            keeper = kept(seal, 2, ["put 1 a", "", "put 2 b", "", "cut 1"])
            papers = [keeper.path(place, size) for size in range(6) for place in range(size)]
            papers = papers + [None, (), tuple(keeper.path(0))]
            heads = [keeper.head(size) for size in range(6)]
            for place in range(-1, 7):
                for entry in range(5):
                    claim = Stands(place, keeper.text(entry), keeper.table_head(entry))
                    for size in range(6):
                        here = 0 <= place < size and keeper.leaves[place] == keeper.leaves[entry]
                        for of, head in enumerate(heads):
                            for paper in papers:
                                wanted = bool(here and of == size and alike(paper, keeper.path(place, size)))
                                self.judged(wanted, claim, seal, size, head, paper)

    def test_bent_papers(self):
        chance = random.Random(16)
        for seal in judging_seals():
            for count in (1, 2, 3, 5, 8, 13, 20):
                keeper = kept(seal, 3, some_texts(chance, count, 3))
                things = other_things(seal, keeper)
                for place in {0, 1, count // 2, count - 1} & set(range(count)):
                    claim = Stands(place, keeper.text(place), keeper.table_head(place))
                    own = keeper.path(place)
                    self.just_its_own(claim, seal, count, keeper.head(), own, bent_lists(own, things))

    def test_other_texts_and_tables(self):
        for seal in judging_seals():
            keeper = kept(seal, 8, ["put 1 a", "put 2 b", "put 3 c"])
            path = keeper.path(1)
            self.judged(True, Stands(1, "put 2 b", keeper.table_head(1)), seal, 3, keeper.head(), path)
            for text in ("", "put 2 b ", "put 2 c", "put 1 a"):
                self.judged(False, Stands(1, text, keeper.table_head(1)), seal, 3, keeper.head(), path)
            for table in (keeper.table_head(0), keeper.table_head(2), None, "x", keeper.head()):
                self.judged(False, Stands(1, "put 2 b", table), seal, 3, keeper.head(), path)

    def test_the_empty_book_has_no_place(self):
        for seal in judging_seals():
            keeper = Keeper(seal)
            table = seal("table", 8, seal("none", 0, 0))
            for place in (-1, 0, 1):
                for size in (-1, 0, 1):
                    for paper in ([], None, [keeper.head()]):
                        self.judged(False, Stands(place, "", table), seal, size, keeper.head(), paper)

    def test_rows_laid_of_any_leaves(self):
        leaves = ["one", ("pair", "x", "y"), ("leaf", "mine", None), 4, ("book", 0, 0)]
        head = ("book", 5, ("pair", ("pair", ("pair", "one", leaves[1]), ("pair", leaves[2], 4)), leaves[4]))
        path = [4, ("pair", "one", leaves[1]), leaves[4]]
        self.judged(True, Stands(2, "mine", None), tuple_seal, 5, head, path)
        for place in (0, 1, 3, 4):
            self.judged(False, Stands(place, "mine", None), tuple_seal, 5, head, path)
        # A leaf that looks like a pair has nothing beneath it.
        self.judged(False, Stands(1, "x", "y"), tuple_seal, 5, head, ["one", ("pair", leaves[2], 4), leaves[4]])


class GrowsTests(ClaimCase):
    def test_a_book_of_three_by_hand(self):
        one, two, three = "a", "b", "c"
        pair = ("pair", one, two)
        head = ("book", 3, ("pair", pair, three))
        self.judged(True, Grows(1, ("book", 1, one)), tuple_seal, 3, head, [one, two, three])
        self.judged(True, Grows(2, ("book", 2, pair)), tuple_seal, 3, head, [pair, three])
        self.judged(True, Grows(3, head), tuple_seal, 3, head, [("pair", pair, three)])
        self.judged(False, Grows(1, ("book", 1, two)), tuple_seal, 3, head, [one, two, three])
        self.judged(False, Grows(2, ("book", 2, pair)), tuple_seal, 3, head, [one, two, three])
        self.judged(False, Grows(3, head), tuple_seal, 3, head, [pair, three])
        self.judged(False, Grows(2, ("book", 2, pair)), tuple_seal, 3, head, (pair, three))

    def test_true_just_where_it_is_true_and_the_paper_is_the_keepers_own(self):
        for seal in judging_seals():
            keeper = kept(seal, 2, ["put 1 a", "", "put 2 b", "", "cut 1"])
            papers = [keeper.growth(old, size) for size in range(6) for old in range(1, size + 1)] + [[], None, ()]
            heads = [keeper.head(size) for size in range(6)]
            for old in range(-1, 8):
                for early, early_head in enumerate(heads):
                    claim = Grows(old, early_head)
                    for size in range(6):
                        here = old == early and old <= size
                        for of, head in enumerate(heads):
                            for paper in papers:
                                wanted = here and alike(paper, keeper.growth(old, size))
                                if old > 0 or size == 0:
                                    wanted = wanted and of == size
                                self.judged(wanted, claim, seal, size, head, paper)

    def test_bent_papers(self):
        chance = random.Random(17)
        for seal in judging_seals():
            for count in (1, 2, 3, 5, 8, 13, 20):
                keeper = kept(seal, 3, some_texts(chance, count, 3))
                things = other_things(seal, keeper)
                for old in {0, 1, 2, count // 2, count - 1, count} & set(range(count + 1)):
                    own = keeper.growth(old)
                    claim = Grows(old, keeper.head(old))
                    self.just_its_own(claim, seal, count, keeper.head(), own, bent_lists(own, things))

    def test_each_old_size_of_each_size_up_to_20(self):
        for seal in (tuple_seal, numbering_seal()):
            keeper = kept(seal, 2, some_texts(random.Random(18), 20, 2))
            heads = [keeper.head(size) for size in range(21)]
            for size in range(21):
                for old in range(size + 1):
                    paper = keeper.growth(old, size)
                    self.judged(True, Grows(old, heads[old]), seal, size, heads[size], paper)
                    self.judged(False, Grows(old, heads[(old + 1) % 21]), seal, size, heads[size], paper)
                    self.judged(old == 0 < size, Grows(old, heads[old]), seal, size, heads[(size + 1) % 21], paper)

    def test_old_size_0(self):
        for seal in judging_seals():
            keeper = kept(seal, 8, ["put 1 a", "put 2 b"])
            empty = keeper.head(0)
            for size in (1, 2, 3, 1000):
                for head in (keeper.head(), keeper.head(1), empty, None, "no head"):
                    self.judged(True, Grows(0, empty), seal, size, head, [])
                    self.judged(False, Grows(0, keeper.head(1)), seal, size, head, [])
                    self.judged(False, Grows(0, None), seal, size, head, [])
                    for paper in [*JUNK, keeper.growth(1), keeper.growth(2), [empty]]:
                        if not alike(paper, []):
                            self.judged(False, Grows(0, empty), seal, size, head, paper)
            self.judged(True, Grows(0, empty), seal, 0, empty, [])
            for head in (keeper.head(), keeper.head(1), None, "no head"):
                self.judged(False, Grows(0, empty), seal, 0, head, [])
                self.judged(False, Grows(0, head), seal, 0, head, [])
                self.judged(False, Grows(0, head), seal, 0, empty, [])
            self.judged(False, Grows(0, empty), seal, 0, empty, ())
            self.judged(False, Grows(0, empty), seal, 0, empty, [seal("none", 0, 0)])
            self.judged(False, Grows(0, empty), seal, -1, empty, [])

    def test_old_sizes_below_0_or_above_the_size(self):
        for seal in judging_seals():
            keeper = kept(seal, 8, ["put 1 a", "put 2 b", "put 3 c"])
            for size in range(4):
                for old in (-2, -1, size + 1, size + 2, 1 << 70):
                    for early in range(4):
                        for paper in ([], keeper.growth(early), keeper.growth(size, size), [keeper.head()], None):
                            self.judged(False, Grows(old, keeper.head(early)), seal, size, keeper.head(size), paper)


class KeyCase(ClaimCase):
    def shown(self, keeper, seal, place, key, size):
        """The claim that is true of the key, held against the one that is not."""
        paper = keeper.paper(place, key, size)
        head = keeper.head(size)
        end = paper[3][1]
        if end is not None and end[0] == key:
            true = Holds(place, key, end[1], keeper.depth)
            self.judged(False, Lacks(place, key, keeper.depth), seal, size, head, paper)
        else:
            true = Lacks(place, key, keeper.depth)
            self.judged(False, Holds(place, key, "a" if end is None else end[1], keeper.depth), seal, size, head, paper)
        self.judged(True, true, seal, size, head, paper)
        self.judged(False, Holds(place, key, "another value", keeper.depth), seal, size, head, paper)
        return true


class HoldsAndLacks(KeyCase):
    def test_a_table_by_hand(self):
        low, high = ("row", 1, "a"), ("row", 2, "b")
        table = ("table", 2, ("fork", low, high))
        head = ("book", 1, ("leaf", "t", table))
        self.judged(True, Holds(0, 1, "a", 2), tuple_seal, 1, head, ("t", table, [], ([high], (1, "a"))))
        self.judged(True, Holds(0, 2, "b", 2), tuple_seal, 1, head, ("t", table, [], ([low], (2, "b"))))
        self.judged(True, Lacks(0, 0, 2), tuple_seal, 1, head, ("t", table, [], ([high], (1, "a"))))
        self.judged(True, Lacks(0, 3, 2), tuple_seal, 1, head, ("t", table, [], ([low], (2, "b"))))
        self.judged(False, Lacks(0, 3, 2), tuple_seal, 1, head, ("t", table, [], ([high], (1, "a"))))
        self.judged(False, Lacks(0, 1, 2), tuple_seal, 1, head, ("t", table, [], ([low], (2, "b"))))
        self.judged(False, Holds(0, 1, "b", 2), tuple_seal, 1, head, ("t", table, [], ([low], (2, "b"))))
        self.judged(False, Holds(0, 1, "a", 1), tuple_seal, 1, head, ("t", table, [], ([high], (1, "a"))))

    def test_the_empty_table(self):
        for seal in judging_seals():
            keeper = kept(seal, 8, [""])
            for key in (0, 1, 255):
                self.assertIsInstance(self.shown(keeper, seal, 0, key, 1), Lacks)
            self.judged(False, Holds(0, 0, "", 8), seal, 1, keeper.head(), keeper.paper(0, 0))
            for end in ((0, ""), (1, "a"), ()):
                paper = ("", keeper.table_head(0), [], ([], end))
                self.judged(False, Holds(0, 0, "", 8), seal, 1, keeper.head(), paper)
                self.judged(False, Lacks(0, 0, 8), seal, 1, keeper.head(), paper)

    def test_the_empty_value_is_a_value(self):
        for seal in judging_seals():
            keeper = kept(seal, 8, ["put 5 "])
            self.judged(True, Holds(0, 5, "", 8), seal, 1, keeper.head(), keeper.paper(0, 5))
            self.judged(False, Lacks(0, 5, 8), seal, 1, keeper.head(), keeper.paper(0, 5))

    def test_true_just_where_it_is_true_and_the_paper_is_the_keepers_own(self):
        for seal in (tuple_seal, numbering_seal()):
            keeper = kept(seal, 2, ["put 1 a\nput 2 b", "put 0 a", "put 1 b\ncut 2\ncut 0"])
            book = PlainBook(seal, 2, ["put 1 a\nput 2 b", "put 0 a", "put 1 b\ncut 2\ncut 0"])
            papers = [book.paper(place, key, size) for size in range(4) for place in range(size) for key in range(4)]
            heads = [(of, book.head(of)) for of in range(4)]
            for place in range(-1, 4):
                for key in range(-1, 5):
                    for depth in (1, 2, 3):
                        for value in ("a", "b", "", None):
                            claim = Lacks(place, key, depth) if value is None else Holds(place, key, value, depth)
                            for size in range(4):
                                here = depth == 2 and 0 <= place < size and 0 <= key < 4
                                here = here and book.held[place].get(key) == value
                                own = keeper.paper(place, key, size) if here else None
                                for of, head in heads:
                                    for paper in papers:
                                        wanted = here and of == size and paper == own
                                        self.judged(wanted, claim, seal, size, head, paper)

    def test_books_of_1_to_20_entries(self):
        chance = random.Random(19)
        for seal in judging_seals():
            for count in range(1, 21):
                depth = chance.choice([1, 2, 3, 8, 16])
                texts = some_texts(chance, count, depth)
                keeper = kept(seal, depth, texts)
                book = PlainBook(seal, depth, texts)
                for _ in range(8):
                    size = chance.randint(1, count)
                    place = chance.randrange(size)
                    keys = [0, (1 << depth) - 1, chance.randrange(1 << depth), *sorted(book.held[place])[:2]]
                    key = chance.choice(keys)
                    true = self.shown(keeper, seal, place, key, size)
                    self.assertIs(isinstance(true, Holds), key in book.held[place])

    def test_a_long_book(self):
        texts = some_texts(random.Random(20), 300, 8, 3)
        seal = numbering_seal()
        keeper = kept(seal, 8, texts)
        for size in (300, 299, 257, 256, 129, 1):
            for place in {0, 1, size // 2, size - 1} & set(range(size)):
                for key in (0, 1, 128, 255):
                    self.shown(keeper, seal, place, key, size)
                stands = Stands(place, keeper.text(place), keeper.table_head(place))
                self.judged(True, stands, seal, size, keeper.head(size), keeper.path(place, size))
                grows = Grows(place, keeper.head(place))
                self.judged(True, grows, seal, size, keeper.head(size), keeper.growth(place, size))

    def test_bent_papers(self):
        chance = random.Random(21)
        for seal in judging_seals():
            for count, depth in ((1, 1), (1, 8), (2, 2), (3, 16), (5, 3), (8, 8), (20, 4)):
                keeper = kept(seal, depth, ["put 0 a\nput 1 b", *some_texts(chance, count, depth, 6)])
                things = other_things(seal, keeper)
                size = count + 1
                place = chance.randrange(size)
                held = sorted(PlainBook(seal, depth, keeper.texts).held[place])
                for key in [0, (1 << depth) - 1, *held[:1], *held[-1:]]:
                    true = self.shown(keeper, seal, place, key, size)
                    own = keeper.paper(place, key)
                    self.just_its_own(true, seal, size, keeper.head(), own, bent_papers(own, things))
                    other_place = keeper.paper((place + 1) % size, key)
                    other_key = keeper.paper(place, key ^ 1)
                    other_size = keeper.paper(0, key, 1)
                    for paper in (other_place, other_key, other_size):
                        self.judged(alike(paper, own), true, seal, size, keeper.head(), paper)

    def test_bent_papers_never_show_what_is_not_true(self):
        for seal in judging_seals():
            keeper = kept(seal, 3, ["put 0 a\nput 1 b\nput 6 c", "cut 1\nput 7 a"])
            things = other_things(seal, keeper)
            for place in (0, 1):
                for key in range(8):
                    own = keeper.paper(place, key)
                    for paper in bent_papers(own, things):
                        for claim in (Lacks(place, key, 3), *[Holds(place, key, value, 3) for value in ("a", "b", "")]):
                            if not alike(paper, own):
                                self.judged(False, claim, seal, 2, keeper.head(), paper)

    def test_keys_out_of_the_depth(self):
        for seal in judging_seals():
            for depth in (1, 8, 16):
                keeper = kept(seal, depth, ["", "put 0 a", "put 1 b", f"put {(1 << depth) - 1} b"])
                for place in range(4):
                    for key in (-2, -1, 1 << depth, (1 << depth) + 1, 1 << 70):
                        for near in (0, 1, (1 << depth) - 1):
                            text, table, path, way = keeper.paper(place, near)
                            for paper in ((text, table, path, way), (text, table, path, (way[0], (key, "b")))):
                                self.judged(False, Lacks(place, key, depth), seal, 4, keeper.head(), paper)
                                for value in ("a", "b"):
                                    self.judged(False, Holds(place, key, value, depth), seal, 4, keeper.head(), paper)

    def test_another_depth_than_the_keepers(self):
        for seal in judging_seals():
            keeper = kept(seal, 8, ["put 1 a", ""])
            for depth in (-1, 0, 1, 2, 7, 9, 16, 17, 1 << 70):
                for place in (0, 1):
                    self.judged(False, Holds(place, 1, "a", depth), seal, 2, keeper.head(), keeper.paper(place, 1))
                    self.judged(False, Lacks(place, 0, depth), seal, 2, keeper.head(), keeper.paper(place, 0))

    def test_ways_longer_than_the_depth(self):
        for seal in judging_seals():
            keeper = kept(seal, 1, ["put 0 a\nput 1 b"])
            text, table, path, way = keeper.paper(0, 0)
            for count in range(1, 5):
                for end in (None, (0, "a"), (1, "b")):
                    paper = (text, table, path, (way[0] * (count + 1), end))
                    self.judged(False, Holds(0, 0, "a", 1), seal, 1, keeper.head(), paper)
                    self.judged(False, Lacks(0, 0, 1), seal, 1, keeper.head(), paper)

    def test_an_end_out_of_its_part_shows_nothing(self):
        # No table lays its rows so: 3 stands where its highest bit is 0.
        table = ("table", 2, ("fork", ("row", 3, "a"), ("row", 2, "b")))
        head = ("book", 1, ("leaf", "", table))
        paper = ("", table, [], ([("row", 2, "b")], (3, "a")))
        for key in (0, 1):
            self.judged(False, Lacks(0, key, 2), tuple_seal, 1, head, paper)
        beyond = ("table", 2, ("row", 4, "a"))
        head = ("book", 1, ("leaf", "", beyond))
        self.judged(False, Lacks(0, 0, 2), tuple_seal, 1, head, ("", beyond, [], ([], (4, "a"))))

    def test_papers_of_another_form_that_the_head_is_made_of(self):
        def judged_by_its_head(wanted, text, end):
            row = ("none", 0, 0) if end is None else ("row", end[0], end[1])
            table = ("table", 2, ("fork", row, "other"))
            head = ("book", 1, ("leaf", text, table))
            self.judged(wanted, Lacks(0, 0, 2), tuple_seal, 1, head, (text, table, [], (["other"], end)))

        judged_by_its_head(True, "", None)
        judged_by_its_head(True, "text", (1, "a"))
        for text in (None, 0, (), ("text",), ["text"], b"text"):
            judged_by_its_head(False, text, None)
        for end in ((1, None), (1, 0), (1, ("a",)), (1, b"a"), (True, "a"), (1.0, "a"), [1, "a"], (1, "a", None)):
            judged_by_its_head(False, "text", end)

    def test_a_thing_that_passes_for_any_tables_head_shows_nothing(self):
        class Passing:
            def __eq__(self, other):
                return True

        keeper = kept(tuple_seal, 8, ["put 1 a"])
        text, _, path, _ = keeper.paper(0, 1)
        paper = (text, Passing(), path, ([], (1, "another value")))
        self.judged(False, Holds(0, 1, "another value", 8), tuple_seal, 1, keeper.head(), paper)
        self.judged(False, Lacks(0, 1, 8), tuple_seal, 1, keeper.head(), (text, Passing(), path, ([], None)))

    def test_true_is_no_whole_number(self):
        keeper = kept(tuple_seal, 8, ["put 1 a\nput 0 b"])
        for key, value, bent in ((1, "a", True), (0, "b", False)):
            claim = Holds(0, key, value, 8)
            text, table, path, way = keeper.paper(0, key)
            self.judged(True, claim, tuple_seal, 1, keeper.head(), (text, table, path, (way[0], (key, value))))
            self.judged(False, claim, tuple_seal, 1, keeper.head(), (text, table, path, (way[0], (bent, value))))


class AllClaims(ClaimCase):
    def claims_and_papers(self, keeper, size):
        """True claims of the book of that size with their papers."""
        for place in range(size):
            yield Stands(place, keeper.text(place), keeper.table_head(place)), keeper.path(place, size)
            yield Grows(place + 1, keeper.head(place + 1)), keeper.growth(place + 1, size)
            yield Holds(place, 1, "a", 8), keeper.paper(place, 1, size)
            yield Lacks(place, 2, 8), keeper.paper(place, 2, size)

    def test_papers_of_any_other_form(self):
        for seal in (tuple_seal, numbering_seal()):
            keeper = kept(seal, 8, ["put 1 a", "put 5 b", "put 200 c"])
            for claim, paper in self.claims_and_papers(keeper, 3):
                self.judged(True, claim, seal, 3, keeper.head(), paper)
                for junk in JUNK:
                    self.judged(False, claim, seal, 3, keeper.head(), junk)

    def test_a_book_of_one_entry_and_papers_of_any_other_form(self):
        for seal in judging_seals():
            keeper = kept(seal, 8, ["put 1 a"])
            for claim, paper in self.claims_and_papers(keeper, 1):
                self.judged(True, claim, seal, 1, keeper.head(), paper)
                for junk in JUNK:
                    if not alike(junk, paper):
                        self.judged(False, claim, seal, 1, keeper.head(), junk)

    def test_heads_of_another_size(self):
        for seal in judging_seals():
            keeper = kept(seal, 8, ["put 1 a"] * 9)
            for size in range(1, 10):
                for claim, paper in self.claims_and_papers(keeper, size):
                    self.judged(True, claim, seal, size, keeper.head(size), paper)
                    for of in {0, size - 1, size + 1, 9} & set(range(10)) - {size}:
                        self.judged(False, claim, seal, size, keeper.head(of), paper)
                        self.judged(False, claim, seal, of, keeper.head(size), paper)
                    for head in (None, "no head", 0, keeper.table_head(0), seal("none", 0, 0), paper):
                        self.judged(False, claim, seal, size, head, paper)

    def test_claims_of_places_that_are_out(self):
        for seal in judging_seals():
            keeper = kept(seal, 8, ["put 1 a"] * 5)
            for size in range(6):
                for place in (-6, -5, -1, size, size + 1, 1 << 70):
                    for near in range(size):
                        head = keeper.head(size)
                        stands = Stands(place, keeper.text(near), keeper.table_head(near))
                        self.judged(False, stands, seal, size, head, keeper.path(near, size))
                        self.judged(False, Holds(place, 1, "a", 8), seal, size, head, keeper.paper(near, 1, size))
                        self.judged(False, Lacks(place, 0, 8), seal, size, head, keeper.paper(near, 0, size))

    def test_vast_sizes_are_judged_too(self):
        for seal in judging_seals():
            keeper = kept(seal, 8, ["put 1 a"] * 3)
            for size in (1000, 1 << 70, (1 << 2000) + 1, -1, -(1 << 70)):
                for claim, paper in self.claims_and_papers(keeper, 3):
                    self.judged(False, claim, seal, size, keeper.head(), paper)
                    self.judged(False, claim, seal, size, seal("book", size, "x"), [])

    def test_a_row_of_a_vast_size_is_judged(self):
        size = (1 << 70) + 1
        tops = [("other", count) for count in range(70)]
        top = ("leaf", "t", "T")
        for other in tops:
            top = ("pair", top, other)
        full = top
        top = ("pair", full, "last")
        head = ("book", size, top)
        self.judged(True, Stands(0, "t", "T"), tuple_seal, size, head, [*tops, "last"])
        self.judged(True, Grows(size - 1, ("book", size - 1, full)), tuple_seal, size, head, [full, "last"])
        self.judged(False, Stands(1, "t", "T"), tuple_seal, size, head, [*tops, "last"])

    def test_nothing_handed_in_is_changed(self):
        keeper = kept(tuple_seal, 8, ["put 1 a", "put 5 b", "put 200 c"])
        for claim, paper in self.claims_and_papers(keeper, 3):
            before = copy.deepcopy(paper)
            held = repr(vars(claim))
            self.judged(True, claim, tuple_seal, 3, keeper.head(), paper)
            self.judged(True, claim, tuple_seal, 3, keeper.head(), paper)
            self.assertEqual(paper, before)
            self.assertEqual(repr(vars(claim)), held)

    def test_a_claim_is_judged_alike_by_each_seal(self):
        for seal in judging_seals():
            keeper = kept(seal, 8, ["put 1 a", "put 5 b", "put 200 c"])
            told = [claim.judged(seal, 3, keeper.head(), paper) for claim, paper in self.claims_and_papers(keeper, 3)]
            self.assertEqual(told, [True] * 12)

    def test_marks_are_those_of_the_document(self):
        calls = []
        seal = noting_seal(calls)
        keeper = kept(tuple_seal, 8, ["put 1 a", "put 200 b", "put 3 c"])
        for claim, paper in self.claims_and_papers(keeper, 3):
            self.judged(True, claim, seal, 3, keeper.head(), paper)
        empty = kept(tuple_seal, 8, [""])
        self.judged(True, Lacks(0, 1, 8), seal, 1, empty.head(), empty.paper(0, 1))
        self.assertEqual({call[0] for call in calls}, {"leaf", "pair", "row", "fork", "none", "table", "book"})
        self.assertEqual({call[1:] for call in calls if call[0] == "none"}, {(0, 0)})

    def test_a_seal_that_is_not_as_asked_still_gives_true_or_false(self):
        keeper = kept(empty_seal, 8, ["put 1 a", "put 5 b"])
        for claim, paper in self.claims_and_papers(keeper, 2):
            self.assertIn(claim.judged(empty_seal, 2, keeper.head(), paper), (True, False))
            self.judged(False, claim, empty_seal, 2, keeper.head(), None)


if __name__ == "__main__":
    unittest.main()
