import itertools
import random
import unittest

from ledquestions.clashing import clash, clashes, is_clash
from ledquestions.trees import tree
from ledquestions.worlds import holds_book
from tests.book_oracles import as_lines, can_be, finite_world, is_right_clash, least_clashing
from tests.helpers import ODD, changed, unchanged
from tests.lead_oracles import some_rows
from tests.oracles import is_plain, is_so, small_worlds, some_rules

A, B, C, R, RB, S, SB = ("a",), ("b",), ("c",), ("r", 0), ("r", 1), ("s", 0), ("s", 1)
# Each: a book, and a paper for it.
VOID = (
    (("within", A, R), ("within", RB, B), ("within", RB, C), ("apart", B, C), ("along", S, RB)),
    (("a", "x"), ("c", "x"), ("s", "x", "y")),
)
APART = (
    (("within", A, B), ("along", R, SB), ("apart", B, S), ("within", C, C)),
    (("a", "x"), ("b", "z"), ("r", "y", "x"), ("s", "x", "y")),
)
AWAY = (
    (("along", R, S), ("away", S, SB), ("along", RB, R), ("away", ("t", 0), ("t", 1))),
    (("r", "x", "y"), ("s", "y", "x"), ("t", "x", "x")),
)
SELF = ((("apart", R, RB), ("away", S, SB)), (("r", "x", "x"), ("r", "x", "y"), ("s", "y", "y")))
END = ("apart", 3, ((1, 0),), ((2, 0),))
PAPERS = (
    (VOID, ("void", ("a", "x"), 0, (((((0, 0),), R),), END))),
    (VOID, ("void", ("s", "x", "y"), 0, ((), ("apart", 3, ((4, 0), (1, 0)), ((4, 0), (2, 0)))))),
    (VOID, ("void", ("s", "x", "y"), 1, ((((), SB),), ("apart", 3, ((4, 0), (1, 0)), ((4, 0), (2, 0)))))),
    (APART, ("apart", 2, ("a", "x"), 0, ((0, 0),), ("s", "x", "y"), 0, ())),
    (APART, ("apart", 2, ("a", "x"), 0, ((0, 0),), ("r", "y", "x"), 1, ((1, 1),))),
    (AWAY, ("away", 1, ("r", "x", "y"), 0, ((0, 0),), ("s", "y", "x"), 1, ())),
    (AWAY, ("away", 1, ("s", "y", "x"), 0, (), ("r", "x", "y"), 1, ((0, 1),))),
    (AWAY, ("away", 1, ("r", "x", "y"), 1, ((2, 0), (0, 0)), ("r", "x", "y"), 1, ((0, 1),))),
    (AWAY, ("away", 3, ("t", "x", "x"), 0, (), ("t", "x", "x"), 1, ())),
    (AWAY, ("away", 3, ("t", "x", "x"), 1, (), ("t", "x", "x"), 0, ())),
    (AWAY, ("away", 3, ("t", "x", "x"), 0, (), ("t", "x", "x"), 0, ())),
    (SELF, ("apart", 0, ("r", "x", "x"), 0, (), ("r", "x", "x"), 1, ())),
    (SELF, ("apart", 0, ("r", "x", "y"), 0, (), ("r", "x", "x"), 1, ())),
    (SELF, ("away", 1, ("s", "y", "y"), 0, (), ("s", "y", "y"), 1, ())),
)
RIGHT = (0, 1, 2, 3, 4, 5, 6, 7, 8, 11, 12, 13)
BOOKS = [
    (some_rules(seed, 2 + seed % 6, kinds="ab"), some_rows(seed, 1 + seed % 5, kinds="ab", things="xy"))
    for seed in range(200)
]


class IsClash(unittest.TestCase):
    def judged(self, book, thing, right):
        with self.subTest(repr((book, thing))[:400]):
            self.assertIs(is_clash(book, thing), right)

    def test_by_hand(self):
        for k, (book, paper) in enumerate(PAPERS):
            self.assertEqual(is_right_clash(book, paper), k in RIGHT, k)
            self.judged(book, paper, k in RIGHT)

    def test_wrong_ones_by_hand(self):
        right = PAPERS[3][1]
        for thing in (
            ("apart", 2, ("a", "z"), 0, ((0, 0),), ("s", "x", "y"), 0, ()),
            ("apart", 2, ("a", "x"), 1, ((0, 0),), ("s", "x", "y"), 0, ()),
            ("apart", 2, ("a", "x"), 0, ((0, 0),), ("s", "x", "y"), 1, ()),
            ("apart", 2, ("b", "z"), 0, (), ("s", "x", "y"), 0, ()),
            ("away", 2, ("a", "x"), 0, ((0, 0),), ("s", "x", "y"), 0, ()),
            ("within", 0, ("a", "x"), 0, (), ("a", "x"), 0, ((0, 0),)),
            ("apart", 0, ("a", "x"), 0, (), ("a", "x"), 0, ((0, 0),)),
            ("apart", 3, ("a", "x"), 0, (), ("a", "x"), 0, ()),
            ("apart", True, ("a", "x"), 0, ((0, 0),), ("s", "x", "y"), 0, ()),
            ("apart", 2, ("a", "x"), False, ((0, 0),), ("s", "x", "y"), 0, ()),
            ("apart", 2, ("a", "x"), 0, ((False, 0),), ("s", "x", "y"), 0, ()),
            right[5:] + right[:5], right[:2] + right[5:] + right[2:5], list(right), right[:4], ("void",) + right[2:5],
        ):
            self.assertFalse(is_right_clash(APART, thing))
            self.judged(APART, thing, False)
        # The pair must be seen the same way round, not only have the same things.
        self.judged(((("away", R, S),), (("r", "x", "y"), ("s", "y", "x"))), ("away", 0, ("r", "x", "y"), 0, (), ("s", "y", "x"), 0, ()), False)
        self.judged(((("away", R, S),), (("r", "x", "y"), ("s", "x", "y"))), ("away", 0, ("r", "x", "y"), 0, (), ("s", "x", "y"), 0, ()), True)
        # Rules of the other words let both be.
        both = (("r", "x", "y"), ("s", "x", "y"))
        for word, right in (("along", False), ("within", False), ("apart", False), ("away", True)):
            self.judged((((word, R, S),), both), (word, 0, both[0], 0, (), both[1], 0, ()), right or word == "apart")
            self.judged((((word, R, S),), both), ("away", 0, both[0], 0, (), both[1], 0, ()), right)
        # Rows of kinds have no pairs, and within leads no pairs.
        self.judged(((("away", R, R),), (("r", "x"),)), ("away", 0, ("r", "x"), 0, (), ("r", "x"), 0, ()), False)
        self.judged(((("away", R, S), ("within", R, S)), (("r", "x", "y"),)), ("away", 0, ("r", "x", "y"), 0, (), ("r", "x", "y"), 0, ((1, 0),)), False)

    def test_one_thing_changed(self):
        counts = [0, 0]
        for k in RIGHT:
            book, paper = PAPERS[k]
            for near in changed(paper):
                right = is_right_clash(book, near)
                counts[right] += 1
                self.assertIs(is_clash(book, near), right, repr(near)[:300])
        self.assertGreater(counts[0], 5000)

    def test_papers_of_other_books(self):
        counts = [0, 0]
        books = [book for book, paper in PAPERS] + [(book[0][::-1], book[1]) for book, paper in PAPERS]
        books += [(book[0], book[1][:1]) for book, paper in PAPERS] + [((), book[1]) for book, paper in PAPERS]
        for book, (other, paper) in itertools.product(books, PAPERS):
            right = is_right_clash(book, paper)
            counts[right] += 1
            self.assertIs(is_clash(book, paper), right)
        self.assertGreater(min(counts), 30)

    def test_odd_things(self):
        for thing in ODD:
            for book, paper in PAPERS[:6]:
                self.assertIs(is_clash(book, thing), False)
                self.assertTrue(unchanged(is_clash, book, thing))
                for k in range(len(paper)):
                    near = paper[:k] + (thing,) + paper[k + 1:]
                    self.assertIs(is_clash(book, near), is_right_clash(book, near), repr(near)[:200])

    def test_where_nothing_clashes_nothing_is_let_by(self):
        for book in BOOKS:
            if can_be(*book):
                for other, paper in PAPERS:
                    self.assertIs(is_clash(book, paper), False)

    def test_by_name(self):
        self.assertIs(is_clash(thing=PAPERS[0][1], book=VOID), True)


class ClashAndClashes(unittest.TestCase):
    def test_by_hand(self):
        for book, rows in (
            (VOID, ((("a", "x"),), (("s", "x", "y"),))),
            (APART, ((("a", "x"), ("r", "y", "x")), (("a", "x"), ("s", "x", "y")))),
            (AWAY, ((("r", "x", "y"),), (("t", "x", "x"),))),
            (SELF, ((("r", "x", "x"),), (("s", "y", "y"),))),
            (((), ()), ()), (((), SELF[1]), ()), ((SELF[0], ()), ()), ((SELF[0], (("r", "x", "y"),)), ()),
            (((("apart", A, A),), (("a", "x"), ("a", "y"), ("b", "x"))), ((("a", "x"),), (("a", "y"),))),
            (((("apart", A, B),), (("a", "x"), ("b", "x"), ("b", "y"))), ((("a", "x"), ("b", "x")),)),
            (((("apart", R, RB),), (("r", "x", "y"), ("r", "y", "z"))), ((("r", "x", "y"), ("r", "y", "z")),)),
            (((("away", R, RB),), (("r", "x", "y"), ("r", "y", "x"))), ((("r", "x", "y"), ("r", "y", "x")),)),
            (((("away", R, S),), (("r", "x", "y"), ("s", "y", "x"))), ()),
            (((("within", A, R), ("apart", RB, RB)), (("a", "x"), ("r", "y", "y"))), ((("a", "x"),), (("r", "y", "y"),))),
            (((("within", A, R), ("along", R, S), ("away", R, S)), (("a", "x"),)), ((("a", "x"),),)),
            (((("within", A, R), ("within", A, S), ("away", R, S)), (("a", "x"),)), ()),
        ):
            with self.subTest(repr(book)):
                self.assertEqual(clashes(book), rows)
                self.assertEqual(least_clashing(*book), rows)
                self.assertEqual(clash(book) is None, rows == ())
                if rows:
                    self.assertIs(is_clash(book, clash(book)), True)

    def test_many(self):
        counts, pairs = [0, 0], [0, 0]
        for book in BOOKS:
            paper, lots = clash(book), clashes(book)
            with self.subTest(repr(book)):
                right = least_clashing(*book)
                counts[right == ()] += 1
                self.assertEqual(repr(lots), repr(right))
                self.assertEqual(paper is None, can_be(*book))
                self.assertEqual(repr(clash(book)), repr(paper))
                self.assertTrue(is_plain(lots))
                if paper is not None:
                    self.assertTrue(is_plain(paper))
                    self.assertIs(is_clash(book, paper), True)
                    self.assertTrue(is_right_clash(book, paper))
                for some in lots:
                    pairs[len(some) - 1] += 1
        self.assertGreater(min(counts), 40)
        self.assertGreater(min(pairs), 20)

    def test_what_does_not_clash_has_a_world(self):
        looked = 0
        for book in BOOKS:
            if clash(book) is None:
                self.assertIs(holds_book(book, as_lines(finite_world(*book))), True)
                self.assertEqual(len(tree(book, depth=0)), 2)
                looked += 1
        self.assertGreater(looked, 40)

    def test_what_clashes_has_no_small_world(self):
        told = 0
        books = [(some_rules(seed, 3 + seed % 4, kinds="ab", roles="r"), some_rows(seed, 2, "ab", "r", "xy")) for seed in range(60)]
        for book in books:
            if clash(book) is None:
                continue
            told += 1
            for world in small_worlds("ab", "r", ("x", "y", 0)[:2 + told % 2]):
                self.assertFalse(set(book[1]) <= world and all(is_so(world, rule) for rule in book[0]), book)
        self.assertGreater(told, 10)

    def test_rows_more_keep_what_clashes(self):
        for book in BOOKS:
            rules, rows = book
            for k in range(len(rows)):
                fewer = clashes((rules, rows[:k] + rows[k + 1:]))
                self.assertEqual(fewer, tuple(some for some in clashes(book) if rows[k] not in some))

    def test_orders_of_rules_change_no_lot(self):
        for seed, (rules, rows) in enumerate(BOOKS):
            other = tuple(random.Random(seed).sample(rules, len(rules)))
            self.assertEqual(clashes((other, rows)), clashes((rules, rows)))

    def test_books_as_great_as_may_be(self):
        things = [chr(97 + k) for k in range(12)]
        rows = tuple(sorted([("k", one) for one in things] + [("r", one, other) for one in things for other in things][:28]))
        rules = tuple(("along", ("r" * (k + 1), 0), ("r" * (k + 2), 1)) for k in range(7))
        rules += (("away", ("r", 0), ("r" * 8, 0)), ("apart", ("k",), ("k",))) + tuple(
            ("within", ("k" * (k + 1),), ("k" * (k + 2),)) for k in range(7)) + (("apart", ("k",), ("r", 0)), ("apart", ("k",), ("r", 1)))
        found = clashes((rules, rows))
        self.assertEqual([some for some in found if len(some) == 1], [(row,) for row in rows if len(row) == 2 or row[1] == row[2]])
        self.assertEqual(clashes((rules[:6] + rules[9:16], rows)), ())
        self.assertIs(is_clash((rules, rows), clash((rules, rows))), True)

    def test_by_name_and_unchanged(self):
        self.assertEqual(clash(book=VOID), clash(VOID))
        self.assertEqual(clashes(book=VOID), clashes(VOID))
        for book in BOOKS[:20]:
            self.assertTrue(unchanged(clash, book) and unchanged(clashes, book))


if __name__ == "__main__":
    unittest.main()
