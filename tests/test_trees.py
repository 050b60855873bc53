import inspect
import itertools
import random
import unittest

from ledquestions.answering import answers
from ledquestions.bounds import DEPTH, GROWN, SOMES
from ledquestions.clashing import clashes
from ledquestions.errors import Clash, TooGreat
from ledquestions.trees import is_tree, tree
from ledquestions.worlds import is_told_world, world_answers
from tests.book_oracles import is_right_tree, slow_tree, some_book
from tests.helpers import ODD, changed, refusal, unchanged
from tests.oracles import is_plain, some_question, unknowns_in

A, B, R, RB, S, SB, T = ("a",), ("b",), ("r", 0), ("r", 1), ("s", 0), ("s", 1), ("t", 0)
ENDLESS = ((("within", A, R), ("within", RB, A)), (("a", "x"),))
FORKED = ((("within", A, R), ("within", A, S), ("within", RB, A), ("within", SB, B), ("within", B, T)), (("a", "x"), ("r", "y", "x")))
CLASHING = ((("within", A, R), ("apart", A, RB)), (("a", "x"), ("r", "y", "x")))
GROWING = [
    ENDLESS, FORKED,
    ((("within", A, R), ("along", R, S), ("within", SB, B), ("within", B, RB)), (("a", "x"), ("s", "x", "y"))),
    ((("within", A, R), ("along", R, S), ("along", S, R), ("within", RB, A)), (("a", "x"),)),
    ((("within", A, R), ("along", R, RB), ("within", R, S), ("within", SB, T)), (("a", "x"), ("a", "y"))),
    ((("within", R, SB), ("within", S, RB), ("within", A, R)), (("a", "x"), ("s", "x", "x"))),
    ((("within", A, R), ("within", A, S), ("along", T, R), ("along", T, S), ("within", RB, T)), (("a", "x"),)),
    ((("within", A, RB), ("within", R, RB)), (("a", "x"), ("r", "z", "z"))),
]
BOOKS = GROWING + [some_book(seed, many=6, somes=4) for seed in range(80)]


def reordered(seed, told):
    """The same tree with lines and unnamed things in another order, each behind the one whose partner it is."""
    maker = random.Random(seed)
    lines, grown = told
    left, names, found = list(grown), {}, []
    while left:
        triple = maker.choice([one for one in left if type(one[1]) is str or one[1] in names])
        left.remove(triple)
        found.append((len(found), names.get(triple[1], triple[1]), triple[2]))
        names[triple[0]] = len(names)
    mixed = [line[:1] + tuple(names[part] if type(part) is int else part for part in line[1:]) for line in lines]
    return tuple(maker.sample(mixed, len(mixed))), tuple(found)


class Tree(unittest.TestCase):
    def test_by_hand(self):
        lines, grown = tree(ENDLESS, depth=2)
        self.assertEqual(set(lines), {("a", "x"), ("r", "x", 0), ("a", 0), ("r", 0, 1), ("a", 1)})
        self.assertEqual(grown, ((0, "x", R), (1, 0, R)))
        self.assertEqual(tree(ENDLESS, depth=0), ((("a", "x"),), ()))
        self.assertEqual(tree(((), ()), depth=3), ((), ()))

    def test_each_shape_of_rule(self):
        for rules, rows, right, grown in (
            ((("within", A, B),), (("a", "x"),), {("a", "x"), ("b", "x")}, ()),
            ((("within", A, R),), (("a", "x"),), {("a", "x"), ("r", "x", 0)}, ((0, "x", R),)),
            ((("within", A, RB),), (("a", "x"),), {("a", "x"), ("r", 0, "x")}, ((0, "x", RB),)),
            ((("within", R, B),), (("r", "x", "y"),), {("r", "x", "y"), ("b", "x")}, ()),
            ((("within", RB, B),), (("r", "x", "y"),), {("r", "x", "y"), ("b", "y")}, ()),
            ((("within", RB, R),), (("r", "x", "x"),), {("r", "x", "x")}, ()),
            ((("within", R, S),), (("r", "x", "y"),), {("r", "x", "y"), ("s", "x", 0)}, ((0, "x", S),)),
            ((("within", R, SB),), (("r", "x", "y"),), {("r", "x", "y"), ("s", 0, "x")}, ((0, "x", SB),)),
            ((("along", R, S),), (("r", "x", "y"),), {("r", "x", "y"), ("s", "x", "y")}, ()),
            ((("along", R, SB),), (("r", "x", "y"),), {("r", "x", "y"), ("s", "y", "x")}, ()),
            ((("along", RB, S),), (("r", "x", "y"),), {("r", "x", "y"), ("s", "y", "x")}, ()),
            ((("along", RB, SB),), (("r", "x", "y"),), {("r", "x", "y"), ("s", "x", "y")}, ()),
            ((("within", A, R), ("along", R, SB)), (("a", "x"),), {("a", "x"), ("r", "x", 0), ("s", 0, "x")}, ((0, "x", R),)),
            # Turns that lead to one another: the lesser.
            ((("within", A, S), ("along", R, S), ("along", S, R)), (("a", "x"),), {("a", "x"), ("r", "x", 0), ("s", "x", 0)}, ((0, "x", R),)),
            ((("within", A, RB), ("along", R, RB)), (("a", "x"),), {("a", "x"), ("r", "x", 0), ("r", 0, "x")}, ((0, "x", R),)),
            # A partner that is there already, by itself or by an along rule.
            ((("within", A, R),), (("a", "x"), ("r", "x", "y")), {("a", "x"), ("r", "x", "y")}, ()),
            ((("within", A, R),), (("a", "x"), ("r", "x", "x")), {("a", "x"), ("r", "x", "x")}, ()),
            ((("within", A, R), ("along", S, R)), (("a", "x"), ("s", "x", "y")), {("a", "x"), ("r", "x", "y"), ("s", "x", "y")}, ()),
            ((("within", A, R), ("within", RB, RB)), (("a", "x"),), {("a", "x"), ("r", "x", 0)}, ((0, "x", R),)),
            ((("apart", A, B), ("away", R, RB)), (("a", "x"), ("r", "x", "y")), {("a", "x"), ("r", "x", "y")}, ()),
        ):
            with self.subTest(repr((rules, rows))):
                told = tree((rules, rows))
                self.assertEqual((set(told[0]), told[1]), (right, grown))
                self.assertEqual(len(told[0]), len(right))
                self.assertIs(is_tree((rules, rows), 3, told), True)

    def test_some_wanted_turns_lead_to_others(self):
        # Of r, s and t only what no other one leads to is grown.
        rules = (("within", A, R), ("within", A, S), ("within", A, T), ("along", T, R), ("along", R, S))
        self.assertEqual(tree((rules, (("a", "x"),)))[1], ((0, "x", T),))
        # The one that leads there isn't wanted here, since a partner is there.
        self.assertEqual(tree((rules, (("a", "x"), ("t", "x", "y"))))[1], ())
        self.assertEqual(tree((rules[:2] + rules[3:], (("a", "x"),)))[1], ((0, "x", R),))
        self.assertEqual(tree((rules[:3], (("a", "x"),)))[1], ((0, "x", R), (1, "x", S), (2, "x", T)))

    def test_many_at_all_depths(self):
        sizes = set()
        for book in BOOKS:
            for depth in range(4):
                told = tree(book, depth=depth)
                with self.subTest(repr((book, depth))):
                    self.assertTrue(is_right_tree(book, depth, told))
                    self.assertTrue(is_plain(told))
                    self.assertIs(is_told_world(told[0]), True)
                    self.assertIs(is_tree(book, depth, told), True)
                    self.assertEqual([triple[0] for triple in told[1]], list(range(len(told[1]))))
                    self.assertTrue(all(type(term) is str or term < number for number, term, turn in told[1]))
                    self.assertEqual(repr(tree(book, depth=depth)), repr(told))
                sizes.add(len(told[1]))
        self.assertGreater(len(sizes), 8)

    def test_left_out(self):
        self.assertEqual(DEPTH, 3)
        self.assertEqual(inspect.signature(tree).parameters["depth"].default, 3)
        for book in GROWING:
            self.assertEqual(tree(book), tree(book, depth=3))

    def test_deep_ones(self):
        self.assertEqual(len(tree(ENDLESS, depth=GROWN)[1]), 400)
        ended = ((("within", A, R), ("within", RB, S)), (("a", "x"),))
        self.assertEqual(tree(ended, depth=10 ** 30), tree(ended, depth=2))

    def test_just_as_many_as_may_be(self):
        rows = tuple(("a", name) for name in "efghij")
        five = (ENDLESS[0], rows[:5])
        self.assertEqual(len(tree(five, depth=80)[1]), GROWN)
        self.assertIs(type(refusal(tree, five, depth=81)), TooGreat)
        self.assertIs(type(refusal(tree, ENDLESS, depth=401)), TooGreat)
        self.assertIs(type(refusal(tree, ENDLESS, depth=10 ** 30)), TooGreat)
        one_more = ((("within", B, S),) + ENDLESS[0], rows[:5] + (("b", "x"),))
        self.assertEqual(len(tree(one_more, depth=79)[1]), 396)
        told = refusal(tree, one_more, depth=80)
        self.assertIs(type(told), TooGreat)
        self.assertEqual(vars(told), {})

    def test_clash_comes_first(self):
        for depth in (0, 1, 3, 1000):
            told = refusal(tree, CLASHING, depth=depth)
            self.assertIs(type(told), Clash)
            self.assertEqual(vars(told), {"rows": clashes(CLASHING)[0]})
        endless = (ENDLESS[0] + (("apart", B, B),), (("a", "x"), ("b", "y")))
        self.assertIs(type(refusal(tree, endless, depth=1000)), Clash)

    def test_answers_in_the_tree_are_the_sure_ones(self):
        looked = more = 0
        for seed, book in enumerate(BOOKS):
            for again in range(3):
                question = some_question(
                    100 * seed + again, atoms=4, unknowns=(0, 1, 2), things=("x",), kinds=("a", "b"), roles=("r", "s", "t"))
                depth = SOMES + len(unknowns_in(question))
                if refusal(tree, book, depth=depth) is None:
                    told = world_answers(tree(book, depth=depth)[0], question)
                    self.assertEqual(told, answers(book, question), repr((book, question)))
                    looked += 1
                    more += bool(told)
        self.assertGreater(looked, 150)
        self.assertGreater(more, 40)

    def test_by_name(self):
        self.assertEqual(tree(depth=2, book=FORKED), tree(FORKED, depth=2))
        self.assertRaises(TypeError, tree, FORKED, 2)
        self.assertTrue(unchanged(tree, FORKED))


class IsTree(unittest.TestCase):
    def test_any_order(self):
        for seed, book in enumerate(GROWING):
            for depth in range(4):
                told = tree(book, depth=depth)
                for again in range(3):
                    other = reordered(10 * seed + again, told)
                    self.assertTrue(is_right_tree(book, depth, other))
                    self.assertIs(is_tree(book, depth, other), True)

    def test_an_order_in_which_a_partner_comes_ahead(self):
        lines = (("a", "x"), ("r", "x", 1), ("a", 1), ("r", 1, 0), ("a", 0))
        self.assertIs(is_tree(ENDLESS, 2, (lines, ((0, 1, R), (1, "x", R)))), False)
        self.assertIs(is_tree(ENDLESS, 2, (lines, ((1, "x", R), (0, 1, R)))), False)
        right = (("a", "x"), ("r", "x", 0), ("a", 0), ("r", 0, 1), ("a", 1))
        self.assertIs(is_tree(ENDLESS, 2, (right, ((0, "x", R), (1, 0, R)))), True)
        for more in ((1, 0, R), (2, 0, R), (2, 1, R), (2, "x", R), (2, "y", R), (2, "x", RB), (2, 2, R), (2, 3, R), None):
            self.assertIs(is_tree(ENDLESS, 2, (right, ((0, "x", R), (1, 0, R), more))), False)

    def test_one_thing_changed(self):
        counts = [0, 0]
        for book, depth in ((ENDLESS, 2), (FORKED, 1), (GROWING[4], 2), (GROWING[3], 1)):
            told = tree(book, depth=depth)
            for near in changed(told):
                right = is_right_tree(book, depth, near)
                counts[right] += 1
                self.assertIs(is_tree(book, depth, near), right, repr(near)[:300])
            for k, m in itertools.combinations(range(len(told[1])), 2):
                mixed = list(told[1])
                mixed[k], mixed[m] = (k,) + mixed[m][1:], (m,) + mixed[k][1:]
                near = (told[0], tuple(mixed))
                self.assertIs(is_tree(book, depth, near), is_right_tree(book, depth, near))
        self.assertGreater(counts[0], 2000)

    def test_another_depth(self):
        counts = [0, 0]
        for book in BOOKS:
            trees = [tree(book, depth=depth) for depth in range(4)]
            for one, other in itertools.permutations(range(4), 2):
                right = is_right_tree(book, one, trees[other])
                counts[right] += 1
                self.assertIs(is_tree(book, one, trees[other]), right)
        self.assertGreater(min(counts), 50)

    def test_another_book(self):
        for one, other in itertools.permutations(GROWING, 2):
            told = tree(other, depth=2)
            self.assertIs(is_tree(one, 2, told), is_right_tree(one, 2, told))

    def test_more_than_may_be_told(self):
        many = 2500
        lines = [("a", "x"), ("r", "x", 0), ("a", 0)]
        for k in range(1, many):
            lines += [("r", k - 1, k), ("a", k)]
        grown = ((0, "x", R),) + tuple((k, k - 1, R) for k in range(1, many))
        self.assertIs(is_tree(ENDLESS, many, (tuple(lines), grown)), True)
        self.assertIs(is_tree(ENDLESS, many, (tuple(lines[:-1]), grown)), False)
        self.assertIs(is_tree(ENDLESS, many, (tuple(lines), grown[:-1])), False)
        self.assertIs(is_tree(ENDLESS, many + 1, (tuple(lines), grown)), False)
        self.assertIs(is_tree(ENDLESS, many - 1, (tuple(lines), grown)), False)
        world, nodes = slow_tree(*FORKED, 9)
        self.assertGreater(len(nodes), 20)

    def test_of_a_book_that_clashes(self):
        rules = CLASHING[0][:1]
        for thing in ODD + [tree((rules, CLASHING[1]), depth=depth) for depth in range(3)]:
            for depth in range(3):
                self.assertIs(is_tree(CLASHING, depth, thing), False)

    def test_odd_things(self):
        right = tree(ENDLESS, depth=1)
        for thing in ODD:
            for near in (thing, (thing, ()), ((), thing), (thing, thing), (right[0], thing), (thing, right[1]), (right[0], (thing,)),
                         (right[0], ((thing, "x", R),)), (right[0], ((0, thing, R),)), (right[0], ((0, "x", thing),)), right + (thing,)):
                self.assertIs(is_tree(ENDLESS, 1, near), is_right_tree(ENDLESS, 1, near), repr(near)[:200])
            self.assertTrue(unchanged(is_tree, ENDLESS, 1, thing))
        self.assertIs(is_tree(((), ()), 0, ((), ())), True)
        self.assertIs(is_tree(((), ()), 5, ((), ())), True)

    def test_truths_are_no_numbers(self):
        lines, grown = tree(ENDLESS, depth=2)
        self.assertIs(is_tree(ENDLESS, 2, (lines, ((False, "x", R), (1, 0, R)))), False)
        self.assertIs(is_tree(ENDLESS, 2, (lines, ((0, "x", R), (1, False, R)))), False)
        self.assertIs(is_tree(ENDLESS, 2, (lines, ((0, "x", ("r", False)), (1, 0, R)))), False)
        other = tuple(tuple(True if part == 1 else part for part in line) for line in lines)
        self.assertIs(is_tree(ENDLESS, 2, (other, grown)), False)

    def test_by_name(self):
        self.assertIs(is_tree(thing=tree(FORKED), depth=3, book=FORKED), True)


if __name__ == "__main__":
    unittest.main()
