import unittest

from ledquestions.voids import is_void_paper, void_paper, voids
from tests.helpers import ODD, changed, unchanged
from tests.oracles import grown_world, is_plain, is_right_paper, is_so, members, named, small_worlds, some_rules

A, B, C, D = ("a",), ("b",), ("c",), ("d",)
R, RB = ("r", 0), ("r", 1)
S, SB = ("s", 0), ("s", 1)
T, TB = ("t", 0), ("t", 1)
APART = (("within", A, B), ("within", A, C), ("within", A, R), ("apart", B, C), ("along", R, S), ("within", S, C))
AWAY = (("along", R, S), ("along", R, T), ("away", S, T), ("within", A, R), ("along", SB, S))
# The pair is of S and of T as it is seen from RB, so of SB and of TB from R.
SEEN_BACK = (("along", R, SB), ("along", RB, T), ("away", S, T))
FAR = (
    ("within", A, R), ("within", RB, S), ("within", SB, B), ("within", B, T), ("within", TB, C), ("apart", C, TB),
    ("along", T, R),
)
LONE = (("apart", A, A), ("away", R, R))
PAPERS = (
    # No leg.
    (LONE, A, ((), ("apart", 0, (), ()))),
    (LONE, R, ((), ("away", 1, (), ()))),
    (APART, A, ((), ("apart", 3, ((0, 0),), ((1, 0),)))),
    (APART, A, ((), ("apart", 3, ((0, 0),), ((2, 0), (4, 0), (5, 0))))),
    (AWAY, R, ((), ("away", 2, ((0, 0),), ((1, 0),)))),
    (SEEN_BACK, RB, ((), ("away", 2, ((0, 1),), ((1, 0),)))),
    # One leg.
    (LONE, RB, ((((), RB),), ("away", 1, (), ()))),
    (AWAY, RB, ((((), RB),), ("away", 2, ((0, 0),), ((1, 0),)))),
    (SEEN_BACK, R, ((((), R),), ("away", 2, ((0, 1),), ((1, 0),)))),
    (FAR, T, ((((), T),), ("apart", 5, ((4, 0),), ()))),
    (FAR, B, (((((3, 0),), T),), ("apart", 5, ((4, 0),), ()))),
    # Two legs, there and back too.
    (AWAY, A, (((((3, 0),), R), ((), RB)), ("away", 2, ((0, 0),), ((1, 0),)))),
    (LONE, R, ((((), R), ((), RB)), ("away", 1, (), ()))),
    (FAR, RB, (((((1, 0),), S), (((2, 0), (3, 0)), T)), ("apart", 5, ((4, 0),), ()))),
    # Three legs.
    (FAR, A, (((((0, 0),), R), (((1, 0),), S), (((2, 0), (3, 0)), T)), ("apart", 5, ((4, 0),), ()))),
    (AWAY, R, ((((), R), ((), RB), ((), R), ((), RB)), ("away", 2, ((0, 0),), ((1, 0),)))),
)
SETS = [APART, AWAY, SEEN_BACK, FAR, LONE, ()] + [some_rules(seed, 3 + seed % 9) for seed in range(150)]


class IsVoidPaper(unittest.TestCase):
    def test_right_papers(self):
        for rules, sort, paper in PAPERS:
            with self.subTest(repr((rules, sort, paper))):
                self.assertIs(is_void_paper(rules, sort, paper), True)
                self.assertTrue(is_right_paper(rules, sort, paper))

    def test_for_another_sort(self):
        for rules, sort, paper in PAPERS:
            for other in named(rules) - {sort}:
                self.assertIs(is_void_paper(rules, other, paper), is_right_paper(rules, other, paper))

    def test_one_thing_changed(self):
        wrong = 0
        for rules, sort, paper in PAPERS:
            for near in changed(paper):
                with self.subTest(repr((rules, sort, near))[:300]):
                    right = is_right_paper(rules, sort, near)
                    self.assertIs(is_void_paper(rules, sort, near), right)
                    wrong += not right
        self.assertGreater(wrong, 1000)

    def test_wrong_papers(self):
        end = ("away", 2, ((0, 0),), ((1, 0),))
        leg = (((3, 0),), R)
        for sort, paper in (
            (A, ((), end)),
            (A, ((leg,), end)),
            (A, ((leg, ((), R)), end)),
            (A, ((leg, ((), SB)), end)),
            (A, ((leg, ((), ("r", True))), end)),
            (A, ((leg, ((), ["r", 1])), end)),
            (A, ((leg, [(), RB]), end)),
            (A, ((leg, ((), RB, ())), end)),
            (A, ((leg, ((),)), end)),
            (A, ((leg, (None, RB)), end)),
            (A, ((leg, ([], RB)), end)),
            (A, ([leg, ((), RB)], end)),
            (A, [(leg, ((), RB)), end]),
            (A, ((leg, ((), RB)),)),
            (A, ((leg, ((), RB)), end, ())),
            (A, ((leg, ((), RB)), list(end))),
            (A, ((leg, ((), RB)), end[:3])),
            (A, ((leg, ((), RB)), end + ((),))),
            (A, ((leg, ((), RB)), ("apart",) + end[1:])),
            (A, ((leg, ((), RB)), ("along", 0, (), ((0, 0),)))),
            (A, ((leg, ((), RB)), ("away", 2, ((1, 0),), ((0, 0),)))),
            (A, ((leg, ((), RB)), ("away", 2, (), ((1, 0),)))),
            (A, ((leg, ((), RB)), ("away", 2, ((0, 0),), ()))),
            (A, ((leg, ((), RB)), ("away", 3, ((0, 0),), ((1, 0),)))),
            (A, ((leg, ((), RB)), ("away", 5, ((0, 0),), ((1, 0),)))),
            (A, ((leg, ((), RB)), ("away", -3, ((0, 0),), ((1, 0),)))),
            (A, ((leg, ((), RB)), ("away", "2", ((0, 0),), ((1, 0),)))),
            (A, ((leg, ((), RB)), ("away", 2, ((False, 0),), ((1, 0),)))),
            (A, ((leg, ((), RB)), ("away", 2, ((0, 0),), ((1, False),)))),
            (R, (((), end), end)),
            (R, (None, end)),
            (R, ({}, end)),
            (R, ("", end)),
            (R, ((), None)),
            (R, ((), ())),
            (R, ((), {})),
        ):
            with self.subTest(repr((sort, paper))):
                self.assertIs(is_void_paper(AWAY, sort, paper), False)

    def test_truths_are_no_numbers_of_rules(self):
        rules = (("away", R, S), ("away", R, R), ("apart", A, A))
        self.assertIs(is_void_paper(rules, R, ((), ("away", 1, (), ()))), True)
        self.assertIs(is_void_paper(rules, R, ((), ("away", True, (), ()))), False)
        self.assertIs(is_void_paper(rules[2:], A, ((), ("apart", 0, (), ()))), True)
        self.assertIs(is_void_paper(rules[2:], A, ((), ("apart", False, (), ()))), False)

    def test_no_away_where_one_is_at_a_kind(self):
        rules = (("within", A, R), ("away", R, R))
        self.assertIs(is_void_paper(rules, A, ((), ("away", 1, ((0, 0),), ((0, 0),)))), False)
        self.assertIs(is_void_paper(rules, A, (((((0, 0),), R), ((), RB)), ("away", 1, (), ()))), True)

    def test_away_takes_turn_ways_alone(self):
        rules = (("within", R, S), ("along", R, T), ("away", S, T), ("apart", S, T))
        self.assertIs(is_void_paper(rules, R, ((), ("away", 2, ((0, 0),), ((1, 0),)))), False)
        self.assertIs(is_void_paper(rules, R, ((), ("apart", 3, ((0, 0),), ((1, 0),)))), True)

    def test_turns_that_no_rule_names(self):
        z, back = ("z", 0), ("z", 1)
        rules = (("apart", A, A),)
        self.assertIs(is_void_paper(rules, z, ((((), z), ((), back)), ("apart", 0, (), ()))), False)
        self.assertIs(is_void_paper(rules, z, ((), ("apart", 0, (), ()))), False)
        self.assertIsNone(void_paper(rules, z))
        self.assertIsNone(void_paper(rules, ("z",)))

    def test_odd_things(self):
        for thing in ODD:
            with self.subTest(repr(thing)[:200]):
                for sort in (A, R):
                    self.assertIs(is_void_paper(LONE, sort, thing), False)
                    right = sort == A and repr(thing) == "()"
                    self.assertIs(is_void_paper(LONE, sort, (thing, ("apart", 0, (), ()))), right)
                    self.assertIs(is_void_paper(LONE, sort, ((), thing)), False)
                    self.assertIs(is_void_paper(LONE, sort, ((thing,), ("apart", 0, (), ()))), False)
                self.assertTrue(unchanged(is_void_paper, LONE, A, thing))

    def test_arguments_by_name(self):
        self.assertIs(is_void_paper(paper=((), ("apart", 0, (), ())), sort=A, rules=LONE), True)


class VoidPaper(unittest.TestCase):
    def test_of_void_sorts(self):
        for rules, sort, paper in PAPERS:
            told = void_paper(rules, sort)
            with self.subTest(repr((rules, sort, told))):
                self.assertIs(is_void_paper(rules, sort, told), True)

    def test_there_and_back(self):
        told = void_paper(AWAY, A)
        self.assertIs(is_void_paper(AWAY, A, told), True)
        self.assertGreaterEqual(len(told[0]), 2)

    def test_of_sorts_that_are_not_void(self):
        for rules, sort in (
            (APART, B), (APART, C), (APART, R), (APART, RB), (AWAY, S), (AWAY, T), (AWAY, SB), (FAR, C),
            ((("apart", A, B),), A), ((("away", R, RB),), R), ((("away", R, S),), R), ((("apart", R, RB),), R),
            ((("within", A, R), ("within", RB, A)), A), ((), A), ((), R),
            ((("along", R, S), ("away", S, SB)), R), ((("within", R, S), ("away", R, S)), R),
        ):
            with self.subTest(repr((rules, sort))):
                self.assertIsNone(void_paper(rules, sort))

    def test_just_of_the_void_sorts(self):
        counts = [0, 0]
        for rules in SETS:
            for sort in sorted(named(rules)):
                told = void_paper(rules, sort)
                with self.subTest(repr((rules, sort, told))):
                    counts[told is None] += 1
                    if told is None:
                        world = grown_world(rules, sort)
                        self.assertTrue(all(is_so(world, rule) for rule in rules))
                        self.assertIn("root", members(world, sort))
                    else:
                        self.assertTrue(is_plain(told))
                        self.assertIs(is_void_paper(rules, sort, told), True)
                        self.assertTrue(is_right_paper(rules, sort, told))
                        self.assertEqual(void_paper(rules, sort), told)
        self.assertGreater(min(counts), 100)

    def test_nothing_is_of_a_void_sort_in_any_small_world(self):
        told = 0
        for rules in [some_rules(seed, 4 + seed % 4, kinds="ab", roles="rs") for seed in range(24)]:
            void = voids(rules)
            told += len(void)
            for world in small_worlds("ab", "rs", (1, 2)) if void else ():
                if all(is_so(world, rule) for rule in rules):
                    for sort in void:
                        self.assertFalse(members(world, sort), (rules, sort, world))
        self.assertGreater(told, 20)

    def test_arguments_by_name(self):
        self.assertEqual(void_paper(sort=A, rules=LONE), ((), ("apart", 0, (), ())))


class Voids(unittest.TestCase):
    def test_some(self):
        self.assertEqual(voids(()), ())
        self.assertEqual(voids(LONE), (A, R, RB))
        self.assertEqual(voids(APART), (A,))
        self.assertEqual(voids(AWAY), (A, R, RB))
        self.assertEqual(voids(FAR), (A, B, R, RB, S, SB, T, TB))
        self.assertEqual(voids((("apart", A, B), ("within", A, R))), ())
        self.assertEqual(voids((("apart", A, R),)), ())

    def test_the_other_way_round_is_named(self):
        self.assertEqual(voids((("away", R, R),)), (R, RB))
        self.assertEqual(voids((("apart", RB, RB),)), (R, RB))

    def test_a_name_is_not_all_that_has_it(self):
        self.assertEqual(voids((("apart", ("r",), ("r",)), ("within", A, R))), (("r",),))

    def test_rising_and_just_the_void_ones(self):
        for rules in SETS:
            told = voids(rules)
            with self.subTest(repr(rules)):
                self.assertTrue(is_plain(told))
                self.assertEqual(told, tuple(s for s in sorted(named(rules)) if void_paper(rules, s) is not None))

    def test_as_many_rules_as_may_be(self):
        rules = tuple(("along", (chr(97 + k), 0), (chr(98 + k), 1)) for k in range(23))
        rules += (("apart", ("x", 1), ("x", 1)),)
        self.assertEqual(len(voids(rules)), 48)
        paper = void_paper(rules, ("a", 0))
        self.assertIs(is_void_paper(rules, ("a", 0), paper), True)

    def test_within_without_end(self):
        rules = (("within", A, R), ("within", RB, A), ("within", A, S), ("within", SB, B), ("apart", B, C))
        self.assertEqual(voids(rules), ())
        self.assertEqual(voids(rules + (("within", B, C),)), (A, B, R, RB, S, SB))

    def test_arguments_by_name(self):
        self.assertEqual(voids(rules=LONE), (A, R, RB))


if __name__ == "__main__":
    unittest.main()
