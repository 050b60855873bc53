import itertools
import unittest

from ledquestions.ways import above, is_turn_way, is_way, turn_way, turns_above, way
from tests.helpers import ODD, changed, unchanged
from tests.oracles import (
    distance, flip, grown_world, is_plain, is_right_way, is_so, members, named, pairs_of, reached, small_worlds,
    some_rules,
)

BOSS, STAFF, PERSON, INTERN = ("boss",), ("staff",), ("person",), ("intern",)
LEADS, LED = ("leads", 0), ("leads", 1)
KNOWS, KNOWN = ("knows", 0), ("knows", 1)
MEETS, MET = ("meets", 0), ("meets", 1)
RULES = (
    ("within", BOSS, LEADS),
    ("along", LEADS, KNOWS),
    ("apart", BOSS, INTERN),
    ("along", KNOWS, MET),
    ("away", LEADS, LED),
    ("within", LED, STAFF),
    ("within", STAFF, PERSON),
    ("within", MEETS, PERSON),
    ("along", MET, KNOWS),
    ("within", LEADS, STAFF),
)
WAYS = (
    (BOSS, BOSS, ()),
    (BOSS, LEADS, ((0, 0),)),
    (BOSS, KNOWS, ((0, 0), (1, 0))),
    (BOSS, MET, ((0, 0), (1, 0), (3, 0))),
    (BOSS, KNOWS, ((0, 0), (1, 0), (3, 0), (8, 0))),
    (BOSS, PERSON, ((0, 0), (9, 0), (6, 0))),
    (LED, KNOWN, ((1, 1),)),
    (LED, MEETS, ((1, 1), (3, 1))),
    (LED, PERSON, ((1, 1), (3, 1), (7, 0))),
    (LED, PERSON, ((1, 1), (3, 1), (8, 1), (3, 1), (7, 0))),
    (MET, MET, ((8, 0), (3, 0))),
    (("other", 1), ("other", 1), ()),
)
TURN_WAYS = (
    (LEADS, LEADS, ()),
    (LEADS, KNOWS, ((1, 0),)),
    (LED, KNOWN, ((1, 1),)),
    (LEADS, MET, ((1, 0), (3, 0))),
    (LED, MEETS, ((1, 1), (3, 1))),
    (LED, KNOWN, ((1, 1), (3, 1), (8, 1))),
    (MET, MET, ((8, 0), (3, 0))),
    (("other", 0), ("other", 0), ()),
)
SETS = [RULES, ()] + [some_rules(seed, 3 + seed % 6) for seed in range(40)]
WIDE = [some_rules(seed, 24, kinds="abcde", roles="rstu") for seed in range(12)]
FAR = tuple(("within", (chr(97 + k),), (chr(98 + k),)) for k in range(24))


class IsWay(unittest.TestCase):
    def test_right_ways(self):
        for one, other, thing in WAYS:
            with self.subTest(repr((one, other, thing))):
                self.assertIs(is_way(RULES, one, other, thing), True)

    def test_right_turn_ways(self):
        for one, other, thing in TURN_WAYS:
            with self.subTest(repr((one, other, thing))):
                self.assertIs(is_turn_way(RULES, one, other, thing), True)
                self.assertIs(is_way(RULES, one, other, thing), True)

    def test_elsewhere(self):
        for one, other, thing in WAYS:
            for sort in named(RULES) - {other}:
                self.assertIs(is_way(RULES, one, sort, thing), False)
        for one, other, thing in TURN_WAYS:
            for turn in [sort for sort in named(RULES) if len(sort) == 2 and sort != other]:
                self.assertIs(is_turn_way(RULES, one, turn, thing), False)

    def test_wrong_ways(self):
        for one, other, thing in (
            (BOSS, LEADS, ()),
            (BOSS, LEADS, ((0, 1),)),
            (LEADS, BOSS, ((0, 0),)),
            (LEADS, BOSS, ((0, 1),)),
            (BOSS, LEADS, ((0, False),)),
            (BOSS, LEADS, ((False, 0),)),
            (BOSS, LEADS, ((False, False),)),
            (LEADS, KNOWS, ((True, 0),)),
            (LED, KNOWN, ((1, True),)),
            (LED, KNOWN, ((True, 1),)),
            (LED, KNOWN, ((1, 2),)),
            (LED, KNOWN, ((1, -1),)),
            (LED, KNOWN, ((1, 0),)),
            (LEADS, KNOWS, ((1, 1),)),
            (LEADS, STAFF, ((-1, 0),)),
            (LEADS, STAFF, ((len(RULES), 0),)),
            (LEADS, STAFF, ((10 ** 999, 0),)),
            (LEADS, STAFF, (("9", 0),)),
            (LEADS, STAFF, ((9, "0"),)),
            (LEADS, STAFF, ((9,),)),
            (LEADS, STAFF, ((9, 0, 0),)),
            (LEADS, STAFF, ([9, 0],)),
            (LEADS, STAFF, [(9, 0)]),
            (LEADS, STAFF, ({9: 0},)),
            (LEADS, STAFF, {(9, 0): True}),
            (LEADS, STAFF, (9, 0)),
            (LEADS, STAFF, ((9, None),)),
            (BOSS, INTERN, ((2, 0),)),
            (INTERN, BOSS, ((2, 1),)),
            (LEADS, LED, ((4, 0),)),
            (LED, LEADS, ((4, 1),)),
            (BOSS, BOSS, ((2, 0), (2, 0))),
            (BOSS, BOSS, None),
            (BOSS, BOSS, []),
            (BOSS, BOSS, ""),
            (BOSS, BOSS, {}),
            (BOSS, BOSS, 0),
        ):
            with self.subTest(repr((one, other, thing))[:200]):
                self.assertIs(is_way(RULES, one, other, thing), False)
                if len(one) == len(other) == 2:
                    self.assertIs(is_turn_way(RULES, one, other, thing), False)

    def test_within_rules_make_no_turn_way(self):
        rules = (("within", LEADS, KNOWS), ("along", KNOWS, MEETS))
        self.assertIs(is_way(rules, LEADS, KNOWS, ((0, 0),)), True)
        self.assertIs(is_turn_way(rules, LEADS, KNOWS, ((0, 0),)), False)
        self.assertIs(is_turn_way(rules, LEADS, MEETS, ((0, 0), (1, 0))), False)
        self.assertIs(is_turn_way(rules, KNOWS, MEETS, ((1, 0),)), True)
        self.assertIs(is_way(rules, LED, KNOWN, ((0, 1),)), False)

    def test_one_thing_changed(self):
        for one, other, thing in WAYS:
            for near in changed(thing):
                with self.subTest(repr((one, other, near))[:200]):
                    self.assertIs(is_way(RULES, one, other, near), is_right_way(RULES, one, other, near))
        for one, other, thing in TURN_WAYS:
            for near in changed(thing):
                with self.subTest(repr((one, other, near))[:200]):
                    self.assertIs(is_turn_way(RULES, one, other, near), is_right_way(RULES, one, other, near, True))

    def test_each_step_in_each_place(self):
        steps = [(number, turned) for number in range(-1, len(RULES) + 1) for turned in (-1, 0, 1, 2)]
        for one, other, thing in WAYS:
            for k, step in itertools.product(range(len(thing)), steps):
                near = thing[:k] + (step,) + thing[k + 1:]
                self.assertIs(is_way(RULES, one, other, near), is_right_way(RULES, one, other, near))
                if len(one) == len(other) == 2:
                    told = is_turn_way(RULES, one, other, near)
                    self.assertIs(told, is_right_way(RULES, one, other, near, True))

    def test_odd_things(self):
        for thing in ODD:
            with self.subTest(repr(thing)[:200]):
                self.assertIs(is_way(RULES, BOSS, BOSS, thing), repr(thing) == "()")
                self.assertIs(is_turn_way(RULES, LEADS, LEADS, thing), repr(thing) == "()")
                self.assertIs(is_way(RULES, BOSS, STAFF, thing), False)
                self.assertIs(is_turn_way(RULES, LEADS, KNOWS, thing), False)
                self.assertTrue(unchanged(is_way, RULES, BOSS, LEADS, thing))
                self.assertTrue(unchanged(is_turn_way, RULES, LEADS, KNOWS, thing))

    def test_round_and_round(self):
        self.assertIs(is_way(RULES, MET, MET, ((8, 0), (3, 0)) * 800), True)
        self.assertIs(is_turn_way(RULES, MET, MET, ((8, 0), (3, 0)) * 800), True)
        self.assertIs(is_turn_way(RULES, MET, MET, ((8, 0), (3, 0)) * 800 + ((8, 0),)), False)

    def test_without_rules(self):
        self.assertIs(is_way((), BOSS, BOSS, ()), True)
        self.assertIs(is_way((), BOSS, BOSS, ((0, 0),)), False)
        self.assertIs(is_turn_way((), LEADS, LED, ()), False)

    def test_arguments_by_name(self):
        self.assertIs(is_way(thing=((0, 0),), other=LEADS, one=BOSS, rules=RULES), True)
        self.assertIs(is_turn_way(thing=((1, 0),), other=KNOWS, one=LEADS, rules=RULES), True)


class Way(unittest.TestCase):
    def test_some_ways(self):
        self.assertEqual(way(RULES, BOSS, KNOWS), ((0, 0), (1, 0)))
        self.assertEqual(way(RULES, BOSS, PERSON), ((0, 0), (9, 0), (6, 0)))
        self.assertEqual(way(RULES, LED, MEETS), ((1, 1), (3, 1)))
        self.assertEqual(turn_way(RULES, LED, MEETS), ((1, 1), (3, 1)))
        self.assertEqual(turn_way(RULES, MET, KNOWS), ((8, 0),))

    def test_the_longest(self):
        self.assertEqual(way(FAR, ("a",), ("y",)), tuple((k, 0) for k in range(24)))
        self.assertIsNone(way(FAR, ("y",), ("a",)))

    def test_a_short_way_and_a_long_one_in_any_order_of_the_rules(self):
        pairs = (("a", "b"), ("b", "z"), ("a", "c"), ("c", "d"), ("d", "z"), ("z", "y"))
        for order in itertools.permutations(pairs):
            for one, word in ((("a",), "within"), (("a", 1), "along")):
                rules = tuple((word, (x,) + one[1:], (y,) + one[1:]) for x, y in order)
                short = tuple((order.index(pair), 0) for pair in (("a", "b"), ("b", "z"), ("z", "y")))
                self.assertEqual(way(rules, one, ("y",) + one[1:]), short)
                if word == "along":
                    self.assertEqual(turn_way(rules, one, ("y", 1)), short)
                    self.assertEqual(turn_way(rules, ("a", 0), ("y", 0)), tuple((k, 1) for k, turned in short))

    def test_no_ways(self):
        for one, other in ((LEADS, BOSS), (PERSON, STAFF), (BOSS, INTERN), (KNOWS, LEADS), (LEADS, KNOWN)):
            self.assertIsNone(way(RULES, one, other))
        for one, other in ((KNOWS, LEADS), (LEADS, KNOWN), (LEADS, LED)):
            self.assertIsNone(turn_way(RULES, one, other))
        self.assertIsNone(turn_way((("within", LEADS, KNOWS),), LEADS, KNOWS))

    def test_a_sort_to_itself(self):
        for sort in sorted(named(RULES)) + [("other",), ("other", 0), ("other", 1)]:
            self.assertEqual(way(RULES, sort, sort), ())
            self.assertIn(sort, above(RULES, sort))
            if len(sort) == 2:
                self.assertEqual(turn_way(RULES, sort, sort), ())
                self.assertIn(sort, turns_above(RULES, sort))

    def test_sorts_that_no_rule_names(self):
        self.assertEqual(above(RULES, ("other",)), (("other",),))
        self.assertEqual(above(RULES, ("other", 1)), (("other", 1),))
        self.assertEqual(turns_above(RULES, ("other", 1)), (("other", 1),))
        self.assertIsNone(way(RULES, ("other",), BOSS))
        self.assertIsNone(way(RULES, BOSS, ("other",)))
        self.assertIsNone(turn_way(RULES, ("other", 0), ("other", 1)))
        # A kind and a role of one name have nothing to do with each other.
        self.assertIsNone(way(RULES, ("leads",), STAFF))
        self.assertIsNone(way(RULES, BOSS, ("knows",)))

    def test_fewest_steps(self):
        for rules in SETS + WIDE:
            for one, other in itertools.product(sorted(named(rules)), repeat=2):
                self.fewest(way(rules, one, other), is_way, rules, one, other, False)
                if len(one) == len(other) == 2:
                    self.fewest(turn_way(rules, one, other), is_turn_way, rules, one, other, True)

    def fewest(self, told, judge, rules, one, other, turns_alone):
        with self.subTest(repr((rules, one, other))):
            self.assertEqual(told is None, other not in reached(rules, one, turns_alone))
            self.assertEqual(None if told is None else len(told), distance(rules, one, other, turns_alone))
            if told is not None:
                self.assertTrue(is_plain(told))
                self.assertIs(judge(rules, one, other, told), True)

    def test_above_is_all_that_is_reached(self):
        for rules in SETS:
            for sort in named(rules):
                self.assertEqual(above(rules, sort), tuple(sorted(reached(rules, sort))))
                if len(sort) == 2:
                    self.assertEqual(turns_above(rules, sort), tuple(sorted(reached(rules, sort, True))))

    def test_above_of_some(self):
        self.assertEqual(above(RULES, BOSS), (BOSS, KNOWS, LEADS, MET, PERSON, STAFF))
        self.assertEqual(above(RULES, LED), (KNOWN, LED, MEETS, PERSON, STAFF))
        self.assertEqual(above(RULES, PERSON), (PERSON,))
        self.assertEqual(turns_above(RULES, LEADS), (KNOWS, LEADS, MET))
        self.assertEqual(turns_above(RULES, LED), (KNOWN, LED, MEETS))
        self.assertEqual(turns_above((("along", LEADS, LED),), LEADS), (LEADS, LED))
        self.assertEqual(turns_above((("along", LEADS, LED),), LED), (LEADS, LED))

    def test_the_same_when_asked_again(self):
        for rules in SETS[:8]:
            for one, other in itertools.product(sorted(named(rules)), repeat=2):
                self.assertEqual(way(rules, one, other), way(tuple(list(rules)), one, other))
                self.assertEqual(above(rules, one), above(rules, one))

    def test_arguments_by_name(self):
        self.assertEqual(way(other=LEADS, one=BOSS, rules=RULES), ((0, 0),))
        self.assertEqual(turn_way(other=KNOWS, one=LEADS, rules=RULES), ((1, 0),))
        self.assertEqual(above(sort=PERSON, rules=RULES), (PERSON,))
        self.assertEqual(turns_above(turn=LED, rules=RULES), (KNOWN, LED, MEETS))


class Meaning(unittest.TestCase):
    def test_what_is_above_is_so_in_every_small_world(self):
        for rules in [some_rules(seed, 3 + seed % 3, kinds="ab", roles="rs") for seed in range(6)]:
            for world in small_worlds("ab", "rs", (1, 2)):
                if all(is_so(world, rule) for rule in rules):
                    self.above_is_so(rules, world)

    def above_is_so(self, rules, world):
        for sort in named(rules):
            for there in above(rules, sort):
                self.assertLessEqual(members(world, sort), members(world, there))
        for turn in [sort for sort in named(rules) if len(sort) == 2]:
            for there in turns_above(rules, turn):
                self.assertLessEqual(pairs_of(world, turn), pairs_of(world, there))

    def test_what_is_not_above_need_not_be_so(self):
        for seed in range(60):
            rules = tuple(rule for rule in some_rules(seed, 7) if rule[0] in ("within", "along"))
            for sort in named(rules):
                world = grown_world(rules, sort)
                self.assertTrue(all(is_so(world, rule) for rule in rules))
                self.assertIn("root", members(world, sort))
                told = tuple(there for there in sorted(named(rules)) if "root" in members(world, there))
                self.assertEqual(above(rules, sort), told)
                if len(sort) == 2:
                    self.pair_is_of(rules, sort, world)

    def pair_is_of(self, rules, turn, world):
        pair = ("root", (turn, 1, False))
        self.assertIn(pair, pairs_of(world, turn))
        turns = [sort for sort in sorted(named(rules)) if len(sort) == 2 and pair in pairs_of(world, sort)]
        self.assertEqual(turns_above(rules, turn), tuple(turns))
        self.assertEqual({flip(there) for there in turns}, set(turns_above(rules, flip(turn))))


if __name__ == "__main__":
    unittest.main()
