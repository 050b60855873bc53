import itertools
import random
import unittest

from ledquestions.leading import led, steps
from ledquestions.worlds import breach, holds_book, is_told_world, keeps, world_answers
from tests.helpers import ODD, changed, unchanged
from tests.lead_oracles import leading_rules, named_heads, some_rows, tree_rows
from tests.oracles import is_plain, is_so, members, pairs_of, some_question, some_rules
from tests.test_books import NO_NAMES

WORLD = (("boss", "ann"), ("leads", "ann", 0), ("leads", 0, 1), ("staff", 0), ("staff", 1), ("knows", 0, "ann"))
BOSS, STAFF, LEADS, LED, KNOWS, KNOWN = ("boss",), ("staff",), ("leads", 0), ("leads", 1), ("knows", 0), ("knows", 1)
KEPT = (
    ("within", BOSS, LEADS), ("within", LED, STAFF), ("within", KNOWS, STAFF), ("within", KNOWN, LEADS),
    ("within", KNOWS, LEADS), ("along", KNOWS, LED), ("along", KNOWN, LEADS), ("apart", BOSS, STAFF), ("apart", BOSS, LED),
    ("apart", STAFF, KNOWN), ("away", LEADS, LED), ("away", LEADS, KNOWS), ("away", LED, KNOWN), ("within", BOSS, BOSS),
    ("along", LEADS, LEADS), ("within", ("none",), ("no",)), ("apart", ("none",), ("none",)), ("away", ("no", 0), ("no", 1)),
    ("along", ("no", 0), LEADS), ("within", ("no", 1), BOSS),
)
# Each: a rule that isn't so in the world, and all terms by which.
BROKEN = (
    (("within", STAFF, BOSS), {(0,), (1,)}),
    (("within", STAFF, LEADS), {(1,)}),
    (("within", LEADS, BOSS), {(0,)}),
    (("within", LED, KNOWS), {(1,)}),
    (("within", BOSS, ("none",)), {("ann",)}),
    (("within", BOSS, ("no", 1)), {("ann",)}),
    (("along", LEADS, KNOWN), {(0, 1)}),
    (("along", LED, KNOWS), {(1, 0)}),
    (("along", KNOWS, LEADS), {(0, "ann")}),
    (("along", KNOWS, ("no", 0)), {(0, "ann")}),
    (("apart", LEADS, LED), {(0,)}),
    (("apart", BOSS, LEADS), {("ann",)}),
    (("apart", STAFF, STAFF), {(0,), (1,)}),
    (("apart", LED, STAFF), {(0,), (1,)}),
    (("away", LEADS, KNOWN), {("ann", 0)}),
    (("away", LED, KNOWS), {(0, "ann")}),
    (("away", LEADS, LEADS), {("ann", 0), (0, 1)}),
)
BOOK = (KEPT, (("boss", "ann"),))
NUMBERS = [0, 1, 2, "x", "y"]
WORLDS = [tuple(dict.fromkeys(some)) for some in [
    random.Random(seed).choices(
        list(itertools.product("abc", NUMBERS)) + list(itertools.product("rs", NUMBERS, NUMBERS)), k=seed % 14)
    for seed in range(120)
]]
SETS = [some_rules(seed, 1 + seed % 4) for seed in range(120)]
QUESTIONS = [
    some_question(seed, unknowns=(0, 1, 2, 3), kinds=("a", "b"), roles=("r", "s"), heads=3) for seed in range(120)
]


def is_right_world(thing):
    def standing(part):
        return type(part) is int and part >= 0 or name(part)

    def name(part):
        return type(part) is str and part.isascii() and part.isalpha() and part.islower() and 0 < len(part) < 9 and (
            part not in ("if", "and"))

    if type(thing) is not tuple or any(type(line) is not tuple or len(line) not in (2, 3) for line in thing):
        return False
    if not all(name(line[0]) and all(map(standing, line[1:])) for line in thing):
        return False
    return len(set(map(repr, thing))) == len(thing)


def wrong_terms(lines, rule):
    """All terms by which the rule isn't so."""
    word, first, second = rule
    told = members if word in ("within", "apart") else pairs_of
    ones, others = told(lines, first), told(lines, second)
    wrong = ones - others if word in ("within", "along") else ones & others
    return {(one,) for one in wrong} if told == members else wrong


class IsToldWorld(unittest.TestCase):
    def right(self, thing):
        with self.subTest(repr(thing)[:200]):
            self.assertIs(is_told_world(thing), True)

    def wrong(self, thing):
        with self.subTest(repr(thing)[:200]):
            self.assertIs(is_told_world(thing), False)

    def test_right_ones(self):
        for thing in (
            (), WORLD, WORLD[::-1], (("k", 0),), (("k", "x"),), (("r", 0, 0),), (("r", "x", 7),), (("r", 100, 10 ** 999),),
            (("k", 0), ("k", 1), ("k", "k"), ("k", "k", "k"), ("k", 0, 1), ("k", 1, 0)), tuple(("k", k) for k in range(1500)),
        ):
            self.right(thing)

    def test_wrong_ones(self):
        for thing in (
            (("k", 0), ("k", 0)), (("r", 0, "x"), ("k", 1), ("r", 0, "x")), (("k", -1),), (("r", 0, -1),), (("r", -1, "x"),),
            (("k", True),), (("k", False),), (("r", 0, True),), (("r", False, 0),), (("k", 1), ("k", True)), (("k", None),),
            (("r", "x", None),), (0, 1), ((0, 1),), ((0, "x"),), ((0, "x", "y"),), (("k",),), ((),), (("r", 0, 1, 2),),
            [("k", 0)], (["k", 0],), {("k", 0): True}, ({"k": 0},), (("k", (0,)),), (("k", []),), (("k", {}),),
            ("k", 0), None, True, 0, "", "k", (("k", 0), None), (("k", 0), ()), (("k", "0"),), (("k", "?0"),),
        ):
            self.assertFalse(is_right_world(thing))
            self.wrong(thing)
        for none in NO_NAMES:
            self.wrong(((none, 0),))
            self.wrong((("k", none),)) if type(none) is not int else None
            self.wrong((("r", 0, none),)) if type(none) is not int else None

    def test_odd_things_and_one_thing_changed(self):
        for thing in ODD:
            for near in (thing, (thing,), (("k", thing),), (("k", 0), thing), (("r", 0, thing),), ((thing, 0),)):
                self.assertIs(is_told_world(near), is_right_world(near), repr(near)[:200])
                self.assertTrue(unchanged(is_told_world, near))
        counts = [0, 0]
        for near in changed(WORLD):
            counts[is_right_world(near)] += 1
            self.assertIs(is_told_world(near), is_right_world(near), repr(near)[:200])
        self.assertGreater(min(counts), 30)

    def test_by_name(self):
        self.assertIs(is_told_world(thing=WORLD), True)


class KeepsAndBreach(unittest.TestCase):
    def test_rules_that_are_so(self):
        for rule in KEPT:
            with self.subTest(repr(rule)):
                self.assertIs(keeps((rule,), WORLD), True)
                self.assertIsNone(breach((rule,), WORLD))
        self.assertIs(keeps(KEPT, WORLD), True)
        self.assertIsNone(breach(KEPT, WORLD))
        self.assertIs(keeps((), WORLD), True)
        self.assertIs(keeps(KEPT, ()), True)
        self.assertIsNone(breach((), ()))

    def test_rules_that_are_not(self):
        for rule, terms in BROKEN:
            with self.subTest(repr(rule)):
                self.assertEqual(wrong_terms(WORLD, rule), terms)
                self.assertIs(keeps((rule,), WORLD), False)
                number, told = breach((rule,), WORLD)
                self.assertEqual(number, 0)
                self.assertIn(told, terms)
                self.assertIs(keeps((rule,), ()), True)

    def test_the_first_that_is_not(self):
        for (one, terms), (other, more) in itertools.permutations(BROKEN, 2):
            rules = KEPT[:5] + (one,) + KEPT[5:] + (other,)
            number, told = breach(rules, WORLD)
            self.assertEqual(number, 5)
            self.assertIn(told, terms)
            self.assertIs(keeps(rules, WORLD), False)

    def test_many(self):
        counts = [0, 0]
        for rules, lines in itertools.product(SETS[::2], WORLDS[::3]):
            wrong = [number for number, rule in enumerate(rules) if not is_so(lines, rule)]
            told = breach(rules, lines)
            counts[not wrong] += 1
            self.assertIs(keeps(rules, lines), not wrong)
            self.assertEqual(repr(breach(rules, lines)), repr(told))
            if not wrong:
                self.assertIsNone(told)
            else:
                self.assertTrue(is_plain(told) and len(told) == 2)
                self.assertEqual(told[0], wrong[0])
                self.assertIn(told[1], wrong_terms(lines, rules[wrong[0]]))
        self.assertGreater(min(counts), 400)

    def test_by_name_and_unchanged(self):
        self.assertIs(keeps(lines=WORLD, rules=KEPT), True)
        self.assertEqual(breach(lines=WORLD, rules=(BROKEN[0][0],))[0], 0)
        self.assertTrue(unchanged(keeps, KEPT, WORLD))
        self.assertTrue(unchanged(breach, tuple(rule for rule, terms in BROKEN), WORLD))


class WorldAnswers(unittest.TestCase):
    def test_some(self):
        self.assertEqual(world_answers(WORLD, ((0,), (("leads", 0, 1), ("staff", 1)))), (("ann",),))
        self.assertEqual(world_answers(WORLD, ((0,), (("staff", 0),))), ())
        self.assertEqual(world_answers(WORLD, ((), (("staff", 0),))), ((),))
        self.assertEqual(world_answers(WORLD, ((), (("leads", 0, 0),))), ())
        self.assertEqual(world_answers(WORLD, ((), (("staff", "ann"),))), ())
        self.assertEqual(world_answers(WORLD, ((), (("boss", "ann"),))), ((),))
        self.assertEqual(world_answers(WORLD, ((2,), (("leads", 0, 1), ("leads", 1, 2)))), ())
        self.assertEqual(world_answers(WORLD, ((0, "z", 0), (("leads", 0, 1), ("leads", 1, 2)))), (("ann", "z", "ann"),))
        self.assertEqual(world_answers(WORLD, ((0, 1), (("leads", 0, 1),))), ())
        self.assertEqual(world_answers((), ((), (("k", 0),))), ())

    def test_unknowns_are_no_numbers_of_the_world(self):
        self.assertEqual(world_answers((("k", 5),), ((), (("k", 0),))), ((),))
        self.assertEqual(world_answers((("r", 1, 0), ("k", "x")), ((), (("r", 0, 1),))), ((),))
        self.assertEqual(world_answers((("r", 1, "x"), ("r", "x", "y")), ((1,), (("r", 0, 1),))), (("x",), ("y",)))
        self.assertEqual(world_answers((("r", 0, 0), ("k", "x")), ((2,), (("r", 0, 1), ("k", 2)))), (("x",),))

    def test_many(self):
        counts = {}
        for lines, question in itertools.product(WORLDS[::3], QUESTIONS):
            told = world_answers(lines, question)
            right = named_heads(lines, question)
            self.assertEqual(repr(told), repr(tuple(sorted(right))), repr((lines, question)))
            counts[len(told)] = counts.get(len(told), 0) + 1
        self.assertGreater(min(counts[0], counts[1], counts[2]), 20)

    def test_great_worlds(self):
        lines = tuple(("k", k) for k in range(400)) + tuple(("r", k, k + 1) for k in range(400)) + (("k", "x"), ("r", "x", 0))
        self.assertEqual(world_answers(lines, ((0, 1, 2, 3), tuple(("k", k) for k in range(4)))), (("x",) * 4,))
        path = (("r", 0, 1), ("r", 1, 2), ("r", 2, 3), ("k", 3))
        self.assertEqual(world_answers(lines, ((0,), path)), (("x",),))
        self.assertEqual(world_answers(lines, ((), path)), ((),))
        self.assertEqual(world_answers(lines, ((3,), path)), ())

    def test_led_questions_say_no_more(self):
        looked = 0
        for seed in range(60):
            rules = leading_rules(seed, 1 + seed % 3, somes=0) if seed % 2 else (("within", ("a",), ("r", 0)),)
            rows = some_rows(seed, 6)
            lines = tuple(sorted(tree_rows(rules, rows, 6), key=repr))
            self.assertIs(is_told_world(lines), True)
            if not keeps(rules, lines):
                continue
            for question in QUESTIONS[seed::60]:
                for step in steps(rules, question):
                    told = led(rules, question, step)
                    self.assertLessEqual(set(world_answers(lines, told)), set(world_answers(lines, question)))
                    looked += 1
        self.assertGreater(looked, 30)

    def test_by_name_and_unchanged(self):
        question = ((0,), (("leads", 0, 1),))
        self.assertEqual(world_answers(question=question, lines=WORLD), (("ann",),))
        self.assertTrue(unchanged(world_answers, WORLD, question))


class HoldsBook(unittest.TestCase):
    def test_rows_and_rules(self):
        self.assertIs(holds_book(BOOK, WORLD), True)
        self.assertIs(holds_book(BOOK, WORLD[::-1]), True)
        self.assertIs(holds_book(((), ()), ()), True)
        self.assertIs(holds_book(((), ()), WORLD), True)
        self.assertIs(holds_book((KEPT, ()), ()), True)
        self.assertIs(holds_book(BOOK, ()), False)
        self.assertIs(holds_book((KEPT, (("boss", "ann"), ("boss", "bob"))), WORLD), False)
        self.assertIs(holds_book((KEPT, (("leads", "ann", "ann"),)), WORLD), False)
        for rule, terms in BROKEN:
            self.assertIs(holds_book((KEPT + (rule,), BOOK[1]), WORLD), False)
            self.assertIs(holds_book(((rule,), ()), WORLD), False)

    def test_one_row_left_out(self):
        rows = tuple(sorted((("k", "x"), ("k", "y"), ("r", "x", "y"))))
        for k in range(3):
            self.assertIs(holds_book(((), rows), rows + (("k", 0),)), True)
            self.assertIs(holds_book(((), rows), rows[:k] + rows[k + 1:] + (("k", 0),)), False)

    def test_what_is_no_told_world(self):
        for lines in (
            list(WORLD), WORLD + WORLD[:1], WORLD + (("k", -1),), WORLD + (("k", True),), WORLD + (None,), dict.fromkeys(WORLD),
            WORLD[:2] + (("leads", False, 1),) + WORLD[3:], tuple(map(list, WORLD)), WORLD + (("k", 0, 1, 2),), None,
        ):
            self.assertIs(holds_book(BOOK, lines), False)
            self.assertIs(holds_book(((), ()), lines), False)
        for thing in ODD:
            self.assertIs(holds_book(((), ()), thing), repr(thing) == "()")
            self.assertIs(holds_book(BOOK, thing), False)
            self.assertIs(holds_book(BOOK, WORLD + (thing,)), False)
            self.assertTrue(unchanged(holds_book, BOOK, thing))

    def test_one_thing_changed(self):
        counts = [0, 0]
        for lines in changed(WORLD):
            right = is_right_world(lines) and BOOK[1][0] in lines and all(is_so(lines, rule) for rule in KEPT)
            counts[right] += 1
            self.assertIs(holds_book(BOOK, lines), right)
        self.assertGreater(min(counts), 3)

    def test_by_name_and_unchanged(self):
        self.assertIs(holds_book(lines=WORLD, book=BOOK), True)
        self.assertTrue(unchanged(holds_book, BOOK, WORLD))


if __name__ == "__main__":
    unittest.main()
