import itertools
import unittest

from ledquestions.errors import NoStep
from ledquestions.leading import led, steps
from ledquestions.questions import look_question
from tests.helpers import ODD, changed, refusal, unchanged
from tests.lead_oracles import heads_in, leading_rules, slow_led, slow_steps, tree_rows
from tests.oracles import is_plain, is_so, small_worlds, some_question, some_rules

RULES = (
    ("within", ("a",), ("k",)),
    ("within", ("r", 0), ("k",)),
    ("within", ("r", 1), ("k",)),
    ("within", ("a",), ("r", 0)),
    ("within", ("a",), ("r", 1)),
    ("within", ("s", 0), ("r", 0)),
    ("within", ("s", 1), ("r", 1)),
    ("along", ("s", 0), ("r", 0)),
    ("along", ("s", 1), ("r", 0)),
    ("along", ("s", 0), ("r", 1)),
    ("along", ("s", 1), ("r", 1)),
    ("apart", ("a",), ("k",)),
    ("away", ("s", 0), ("r", 0)),
    ("within", ("k",), ("k",)),
    ("along", ("r", 1), ("r", 0)),
    ("within", ("r", 0), ("r", 1)),
)
# Each: question, step, led question.
LED = (
    # Each shape of rule and place.
    (((0,), (("k", 0),)), (0, (0,)), ((0,), (("a", 0),))),
    (((0,), (("k", 0),)), (1, (0,)), ((0,), (("r", 0, 1),))),
    (((0,), (("k", 0),)), (2, (0,)), ((0,), (("r", 1, 0),))),
    (((0,), (("r", 0, 1),)), (3, (0,)), ((0,), (("a", 0),))),
    (((1,), (("r", 0, 1),)), (4, (0,)), ((1,), (("a", 1),))),
    (((0,), (("r", 0, 1),)), (5, (0,)), ((0,), (("s", 0, 2),))),
    (((1,), (("r", 0, 1),)), (6, (0,)), ((1,), (("s", 2, 1),))),
    (((0, 1), (("r", 0, 1),)), (7, (0,)), ((0, 1), (("s", 0, 1),))),
    (((0, 1), (("r", 0, 1),)), (8, (0,)), ((0, 1), (("s", 1, 0),))),
    (((0, 1), (("r", 0, 1),)), (9, (0,)), ((0, 1), (("s", 1, 0),))),
    (((0, 1), (("r", 0, 1),)), (10, (0,)), ((0, 1), (("s", 0, 1),))),
    (((0, 1), (("r", 0, 1),)), (14, (0,)), ((0, 1), (("r", 1, 0),))),
    (((1,), (("r", 0, 1),)), (15, (0,)), ((1,), (("r", 1, 2),))),
    (((), (("k", "x"),)), (1, (0,)), ((), (("r", "x", 0),))),
    (((), (("r", "x", 7),)), (5, (0,)), ((), (("s", "x", 0),))),
    (((), (("r", "x", "y"),)), (8, (0,)), ((), (("s", "y", "x"),))),
    # Several places at once, and the least unknown of them.
    (((), (("k", 3), ("k", 1), ("k", 2))), (0, (0, 1)), ((), (("k", 2), ("a", 1)))),
    (((), (("k", 3), ("k", 1), ("k", 2))), (0, (0, 2)), ((), (("k", 1), ("a", 2)))),
    (((), (("k", 3), ("k", 1), ("k", 2))), (0, (0, 1, 2)), ((), (("a", 1),))),
    (((5,), (("r", 5, 0), ("r", 4, 0))), (3, (0, 1)), ((4,), (("a", 4),))),
    (((5,), (("r", 5, 0), ("r", 4, 1))), (3, (0, 1)), ((4,), (("a", 4),))),
    (((5,), (("r", 5, 0), ("r", 4, 1))), (3, (0,)), ((5,), (("r", 4, 1), ("a", 5)))),
    (((), (("r", 1, 0), ("r", 1, 2), ("k", 0), ("k", 2))), (4, (0, 1)), ((), (("k", 0), ("a", 0)))),
    (((), (("r", 5, 4), ("r", 3, 6), ("h", 4), ("h", 5))), (7, (0, 1)), ((), (("h", 4), ("h", 3), ("s", 3, 4)))),
    (((), (("r", 5, 4), ("r", 3, 6))), (9, (0, 1)), ((), (("s", 4, 3),))),
    # A thing among them.
    (((3,), (("k", 3), ("k", "x"))), (0, (0, 1)), (("x",), (("a", "x"),))),
    (((3, 1), (("k", 3), ("k", "x"), ("k", 1))), (0, (0, 1, 2)), (("x", "x"), (("a", "x"),))),
    (((), (("r", 1, 0), ("r", "x", 0))), (3, (0, 1)), ((), (("a", "x"),))),
    (((), (("r", 0, "x"), ("r", 1, 2), ("h", 2))), (7, (0, 1)), ((), (("h", "x"), ("s", 0, "x")))),
    # Terms that become one by others.
    (((0, 1, 2), (("r", 1, 2), ("r", 2, 0))), (7, (0, 1)), ((0, 0, 0), (("s", 0, 0),))),
    (((), (("r", 3, 2), ("r", 2, "x"), ("h", 3))), (7, (0, 1)), ((), (("h", "x"), ("s", "x", "x")))),
    (((), (("r", 2, 2), ("r", 1, 0))), (8, (0, 1)), ((), (("s", 0, 0),))),
    (((2,), (("r", 2, 2),)), (7, (0,)), ((2,), (("s", 2, 2),))),
    # Heads that change.
    (((1, 2, "z", 0), (("k", 1), ("k", 2), ("h", 0))), (0, (0, 1)), ((1, 1, "z", 0), (("h", 0), ("a", 1)))),
    # Atoms that become the same stand once, in the place of the first.
    (((), (("h", 1), ("h", 2), ("k", 1), ("g", 1), ("k", 2))), (0, (2, 4)), ((), (("h", 1), ("g", 1), ("a", 1)))),
    (((), (("r", 0, 1), ("r", 2, 3), ("r", 0, 3))), (7, (0, 1)), ((), (("r", 0, 1), ("s", 0, 1)))),
    # The new atom there already.
    (((0,), (("k", 0), ("a", 0))), (0, (0,)), ((0,), (("a", 0),))),
    (((0,), (("a", 0), ("k", 0), ("h", 0))), (0, (1,)), ((0,), (("a", 0), ("h", 0)))),
    (((), (("a", 2), ("k", 1), ("k", 2), ("h", 0))), (0, (1, 2)), ((), (("a", 1), ("h", 0)))),
    (((0, 1), (("r", 0, 1), ("s", 1, 0))), (8, (0,)), ((0, 1), (("s", 1, 0),))),
    (((0, 1), (("r", 0, 1), ("r", 1, 0))), (14, (0,)), ((0, 1), (("r", 1, 0),))),
    (((0,), (("k", 0),)), (13, (0,)), ((0,), (("k", 0),))),
    (((0, 1), (("k", 0), ("k", 1))), (13, (0,)), ((0, 1), (("k", 1), ("k", 0)))),
    # The least number that is no unknown of the question ahead, also of those that go.
    (((0,), (("k", 0), ("h", 2))), (1, (0,)), ((0,), (("h", 2), ("r", 0, 1)))),
    (((1,), (("k", 1), ("h", 2))), (2, (0,)), ((1,), (("h", 2), ("r", 0, 1)))),
    (((1,), (("r", 1, 0),)), (5, (0,)), ((1,), (("s", 1, 2),))),
    (((0, 1), (("k", 0), ("k", 1))), (1, (0, 1)), ((0, 0), (("r", 0, 2),))),
    (((99,), (("k", 99),)), (1, (0,)), ((99,), (("r", 99, 0),))),
    (
        ((), (("r", 0, 1), ("r", 2, 3), ("r", 4, 5), ("r", 6, 7), ("r", 8, 9))), (5, (4,)),
        ((), (("r", 0, 1), ("r", 2, 3), ("r", 4, 5), ("r", 6, 7), ("s", 8, 10))),
    ),
    # A partner that stands in several of the places.
    (((1,), (("r", 0, 9), ("r", 1, 9), ("r", 2, 9))), (3, (0, 1, 2)), ((0,), (("a", 0),))),
)
# Each: question, step that is none.
NOT_LED = (
    # Two unlike things.
    (((), (("k", "x"), ("k", "y"))), (0, (0, 1))),
    (((), (("r", "x", 0), ("r", "y", 1))), (3, (0, 1))),
    (((), (("r", "x", 0), ("r", "y", 1))), (7, (0, 1))),
    (((), (("r", 0, "x"), ("r", 1, "y"))), (7, (0, 1))),
    (((), (("r", 0, "x"), ("r", "y", 0))), (7, (0, 1))),
    (((), (("k", "x"), ("k", 0), ("k", "y"))), (0, (0, 1, 2))),
    # A partner that stands elsewhere, in the head, that is a thing or a t.
    (((0, 1), (("r", 0, 1),)), (3, (0,))),
    (((0,), (("r", 0, 1), ("k", 1))), (3, (0,))),
    (((0,), (("r", 0, 1), ("s", 2, 1))), (3, (0,))),
    (((0,), (("r", 0, 1), ("r", 1, 2))), (3, (0,))),
    (((0,), (("r", 0, 1), ("r", 2, 1))), (3, (0,))),
    (((0,), (("r", 0, 1), ("r", 2, 1))), (3, (1,))),
    (((0,), (("r", 0, "x"),)), (3, (0,))),
    (((), (("r", 0, 0),)), (3, (0,))),
    (((), (("r", 0, 0),)), (4, (0,))),
    (((), (("r", 0, 1), ("r", 1, 0))), (3, (0, 1))),
    (((), (("r", 0, 1), ("r", 1, 2))), (3, (0, 1))),
    (((1,), (("r", 0, 1),)), (3, (0,))),
    (((0,), (("r", 0, 1),)), (4, (0,))),
    (((0,), (("r", 0, 1),)), (6, (0,))),
    (((), (("r", "x", 1),)), (4, (0,))),
    # Rules that are apart or away, atoms of others.
    (((0,), (("k", 0),)), (11, (0,))),
    (((0,), (("a", 0),)), (11, (0,))),
    (((0, 1), (("r", 0, 1),)), (12, (0,))),
    (((0,), (("a", 0),)), (0, (0,))),
    (((0,), (("k", 0, 1),)), (0, (0,))),
    (((0,), (("r", 0),)), (3, (0,))),
    (((0,), (("r", 0),)), (7, (0,))),
    (((0,), (("k", 0), ("a", 0))), (0, (0, 1))),
    (((0, 1), (("s", 0, 1),)), (7, (0,))),
)
TWO = ((0,), (("k", 0), ("r", 0, 1), ("k", 1)))
SHAPES = (
    None, True, (), (0,), (0, ()), (0, (0,), 0), (0, 0), ((0,), (0,)), [0, (0,)], (0, [0]), {0: (0,)}, (0, {0: 0}),
    (-1, (0,)), (16, (0,)), (10 ** 999, (0,)), (False, (0,)), (0, (False,)), ("0", (0,)), (0, ("0",)), (0, "0"),
    (0, (-1,)), (0, (3,)), (0, (10 ** 999,)), (0, (0, 0)), (0, (2, 0)), (0, (0, 2, 2)), (0, (0, 1)), (0, (1,)),
    (0, (0, 2, 3)), (0, (0, None)), (0, (None,)), (None, (0,)), (0, None), (True, (0,)), (1, (True,)), (0, ((0,),)),
    (0, (0, True)), (0, (False, 2)), (0, (0, "2")), (0, ([], 2)), (0, (0, 2, 10 ** 999)),
)
QUESTIONS = [some_question(seed, atoms=5, kinds=("a", "b"), roles=("r", "s")) for seed in range(120)]
SETS = [some_rules(seed, 8) for seed in range(120)]
SMALL = [leading_rules(seed, 1 + seed % 3, kinds="a", roles="r") for seed in range(120)]


class Led(unittest.TestCase):
    def test_led_questions(self):
        for question, step, told in LED:
            with self.subTest(repr((question, step))):
                self.assertTrue(look_question(question) and look_question(told))
                self.assertEqual(repr(led(RULES, question, step)), repr(told))
                self.assertEqual(repr(slow_led(RULES, question, step)), repr(told))

    def refused(self, rules, question, step):
        with self.subTest(repr((question, step))[:300]):
            told = refusal(led, rules, question, step)
            self.assertIs(type(told), NoStep)
            self.assertEqual(vars(told), {})

    def test_no_steps(self):
        for question, step in NOT_LED:
            self.assertIs(look_question(question), True)
            self.assertIsNone(slow_led(RULES, question, step))
            self.refused(RULES, question, step)

    def test_things_of_other_shapes(self):
        self.assertEqual(led(RULES, TWO, (0, (0, 2))), ((0,), (("r", 0, 0), ("a", 0))))
        for step in SHAPES:
            self.refused(RULES, TWO, step)
        for thing in ODD:
            for step in (thing, (0, thing), (thing, (0,)), (0, (0, thing))):
                if slow_led(RULES, TWO, step) is None:
                    self.refused(RULES, TWO, step)
                self.assertTrue(unchanged(led, RULES, TWO, step))
            self.refused((), TWO, (thing, (0,)))

    def test_one_thing_changed(self):
        counts = [0, 0]
        for question, step, told in LED:
            for near in changed(step):
                right = slow_led(RULES, question, near)
                counts[right is None] += 1
                if right is None:
                    self.refused(RULES, question, near)
                else:
                    self.assertEqual(repr(led(RULES, question, near)), repr(right))
        self.assertGreater(min(counts), 40)

    def test_all_steps_of_many(self):
        counts = [0, 0]
        for rules, question in zip(SETS, QUESTIONS):
            numbers = range(len(question[1]))
            for number, many in itertools.product(range(len(rules)), range(1, 6)):
                for places in itertools.combinations(numbers, many):
                    step = (number, places)
                    right = slow_led(rules, question, step)
                    counts[right is None] += 1
                    if right is None:
                        self.refused(rules, question, step)
                    else:
                        told = led(rules, question, step)
                        self.assertEqual(repr(told), repr(right))
                        self.assertIs(look_question(told), True)
                        self.assertTrue(is_plain(told))
        self.assertGreater(min(counts), 500)

    def test_by_name_and_unchanged(self):
        self.assertEqual(led(step=(0, (0,)), question=TWO, rules=RULES), led(RULES, TWO, (0, (0,))))
        self.assertTrue(unchanged(led, RULES, TWO, (0, (0, 2))))
        self.assertTrue(unchanged(led, RULES, TWO, (0, (0, 1))))


class Steps(unittest.TestCase):
    def test_some(self):
        self.assertEqual(steps((), TWO), ())
        self.assertEqual(steps(RULES[11:13], TWO), ())
        self.assertEqual(steps(RULES[:1], TWO), ((0, (0,)), (0, (0, 2)), (0, (2,))))
        self.assertEqual(steps(RULES[:1], ((), (("k", "x"), ("k", "y"), ("k", 0)))), (
            (0, (0,)), (0, (0, 2)), (0, (1,)), (0, (1, 2)), (0, (2,))))
        self.assertEqual(steps(RULES[3:4], ((), (("r", 0, 1), ("r", 2, 1), ("r", 2, 3)))), (
            (0, (0, 1)), (0, (0, 1, 2)), (0, (2,))))
        self.assertEqual(steps(RULES, ((0,), (("g", 0), ("h", 0, 1)))), ())

    def test_just_all_and_rising(self):
        for rules, question in list(zip(SETS, QUESTIONS)) + [(RULES, question) for question in QUESTIONS]:
            told = steps(rules, question)
            self.assertEqual(repr(told), repr(slow_steps(rules, question)))
            self.assertTrue(is_plain(told))
            for step in told:
                self.assertIs(look_question(led(rules, question, step)), True)

    def test_many_at_once(self):
        question = ((), tuple(("k", k) for k in range(5)))
        self.assertEqual(len(steps(RULES[:1], question)), 31)
        rules = tuple(("within", (f"k{chr(97 + k)}",), ("k",)) for k in range(24))
        self.assertEqual(steps(rules, question), slow_steps(rules, question))

    def test_by_name_and_unchanged(self):
        self.assertEqual(steps(question=TWO, rules=RULES), steps(RULES, TWO))
        self.assertTrue(unchanged(steps, RULES, TWO))


class NoMore(unittest.TestCase):
    """A led question answers no more than the one ahead, where the rules are so."""

    def test_in_all_small_worlds(self):
        worlds = list(small_worlds("a", "r", ("x", "y")))
        looked = 0
        for seed, rules in enumerate(SMALL):
            kept = [world for world in worlds if all(is_so(world, rule) for rule in rules)]
            question = some_question(seed, atoms=3, unknowns=(0, 1, 2), kinds=("a",))
            for step in steps(rules, question):
                told = led(rules, question, step)
                for world in kept:
                    self.assertLessEqual(heads_in(world, told), heads_in(world, question))
                    looked += 1
        self.assertGreater(looked, 3000)

    def test_in_trees(self):
        rules = (("within", ("a",), ("r", 0)), ("within", ("r", 1), ("b",)), ("along", ("r", 0), ("s", 1)))
        world = tree_rows(rules, (("a", "x"), ("r", "y", "x")), 3)
        self.assertTrue(all(is_so(world, rule) for rule in rules))
        for question in QUESTIONS:
            for step in steps(rules, question):
                self.assertLessEqual(heads_in(world, led(rules, question, step)), heads_in(world, question))


if __name__ == "__main__":
    unittest.main()
