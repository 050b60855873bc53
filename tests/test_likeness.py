import itertools
import random
import unittest

from ledquestions.likeness import alike, is_likeness, least_form, lies_within, likeness
from ledquestions.questions import look_question
from tests.helpers import ODD, changed, unchanged
from tests.oracles import all_likenesses, answers_in, are_alike, frozen, is_plain, some_question, unknowns_in

STAFF = ((0,), (("leads", 0, 1), ("staff", 1)))
ANN = ((5,), (("staff", "ann"), ("leads", 5, "ann"), ("boss", 5)))
LOOP = ((7,), (("leads", 7, 7), ("staff", 7)))
TRUE = ((), (("leads", 0, 1),))
FIRM = ((), (("leads", "ann", "bob"),))
# Each: from, to, a likeness.
THERE = (
    (STAFF, STAFF, ((0, 0), (1, 1))),
    (STAFF, ANN, ((0, 5), (1, "ann"))),
    (STAFF, LOOP, ((0, 7), (1, 7))),
    (TRUE, FIRM, ((0, "ann"), (1, "bob"))),
    (FIRM, FIRM, ()),
    (((), (("k", "x"),)), ((), (("k", 0), ("k", "x"))), ()),
    (((1, 0), (("r", 0, 1),)), ((0, 1), (("r", 1, 0),)), ((0, 1), (1, 0))),
    (((0, "x"), (("r", 0, 2),)), (("x", "x"), (("r", "x", 1),)), ((0, "x"), (2, 1))),
    (((0, 1), (("r", 0, 1),)), ((3, 3), (("r", 3, 3),)), ((0, 3), (1, 3))),
    (((), (("r", 10, 9), ("r", 9, 2))), ((), (("r", 0, 1), ("r", 1, 0))), ((2, 0), (9, 1), (10, 0))),
)
# Each: from, to, with no likeness.
NOT_THERE = (
    (ANN, STAFF),
    (LOOP, STAFF),
    (FIRM, TRUE),
    (((0,), (("k", 0),)), ((), (("k", 0),))),
    (((), (("k", 0),)), ((0,), (("k", 0),))),
    (((0,), (("k", 0),)), (("x",), (("k", 0),))),
    ((("x",), (("k", 0),)), (("y",), (("k", 0),))),
    ((("x",), (("k", "x"),)), ((0,), (("k", 0),))),
    (((0, 0), (("r", 0, 0),)), ((0, 1), (("r", 0, 1),))),
    (((0, 0), (("k", 0),)), ((0, 1), (("k", 0), ("k", 1)))),
    (((0,), (("r", 0, 1),)), ((1,), (("r", 0, 1),))),
    (((), (("k", 0),)), ((), (("h", 0),))),
    (((), (("k", 0),)), ((), (("k", 0, 1),))),
    (((), (("k", 0, 1),)), ((), (("k", 0),))),
    (((), (("r", 0, 0),)), ((), (("r", 0, 1), ("r", 1, 0)))),
    (((), (("r", 0, 1), ("r", 1, 2), ("r", 2, 0))), ((), (("r", 0, 1), ("r", 1, 0)))),
    (((), (("k", "x"),)), ((), (("k", 0),))),
)
QUESTIONS = [some_question(seed) for seed in range(60)]
DENSE = [some_question(seed, atoms=5, unknowns=(0, 1, 2), things=(), heads=1) for seed in range(60)]
PAIRS = list(itertools.product(QUESTIONS[:30], repeat=2)) + list(itertools.product(DENSE[:30], repeat=2))


class IsLikeness(unittest.TestCase):
    def test_likenesses_that_are_there(self):
        for q, r, thing in THERE:
            with self.subTest(repr((q, r, thing))):
                self.assertTrue(look_question(q) and look_question(r))
                self.assertIs(is_likeness(q, r, thing), True)
                self.assertIn(thing, all_likenesses(q, r))

    def test_one_thing_changed(self):
        wrong = 0
        for q, r, thing in THERE:
            right = [repr(one) for one in all_likenesses(q, r)]
            for near in changed(thing):
                with self.subTest(repr((q, r, near))[:300]):
                    self.assertIs(is_likeness(q, r, near), repr(near) in right)
                    wrong += repr(near) not in right
        self.assertGreater(wrong, 500)

    def test_all_that_could_be(self):
        for q, r in PAIRS[::7]:
            right = all_likenesses(q, r)
            unknowns = unknowns_in(q)
            for put in itertools.product((0, 1, 2, 99, "x", "y"), repeat=len(unknowns)):
                thing = tuple(zip(unknowns, put))
                self.assertIs(is_likeness(q, r, thing), thing in right)

    def test_truths_are_no_numbers(self):
        q, r = ((), (("r", 0, 1),)), ((), (("r", 1, 0),))
        self.assertIs(is_likeness(q, r, ((0, 1), (1, 0))), True)
        for thing in (
            ((False, 1), (1, 0)), ((0, True), (1, 0)), ((0, 1), (True, 0)), ((0, 1), (1, False)),
            ((0, True), (1, False)), ((False, True), (True, False)),
        ):
            self.assertIs(is_likeness(q, r, thing), False)

    def test_wrong_ones(self):
        q, r = STAFF, ANN
        for thing in (
            ((1, "ann"), (0, 5)), ((0, 5),), ((1, "ann"),), ((0, 5), (1, "ann"), (2, 5)), ((0, 5), (0, 5), (1, "ann")),
            ((0, 5), (1, "bob")), ((0, 5), (1, 5)), ((0, "ann"), (1, "ann")), ((0, 6), (1, "ann")), (),
            [(0, 5), (1, "ann")], ([0, 5], (1, "ann")), {0: 5, 1: "ann"}, ((0, 5), (1, ("ann",))), ((0, 5), (1, None)),
            ((0, "5"), (1, "ann")), (("0", 5), (1, "ann")), ((0, 5, 5), (1, "ann")), ((0,), (1, "ann")), None, True,
            (0, 5, 1, "ann"), ((0, 5), (1, [])), ((0, 5), (1, {})), (({}, 5), (1, "ann")), (([], 5), (1, "ann")),
        ):
            with self.subTest(repr(thing)):
                self.assertIs(is_likeness(q, r, thing), False)

    def test_odd_things(self):
        for thing in ODD:
            with self.subTest(repr(thing)[:200]):
                self.assertIs(is_likeness(STAFF, ANN, thing), False)
                self.assertIs(is_likeness(FIRM, FIRM, thing), repr(thing) == "()")
                self.assertIs(is_likeness(TRUE, TRUE, thing), False)
                self.assertTrue(unchanged(is_likeness, STAFF, ANN, thing))

    def test_arguments_by_name(self):
        self.assertIs(is_likeness(thing=((0, 5), (1, "ann")), r=ANN, q=STAFF), True)
        self.assertIs(is_likeness(thing=((0, 5), (1, "ann")), r=STAFF, q=ANN), False)


class Likeness(unittest.TestCase):
    def test_there(self):
        for q, r, thing in THERE:
            with self.subTest(repr((q, r))):
                self.assertIs(is_likeness(q, r, likeness(q, r)), True)
                self.assertIs(lies_within(r, q), True)

    def test_the_only_one(self):
        self.assertEqual(likeness(STAFF, ANN), ((0, 5), (1, "ann")))
        self.assertEqual(likeness(STAFF, LOOP), ((0, 7), (1, 7)))
        self.assertEqual(likeness(FIRM, FIRM), ())

    def test_not_there(self):
        for q, r in NOT_THERE:
            with self.subTest(repr((q, r))):
                self.assertTrue(look_question(q) and look_question(r))
                self.assertIsNone(likeness(q, r))
                self.assertIs(lies_within(r, q), False)
                self.assertEqual(all_likenesses(q, r), [])

    def test_a_question_lies_within_itself(self):
        for q in QUESTIONS + DENSE + [STAFF, ANN, LOOP, TRUE, FIRM]:
            self.assertIs(lies_within(q, q), True)
            self.assertIs(is_likeness(q, q, likeness(q, q)), True)

    def test_just_where_there_is_one(self):
        counts = [0, 0]
        for q, r in PAIRS:
            told = likeness(q, r)
            right = all_likenesses(q, r)
            counts[told is None] += 1
            with self.subTest(repr((q, r, told))):
                self.assertIs(lies_within(r, q), told is not None)
                self.assertEqual(told is None, right == [])
                if told is not None:
                    self.assertIn(told, right)
                    self.assertTrue(is_plain(told))
                    self.assertIs(is_likeness(q, r, told), True)
                    self.assertEqual(likeness(q, r), told)
        self.assertGreater(min(counts), 100)

    def test_what_lies_within_answers_no_more(self):
        maker = random.Random(5)
        rows = [("k", thing) for thing in "xyz"] + [("r", one, other) for one in "xyz" for other in "xyz"]
        for r, q in PAIRS[::3]:
            self.assertIs(lies_within(r, q), frozen(r)[1] in answers_in(frozen(r)[0], q))
            if lies_within(r, q):
                for k in range(6):
                    some = maker.sample(rows, 7)
                    self.assertLessEqual(answers_in(some, r), answers_in(some, q))

    def test_many_atoms_and_unknowns(self):
        path = ((0,), tuple(("r", k, k + 1) for k in range(5)))
        ring = ((0,), tuple(("r", k, (k + 1) % 5) for k in range(5)))
        self.assertIs(lies_within(ring, path), True)
        self.assertIs(lies_within(path, ring), False)
        loose = ((), tuple(("r", 2 * k, 2 * k + 1) for k in range(5)))
        self.assertEqual(len(likeness(loose, ((), path[1]))), 10)

    def test_arguments_by_name(self):
        self.assertEqual(likeness(r=ANN, q=STAFF), ((0, 5), (1, "ann")))
        self.assertIs(lies_within(r=ANN, q=STAFF), True)
        self.assertIs(lies_within(q=ANN, r=STAFF), False)
        self.assertIs(lies_within(ANN, STAFF), True)


class Alike(unittest.TestCase):
    def test_other_numbers_and_another_order(self):
        maker = random.Random(3)
        for head, atoms in QUESTIONS + DENSE + [STAFF, ANN, LOOP]:
            given = dict(zip(range(100), maker.sample(range(100), 100)))
            moved = [atom[:1] + tuple(given.get(term, term) for term in atom[1:]) for atom in atoms]
            maker.shuffle(moved)
            other = (tuple(given.get(term, term) for term in head), tuple(moved))
            with self.subTest(repr((head, atoms, other))):
                self.assertIs(alike((head, atoms), other), True)
                self.assertIs(alike(other, (head, atoms)), True)

    def test_not_alike(self):
        for q, r in (
            (((), (("r", 0, 1),)), ((), (("r", 0, 0),))),
            (((), (("r", 0, 1),)), ((), (("r", 0, "x"),))),
            (((), (("r", 0, "y"),)), ((), (("r", 0, "x"),))),
            (((), (("r", 0, 1),)), ((), (("r", 0, 1), ("k", 0)))),
            (((), (("r", 0, 1), ("r", 0, 2))), ((), (("r", 0, 1),))),
            (((0,), (("r", 0, 1),)), ((1,), (("r", 0, 1),))),
            (((0,), (("r", 0, 1),)), ((), (("r", 0, 1),))),
            (((0, 1), (("r", 0, 1),)), ((0, 0), (("r", 0, 1),))),
            (((0, 1), (("k", 0), ("k", 1))), ((0, 0), (("k", 0), ("k", 1)))),
            (((), (("k", 0), ("h", 0))), ((), (("k", 0), ("h", 1)))),
            (((), (("r", 0, 1), ("r", 1, 2), ("r", 2, 0))), ((), (("r", 0, 1), ("r", 1, 2), ("r", 0, 2)))),
            (((), (("k", 0), ("k", 1))), ((), (("k", 0), ("k", "x")))),
            (((0,), (("k", 0), ("k", 1))), (("x",), (("k", "x"), ("k", 1)))),
            (((), (("k", 0), ("h", 1))), ((), (("k", 0), ("h", 0)))),
            (((), (("r", 0, 1), ("r", 2, 1))), ((), (("r", 0, 1), ("r", 0, 2)))),
        ):
            with self.subTest(repr((q, r))):
                self.assertTrue(look_question(q) and look_question(r))
                self.assertIs(alike(q, r), False)
                self.assertIs(alike(r, q), False)

    def test_lying_within_each_other_is_not_enough(self):
        q, r = ((0,), (("r", 0, 1),)), ((0,), (("r", 0, 1), ("r", 0, 2)))
        self.assertTrue(lies_within(q, r) and lies_within(r, q))
        self.assertIs(alike(q, r), False)

    def test_turned_about_unknowns(self):
        self.assertIs(alike(((0, 1), (("r", 0, 1),)), ((1, 0), (("r", 1, 0),))), True)
        self.assertIs(alike(((0, 1), (("r", 0, 1),)), ((1, 0), (("r", 0, 1),))), False)
        self.assertIs(alike(((), (("r", 0, 1),)), ((), (("r", 1, 0),))), True)

    def test_just_where_there_is_such_a_likeness(self):
        counts = [0, 0]
        small = [some_question(seed, atoms=3, unknowns=(0, 1), things=("x",), heads=1) for seed in range(45)]
        for q, r in PAIRS + list(itertools.product(small, repeat=2)):
            with self.subTest(repr((q, r))):
                self.assertIs(alike(q, r), are_alike(q, r))
                counts[alike(q, r)] += 1
        self.assertGreater(min(counts), 80)

    def test_many_unknowns(self):
        loose = ((), tuple(("r", 2 * k, 2 * k + 1) for k in range(5)))
        self.assertIs(alike(loose, (loose[0], loose[1][::-1])), True)
        self.assertIs(alike(loose, ((), loose[1][:4] + (("r", 8, 8),))), False)

    def test_arguments_by_name(self):
        self.assertIs(alike(r=STAFF, q=STAFF), True)
        self.assertIs(alike(r=STAFF, q=ANN), False)


class LeastForm(unittest.TestCase):
    def test_some(self):
        for q, atoms in (
            (STAFF, STAFF[1]),
            (((0,), (("r", 0, 1), ("r", 0, 2))), None),
            (((0,), (("r", 0, 1), ("r", 0, "x"))), (("r", 0, "x"),)),
            (((0, 2), (("r", 0, 1), ("r", 0, 2))), (("r", 0, 2),)),
            (((0, 1, 2), (("r", 0, 1), ("r", 0, 2))), (("r", 0, 1), ("r", 0, 2))),
            (((), (("r", 0, 1), ("r", 1, 2), ("r", 2, 2))), (("r", 2, 2),)),
            (((0,), (("r", 0, 1), ("r", 1, 2), ("r", 2, 2))), (("r", 0, 1), ("r", 1, 2), ("r", 2, 2))),
            (((), (("k", 0), ("k", "x"), ("k", "y"))), (("k", "x"), ("k", "y"))),
            (((), (("r", 0, 1), ("r", 1, 0), ("r", 1, 2), ("r", 2, 1))), None),
        ):
            told = least_form(q)
            with self.subTest(repr((q, told))):
                self.assertTrue(alike(told, least_form(told)))
                if atoms is None:
                    self.assertLess(len(told[1]), len(q[1]))
                else:
                    self.assertEqual(told, (q[0], atoms))

    def test_least_of_all(self):
        shrunk = 0
        for q in QUESTIONS + DENSE:
            told = least_form(q)
            with self.subTest(repr((q, told))):
                self.assertIs(look_question(told), True)
                self.assertTrue(is_plain(told))
                self.assertEqual(told[0], q[0])
                self.assertEqual(told[1], tuple(atom for atom in q[1] if atom in told[1]))
                self.assertNotEqual(all_likenesses(q, told), [])
                self.assertIs(lies_within(told, q) and lies_within(q, told), True)
                for many in range(1, len(told[1])):
                    for atoms in itertools.combinations(q[1], many):
                        self.assertEqual(all_likenesses(q, (q[0], atoms)), [])
                self.assertEqual(least_form(told), told)
                self.assertEqual(least_form(q), told)
                shrunk += told != q
        self.assertGreater(shrunk, 20)

    def test_any_order_comes_to_alike_forms(self):
        for head, atoms in QUESTIONS[:20] + DENSE[:20]:
            told = least_form((head, atoms))
            for order in itertools.permutations(atoms):
                self.assertIs(alike(least_form((head, order)), told), True)

    def test_by_name(self):
        self.assertEqual(least_form(q=STAFF), STAFF)


if __name__ == "__main__":
    unittest.main()
