import itertools
import random
import unittest

from ledquestions.asked import Asked
from ledquestions.errors import NoQuestion
from ledquestions.likeness import least_form
from ledquestions.texts import question_text
from tests.helpers import ODD, changed, refusal, unchanged
from tests.oracles import all_likenesses, are_alike, some_question
from tests.test_questions import is_right

STAFF = ((0,), (("leads", 0, 1), ("staff", 1)))
OTHER = ((7,), (("staff", 3), ("leads", 7, 3)))
TWICE = ((0,), (("leads", 0, 1), ("staff", 1), ("leads", 0, 2)))
QUESTIONS = [some_question(seed) for seed in range(25)] + [some_question(seed, atoms=2) for seed in range(25)]


class Questions(unittest.TestCase):
    def test_the_field(self):
        for question in QUESTIONS:
            self.assertEqual(repr(Asked(question).question), repr(question))
        self.assertEqual(Asked(question=STAFF).question, STAFF)
        self.assertTrue(unchanged(Asked, STAFF))

    def test_methods_stand_in_the_class_itself(self):
        for name in ("__init__", "__eq__", "__len__", "__str__", "over"):
            self.assertIn(name, vars(Asked))

    def test_what_is_no_question(self):
        for thing in ODD + [Asked(STAFF), [STAFF], list(STAFF), ((9,), STAFF[1]), ((), ()), ((), (("k", 100),))]:
            with self.subTest(repr(thing)[:200]):
                self.assertIs(type(refusal(Asked, thing)), NoQuestion)
                if not isinstance(thing, Asked):
                    self.assertTrue(unchanged(Asked, thing))

    def test_one_thing_changed(self):
        for thing in changed(STAFF):
            told = refusal(Asked, thing)
            self.assertIs(type(told), type(None) if is_right(thing) else NoQuestion)


class Equal(unittest.TestCase):
    def test_just_where_the_questions_are_alike(self):
        counts = [0, 0]
        for q, r in itertools.product(QUESTIONS, repeat=2):
            same = are_alike(q, r)
            counts[same] += 1
            self.assertIs(Asked(q) == Asked(r), same)
            self.assertIs(Asked(q) != Asked(r), not same)
        self.assertGreater(min(counts), 40)

    def test_other_numbers_and_another_order(self):
        self.assertEqual(Asked(STAFF), Asked(OTHER))
        maker = random.Random(1)
        for head, atoms in QUESTIONS:
            given = dict(zip(range(100), maker.sample(range(100), 100)))
            moved = [atom[:1] + tuple(given.get(term, term) for term in atom[1:]) for atom in atoms]
            maker.shuffle(moved)
            self.assertIs(Asked((head, atoms)) == Asked((tuple(given.get(t, t) for t in head), tuple(moved))), True)

    def test_alike_least_forms_are_not_enough(self):
        self.assertIs(Asked(STAFF) == Asked(TWICE), False)
        self.assertIs(Asked(TWICE) == Asked(STAFF), False)

    def test_unequal_to_all_else(self):
        asked = Asked(STAFF)
        for thing in ODD + [STAFF, list(STAFF), str(asked), len(asked), [asked], (asked,), object(), NoQuestion, Asked]:
            self.assertIs(asked == thing, False)
            self.assertIs(thing == asked, False)
            self.assertIs(asked != thing, True)

    def test_in_lists(self):
        many = [0, STAFF, None, Asked(TWICE), Asked(OTHER), "x"]
        self.assertIn(Asked(STAFF), many)
        self.assertEqual(many.index(Asked(STAFF)), 4)
        self.assertEqual(many.count(Asked(OTHER)), 1)
        self.assertNotIn(Asked(((), STAFF[1])), many)
        self.assertEqual([Asked(STAFF), 1], [Asked(OTHER), 1])
        self.assertNotEqual([Asked(STAFF)], [STAFF])
        self.assertEqual((Asked(STAFF),), (Asked(OTHER),))


class LenAndStr(unittest.TestCase):
    def test_len(self):
        self.assertEqual(len(Asked(STAFF)), 2)
        self.assertEqual(len(Asked(TWICE)), 2)
        self.assertEqual(len(Asked(((), (("r", 0, 1), ("r", 1, 2), ("r", 2, 2))))), 1)
        self.assertEqual(len(Asked(((0,), (("r", 0, 1), ("r", 1, 2), ("r", 2, 2))))), 3)
        self.assertEqual(len(Asked(((), tuple(("k", k) for k in range(5))))), 1)
        self.assertEqual(len(Asked(((0, 1, 2, 3), tuple(("k", k) for k in range(5))))), 4)
        for q in QUESTIONS:
            fewest = min(len(some) for many in range(1, 5) for some in itertools.combinations(q[1], many) if kept(q, some))
            self.assertEqual(len(Asked(q)), fewest)
            self.assertEqual(len(Asked(q)), len(least_form(q)[1]))

    def test_str(self):
        self.assertEqual(str(Asked(STAFF)), "?0 if leads ?0 ?1 and staff ?1")
        self.assertEqual(str(Asked(OTHER)), "?7 if staff ?3 and leads ?7 ?3")
        self.assertEqual(str(Asked(((), (("k", "x"),)))), "if k x")
        for q in QUESTIONS:
            self.assertEqual(str(Asked(q)), question_text(q))


def kept(q, atoms):
    """Whether the question of these atoms alone lies within q."""
    return all_likenesses(q, (q[0], atoms)) != []


class Over(unittest.TestCase):
    def test_each_way_round(self):
        bobs = Asked(((3,), (("leads", 3, "bob"), ("staff", "bob"))))
        self.assertIs(Asked(STAFF).over(bobs), True)
        self.assertIs(bobs.over(Asked(STAFF)), False)
        self.assertIs(Asked(STAFF).over(other=Asked(TWICE)), True)
        self.assertIs(Asked(TWICE).over(other=Asked(STAFF)), True)
        self.assertIs(Asked(STAFF).over(Asked(((), STAFF[1]))), False)

    def test_just_where_it_lies_within(self):
        counts = [0, 0]
        for q, r in itertools.product(QUESTIONS, repeat=2):
            right = all_likenesses(q, r) != []
            counts[right] += 1
            self.assertIs(Asked(q).over(Asked(r)), right)
        self.assertGreater(min(counts), 60)


if __name__ == "__main__":
    unittest.main()
