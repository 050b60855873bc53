import itertools
import random
import unittest

from ledquestions.books import look_rows
from ledquestions.plain import is_match, matches, plain_answers
from ledquestions.questions import is_short, look_question
from tests.helpers import ODD, changed, unchanged
from tests.lead_oracles import some_rows
from tests.oracles import answers_in, become, is_plain, some_question, unknowns_in

ROWS = (("boss", "ann"), ("boss", "cid"), ("leads", "ann", "bob"), ("leads", "bob", "bob"), ("leads", "cid", "ann"))
LEADS = ((0,), (("leads", 0, 1), ("boss", 0)))
THINGS = "abcdefghijkl"
SETS = [some_rows(seed, seed % 12, kinds="k", roles="rs", things=("x", "y", "z", "k")) for seed in range(60)]
QUESTIONS = [some_question(seed, things=("x", "k"), roles=("r", "s", "r")) for seed in range(120)]


def all_matches(rows, question):
    """All matches, rising, by trying all things."""
    things = sorted({thing for row in rows for thing in row[1:]})
    unknowns = unknowns_in(question)
    found = []
    for put in itertools.product(things, repeat=len(unknowns)):
        if set(become(question, dict(zip(unknowns, put)))[1]) <= set(rows):
            found.append(tuple(zip(unknowns, put)))
    return tuple(found)


class IsMatch(unittest.TestCase):
    def test_right_ones(self):
        self.assertIs(is_match(ROWS, LEADS, ((0, "ann"), (1, "bob"))), True)
        self.assertIs(is_match(ROWS, LEADS, ((0, "cid"), (1, "ann"))), True)
        self.assertIs(is_match(ROWS, ((), (("leads", 3, 3),)), ((3, "bob"),)), True)
        self.assertIs(is_match(ROWS, (("zed",), (("boss", "ann"),)), ()), True)
        self.assertIs(is_match(ROWS, ((), (("boss", 99), ("leads", 10, 2))), ((2, "bob"), (10, "ann"), (99, "cid"))), True)

    def test_wrong_ones(self):
        for thing in (
            ((0, "bob"), (1, "bob")), ((0, "ann"), (1, "ann")), ((1, "bob"), (0, "ann")), ((0, "ann"),), ((1, "bob"),), (),
            ((0, "ann"), (0, "ann"), (1, "bob")), ((0, "ann"), (1, "bob"), (2, "bob")), [(0, "ann"), (1, "bob")],
            ([0, "ann"], (1, "bob")), {0: "ann", 1: "bob"}, ((0, "ann"), (1, ("bob",))), ((False, "ann"), (True, "bob")),
            ((0, "ann"), (True, "bob")), ((0, "ann"), (1, 1)), ((0, 0), (1, 1)), ((0, "ann"), (1, None)), None, True, 0, "",
            ((0, "ann", "bob"), (1, "bob")), (("0", "ann"), (1, "bob")), (0, "ann", 1, "bob"), ((0, []), (1, "bob")),
        ):
            with self.subTest(repr(thing)):
                self.assertIs(is_match(ROWS, LEADS, thing), False)
        self.assertIs(is_match(ROWS, ((), (("boss", "bob"),)), ()), False)
        self.assertIs(is_match((), LEADS, ((0, "ann"), (1, "bob"))), False)

    def test_one_thing_changed(self):
        wrong = 0
        for rows, question in [(ROWS, LEADS)] + list(zip(SETS, QUESTIONS)):
            right = [repr(match) for match in all_matches(rows, question)]
            for match in all_matches(rows, question)[:2]:
                self.assertIs(is_match(rows, question, match), True)
                for near in changed(match):
                    wrong += repr(near) not in right
                    self.assertIs(is_match(rows, question, near), repr(near) in right, repr(near))
        self.assertGreater(wrong, 1000)

    def test_odd_things(self):
        for thing in ODD:
            self.assertIs(is_match(ROWS, LEADS, thing), False)
            self.assertIs(is_match(ROWS, LEADS, ((0, "ann"), (1, thing))), False)
            self.assertIs(is_match(ROWS, LEADS, ((0, "ann"), thing)), False)
            self.assertIs(is_match(ROWS, ((), (("boss", "ann"),)), thing), repr(thing) == "()")
            self.assertTrue(unchanged(is_match, ROWS, LEADS, thing))

    def test_by_name(self):
        self.assertIs(is_match(match=((0, "ann"), (1, "bob")), question=LEADS, rows=ROWS), True)


class Matches(unittest.TestCase):
    def test_some(self):
        self.assertEqual(matches(ROWS, LEADS), (((0, "ann"), (1, "bob")), ((0, "cid"), (1, "ann"))))
        self.assertEqual(matches(ROWS, ((), (("boss", "ann"),))), ((),))
        self.assertEqual(matches(ROWS, ((), (("boss", "bob"),))), ())
        self.assertEqual(matches((), LEADS), ())
        self.assertEqual(matches(ROWS, ((), (("leads", 10, 9),))), (
            ((9, "ann"), (10, "cid")), ((9, "bob"), (10, "ann")), ((9, "bob"), (10, "bob"))))

    def test_all_of_them_rising(self):
        found = 0
        for rows, question in itertools.product(SETS[::3], QUESTIONS):
            told = matches(rows, question)
            self.assertEqual(repr(told), repr(all_matches(rows, question)))
            self.assertEqual(list(told), sorted(set(told)))
            self.assertTrue(is_plain(told))
            found += len(told)
        self.assertGreater(found, 1500)

    def test_very_many(self):
        rows = tuple(("k", thing) for thing in THINGS)
        told = matches(rows, ((), tuple(("k", k) for k in range(4))))
        self.assertEqual(len(told), 12 ** 4)
        self.assertEqual(list(told), sorted(told))
        self.assertEqual(told[1], ((0, "a"), (1, "a"), (2, "a"), (3, "b")))

    def test_by_name_and_unchanged(self):
        self.assertEqual(matches(question=LEADS, rows=ROWS), matches(ROWS, LEADS))
        self.assertTrue(unchanged(matches, ROWS, LEADS))


class PlainAnswers(unittest.TestCase):
    def test_some(self):
        self.assertEqual(plain_answers(ROWS, ()), ())
        self.assertEqual(plain_answers((), ()), ())
        self.assertEqual(plain_answers((), (LEADS,)), ())
        self.assertEqual(plain_answers(ROWS, (LEADS,)), (("ann",), ("cid",)))
        self.assertEqual(plain_answers(ROWS, (LEADS, ((0,), (("leads", 1, 0),)))), (("ann",), ("bob",), ("cid",)))
        self.assertEqual(plain_answers(ROWS, (((), (("boss", 0),)),)), ((),))
        self.assertEqual(plain_answers(ROWS, (((), (("boss", "bob"),)),)), ())
        self.assertEqual(plain_answers(ROWS, (((), (("boss", "ann"),)),)), ((),))
        self.assertEqual(plain_answers(ROWS, (((), (("boss", "bob"),)), ((), (("boss", 7),)))), ((),))

    def test_heads(self):
        self.assertEqual(plain_answers(ROWS, ((("zed", 0, 0), (("boss", 0),)),)), (("zed", "ann", "ann"), ("zed", "cid", "cid")))
        self.assertEqual(plain_answers(ROWS, ((("zed",), (("boss", 0),)),)), (("zed",),))
        self.assertEqual(plain_answers(ROWS, ((("zed",), (("boss", "bob"),)),)), ())
        self.assertEqual(plain_answers(ROWS, (((1, 0, "x", 1), (("leads", 0, 1), ("boss", 1))),)), (("ann", "cid", "x", "ann"),))

    def test_of_several_questions(self):
        maker = random.Random(8)
        counts = {}
        for rows in SETS:
            questions = tuple(maker.sample(QUESTIONS, maker.randint(0, 4)))
            told = plain_answers(rows, questions)
            right = {answer for question in questions for answer in answers_in(rows, question)}
            self.assertEqual(repr(told), repr(tuple(sorted(right))))
            self.assertTrue(is_plain(told))
            counts[len(told) > 1] = counts.get(len(told) > 1, 0) + 1
        self.assertGreater(min(counts.values()), 10)

    def test_of_one_question(self):
        for rows, question in itertools.product(SETS[::2], QUESTIONS):
            self.assertEqual(plain_answers(rows, (question,)), tuple(sorted(answers_in(rows, question))))

    def test_nothing_in_common(self):
        rows = tuple(sorted(("r", one, other) for one, other in itertools.product("abcdef", repeat=2)))
        loose = tuple(("r", 2 * k, 2 * k + 1) for k in range(5))
        self.assertTrue(look_rows(rows) and look_question(((0, 9), loose)))
        self.assertEqual(plain_answers(rows, (((), loose),)), ((),))
        self.assertEqual(len(plain_answers(rows, (((0, 9), loose),))), 36)
        self.assertEqual(len(plain_answers(rows, (((1, 3, 5, 7), loose),))), 6 ** 4)
        self.assertEqual(plain_answers(rows, (((0,), loose[:4] + (("k", 9),)),)), ())
        self.assertEqual(plain_answers(rows, (((0, 9), loose[:4] + (("s", 9, 9),)),)), ())

    def test_nine_unknowns(self):
        rows = tuple(sorted(("r", one, other) for one, other in itertools.product("abc", THINGS)))
        star = tuple(("r", 0, k) for k in range(1, 6))
        self.assertEqual(plain_answers(rows, (((), star),)), ((),))
        self.assertEqual(plain_answers(rows, (((0,), star),)), (("a",), ("b",), ("c",)))
        self.assertEqual(len(plain_answers(rows, (((1, 2, 3), star),))), 12 ** 3)
        path = tuple(("r", k, k + 1) for k in range(5))
        self.assertEqual(len(plain_answers(rows, (((0, 5), path),))), 36)
        mixed = (("r", 0, 1), ("r", 4, 5), ("r", 2, 3), ("r", 1, 2), ("r", 7, 8))
        self.assertFalse(is_short(((), mixed)))
        self.assertEqual(len(plain_answers(rows, (((0, 3, 5, 8), mixed),))), 3 * 12 ** 3)
        nine = (("r", 0, 1), ("r", 2, 3), ("r", 4, 5), ("r", 6, 7), ("r", 8, "b"))
        self.assertEqual(plain_answers(rows, (((8,), nine),)), (("a",), ("b",), ("c",)))
        self.assertEqual(plain_answers(rows, (((8,), nine[:4] + (("r", "d", 8),)),)), ())

    def test_by_name_and_unchanged(self):
        self.assertEqual(plain_answers(questions=(LEADS,), rows=ROWS), plain_answers(ROWS, (LEADS,)))
        self.assertTrue(unchanged(plain_answers, ROWS, (LEADS,)))


if __name__ == "__main__":
    unittest.main()
