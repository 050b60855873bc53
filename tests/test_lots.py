import inspect
import itertools
import random
import unittest

from ledquestions.bounds import LOT
from ledquestions.errors import TooMany
from ledquestions.leading import led, steps
from ledquestions.likeness import alike, least_form, lies_within
from ledquestions.lots import least_lot, lot, right_lot, same_lots
from ledquestions.needs import Needs
from ledquestions.plain import plain_answers
from ledquestions.questions import look_question
from ledquestions.shelves import Shelf, Tally
from tests.helpers import ODD, changed, refusal, unchanged
from tests.lead_oracles import (
    is_right_lot, is_shut, leading_rules, named_heads, other_lot, some_rows, tops, tree_rows,
)
from tests.oracles import are_alike, is_plain, some_question

BOSSES = (
    ("within", ("boss",), ("leads", 0)),
    ("along", ("leads", 0), ("knows", 0)),
    ("within", ("leads", 1), ("staff",)),
    ("apart", ("boss",), ("staff",)),
)
KNOWS = ((0,), (("knows", 0, 1), ("staff", 1)))
LOOSE = ((), (("k", 0), ("k", 1)))
SUB = (("within", ("h",), ("k",)),)


def some_pair(seed, many=None):
    """Rules and a question by the figures of a seed."""
    rules = leading_rules(seed, 3 + seed % 5 if many is None else many, kinds="ab", roles="rs")
    return rules, some_question(seed, atoms=3, unknowns=(0, 1, 2), things=("x",), kinds=("a", "b"), roles=("r", "s"))


PAIRS = [some_pair(seed) for seed in range(150)]
QUESTIONS = [some_question(seed, atoms=3) for seed in range(80)]


def asked(triples):
    return tuple(triple[0] for triple in triples)


def kinds_under(kind, many):
    """Rules that put so many kinds within this one."""
    return tuple(("within", (f"{kind}{chr(97 + k)}",), (kind,)) for k in range(many))


class RightLot(unittest.TestCase):
    def right(self, rules, question, thing):
        with self.subTest(repr((rules, question, thing))[:300]):
            self.assertIs(right_lot(rules, question, thing), True)

    def wrong(self, rules, question, thing):
        with self.subTest(repr((rules, question, thing))[:300]):
            self.assertIs(right_lot(rules, question, thing), False)

    def test_by_hand(self):
        self.right((), KNOWS, ((KNOWS, -1, ()),))
        self.right(BOSSES[3:], KNOWS, ((KNOWS, -1, ()),))
        self.wrong(BOSSES, KNOWS, ((KNOWS, -1, ()),))
        one = ((0,), (("staff", 1), ("leads", 0, 1)))
        two = ((0,), (("leads", 0, 1),))
        other = ((0,), (("knows", 0, 1), ("leads", 2, 1)))
        three = ((0,), (("boss", 0),))
        # A step (2, (0,)) leads from one to (leads 0 1, leads 2 1), which lies within two.
        self.wrong(BOSSES, KNOWS, ((KNOWS, -1, ()), (one, 0, (1, (0,)))))
        more = led(BOSSES, one, (2, (0,)))
        self.assertEqual(more, ((0,), (("leads", 0, 1), ("leads", 2, 1))))
        last = led(BOSSES, more, (0, (0, 1)))
        self.assertEqual(last, three)
        whole = ((KNOWS, -1, ()), (one, 0, (1, (0,))), (more, 1, (2, (0,))), (last, 2, (0, (0, 1))), (other, 0, (2, (1,))))
        self.right(BOSSES, KNOWS, whole)
        self.wrong(BOSSES, KNOWS, whole[:4])
        self.wrong(BOSSES, KNOWS, whole[:3] + whole[4:])
        self.wrong(BOSSES, KNOWS, ((KNOWS, -1, ()), (two, 0, (1, (0,)))))

    def test_several_places_are_steps_too(self):
        # By one place at a time one comes only to what lies within the question itself.
        self.wrong(SUB, LOOSE, ((LOOSE, -1, ()),))
        self.right(SUB, LOOSE, ((LOOSE, -1, ()), (((), (("h", 0),)), 0, (0, (0, 1)))))
        single = ((LOOSE, -1, ()), (((), (("k", 1), ("h", 0))), 0, (0, (0,))))
        self.wrong(SUB, LOOSE, single)
        self.right(SUB, LOOSE, single + ((((), (("h", 0), ("h", 1))), 1, (0, (0,))),))

    def test_more_than_needed(self):
        looked = 0
        for seed, (rules, question) in enumerate(PAIRS):
            more = other_lot(rules, question, seed, 25)
            if more is None:
                continue
            self.right(rules, question, more)
            told = lot(rules, question)
            step = steps(rules, question)[:1]
            if step:
                again = told + ((led(rules, question, step[0]), 0, step[0]),) * 2
                self.right(rules, question, again)
                looked += 1
        self.assertGreater(looked, 40)

    def test_triples_left_out_twice_and_changed_about(self):
        counts = [0, 0]
        for seed, (rules, question) in enumerate(PAIRS):
            whole = lot(rules, question, most=1000)
            if len(whole) > 12:
                continue
            nears = [whole[:k] + whole[k + 1:] for k in range(len(whole))]
            nears += [whole[:k] + whole[k:k + 1] + whole[k:] for k in range(len(whole))]
            nears += [whole + whole[k:k + 1] for k in range(len(whole))]
            nears += [whole[:k] for k in range(len(whole))] + [whole[::-1], list(whole)]
            nears += [whole[:k] + (whole[k + 1], whole[k]) + whole[k + 2:] for k in range(len(whole) - 1)]
            for near in nears:
                right = is_right_lot(rules, question, near)
                counts[right] += 1
                self.assertIs(right_lot(rules, question, near), right, repr((rules, question, near)))
        self.assertGreater(min(counts), 60)

    def test_one_thing_changed(self):
        counts = [0, 0]
        for rules, question in ((BOSSES, KNOWS), (SUB, LOOSE), (SUB, ((0, "x"), (("k", 0), ("k", "x"))))):
            whole = lot(rules, question)
            self.assertGreater(len(whole), 1)
            for near in changed(whole):
                right = is_right_lot(rules, question, near)
                counts[right] += 1
                self.assertIs(right_lot(rules, question, near), right, repr(near)[:300])
        self.assertGreater(counts[0], 3000)
        self.assertGreater(counts[1], 0)

    def test_truths_are_no_numbers(self):
        question = ((1,), (("k", 1), ("r", 0, 1)))
        made = ((1,), (("r", 0, 1), ("h", 1)))
        self.right(SUB, question, ((question, -1, ()), (made, 0, (0, (0,)))))
        for near in (
            ((((True,), question[1]), -1, ()), (made, 0, (0, (0,)))),
            ((((1,), (("k", True), ("r", 0, 1))), -1, ()), (made, 0, (0, (0,)))),
            ((question, -1, ()), (((True,), made[1]), 0, (0, (0,)))),
            ((question, -1, ()), (((1,), (("r", False, 1), ("h", 1))), 0, (0, (0,)))),
            ((question, -1, ()), (made, False, (0, (0,)))),
            ((question, -1, ()), (made, 0, (False, (0,)))),
            ((question, -1, ()), (made, 0, (0, (False,)))),
            ((question, -1, []), (made, 0, (0, (0,)))),
            ((question, -1, None), (made, 0, (0, (0,)))),
            ((question, 0, ()), (made, 0, (0, (0,)))),
            ((question, None, ()), (made, 0, (0, (0,)))),
            ((question, -1, ()), (made, -1, (0, (0,)))),
            ((question, -1, ()), (made, -2, (0, (0,)))),
            ((question, -1, ()), (made, 1, (0, (0,)))),
            ((question, -1, ()), (made, "0", (0, (0,)))),
            ((question, -1, ()), (made, 0, (0, [0]))),
            ((question, -1, ()), (made, 0, [0, (0,)])),
            ((question, -1, ()), [made, 0, (0, (0,))]),
            ((question, -1, ()), (made, 0, ())),
            ((question, -1, ()), (((1,), (("h", 1), ("r", 0, 1))), 0, (0, (0,)))),
            ((question, -1, ()), (((2,), (("r", 0, 2), ("h", 2))), 0, (0, (0,)))),
            ((question, -1, ()), (((1,), [("r", 0, 1), ("h", 1)]), 0, (0, (0,)))),
            (([(1,), question[1]], -1, ()), (made, 0, (0, (0,)))),
        ):
            self.wrong(SUB, question, near)

    def test_none_is_led_from_itself(self):
        rules, question = (("within", ("k",), ("k",)),), ((0,), (("k", 0),))
        self.right(rules, question, ((question, -1, ()), (question, 0, (0, (0,)))))
        self.right(rules, question, ((question, -1, ()), (question, 0, (0, (0,))), (question, 1, (0, (0,)))))
        self.wrong(rules, question, ((question, -1, ()), (question, 1, (0, (0,)))))
        self.wrong(rules, question, ((question, -1, ()), (question, 2, (0, (0,))), (question, 0, (0, (0,)))))
        self.wrong(rules, question, ((question, 0, (0, (0,))),))

    def test_of_another_question(self):
        other = ((9,), (("staff", 1), ("knows", 9, 1)))
        whole = lot(BOSSES, KNOWS)
        self.wrong(BOSSES, ((9,), (("knows", 9, 1), ("staff", 1))), whole)
        self.wrong(BOSSES, other, whole)
        self.wrong(BOSSES + SUB, ((0,), (("k", 0),)), whole)

    def test_odd_things(self):
        for thing in ODD:
            for near in (thing, (thing,), ((KNOWS, -1, ()), thing), ((thing, -1, ()),), ((KNOWS, thing, ()), thing)):
                self.wrong((), KNOWS, near)
                self.wrong(BOSSES, KNOWS, near)
            if repr(thing) != "-1":
                self.wrong((), KNOWS, ((KNOWS, thing, ()),))
            if repr(thing) != "()":
                self.wrong((), KNOWS, ((KNOWS, -1, thing),))
            self.assertTrue(unchanged(right_lot, BOSSES, KNOWS, thing))

    def test_by_name_and_unchanged(self):
        whole = lot(BOSSES, KNOWS)
        self.assertIs(right_lot(thing=whole, question=KNOWS, rules=BOSSES), True)
        self.assertTrue(unchanged(right_lot, BOSSES, KNOWS, whole))
        self.assertTrue(unchanged(right_lot, BOSSES, KNOWS, whole[:-1]))


class Lot(unittest.TestCase):
    def test_by_hand(self):
        self.assertEqual(lot((), KNOWS), ((KNOWS, -1, ()),))
        self.assertEqual(lot(BOSSES[3:], KNOWS), ((KNOWS, -1, ()),))
        told = least_lot(asked(lot(BOSSES, KNOWS)))
        right = (
            KNOWS, ((0,), (("boss", 0),)), ((0,), (("leads", 0, 1),)), ((0,), (("knows", 0, 1), ("leads", 2, 1))),
        )
        self.assertEqual(len(told), len(right))
        self.assertTrue(all(any(alike(one, other) for other in told) for one in right))

    def test_right_ones(self):
        longer = 0
        for rules, question in PAIRS:
            with self.subTest(repr((rules, question))):
                told = lot(rules, question, most=1000)
                self.assertIs(right_lot(rules, question, told), True)
                self.assertTrue(is_plain(told))
                self.assertEqual(repr(told[0]), repr((question, -1, ())))
                self.assertEqual(repr(lot(rules, question, most=1000)), repr(told))
                for one, ahead, step in told:
                    self.assertIs(look_question(one), True)
                longer += len(told) > 3
                if len(told) < 30:
                    self.assertTrue(is_right_lot(rules, question, told))
        self.assertGreater(longer, 40)

    def test_just_as_many_as_may_be(self):
        sizes = {}
        for rules, question in PAIRS:
            told = lot(rules, question, most=1000)
            many = len(least_lot(asked(told)))
            sizes[many] = sizes.get(many, 0) + 1
            with self.subTest(repr((rules, question, many))):
                self.assertEqual(repr(lot(rules, question, most=many)), repr(told))
                self.assertEqual(repr(lot(rules, question, most=many + 1)), repr(told))
                for fewer in {many - 1, many // 2, 0}:
                    refused = refusal(lot, rules, question, most=fewer)
                    self.assertIs(type(refused), TooMany)
                    self.assertEqual(vars(refused), {})
        self.assertGreater(len(sizes), 8)

    def test_left_out(self):
        self.assertEqual(inspect.signature(lot).parameters["most"].default, LOT)
        self.assertEqual(LOT, 40)
        pair = ((0, 1), (("k", 0), ("h", 1)))
        self.assertEqual(len(least_lot(asked(lot(kinds_under("k", 4) + kinds_under("h", 7), pair)))), 40)
        more = kinds_under("k", 5) + kinds_under("h", 6)
        self.assertIs(type(refusal(lot, more, pair)), TooMany)
        self.assertIs(type(refusal(lot, more, pair, most=41)), TooMany)
        self.assertEqual(len(least_lot(asked(lot(more, pair, most=42)))), 42)

    def test_many_are_counted_in_the_end_alone(self):
        # On the way there are more than in the end, where one lies over most of them.
        rules = kinds_under("k", 6) + (("within", ("r", 0), ("k",)), ("within", ("all",), ("r", 0)), ("within", ("all",), ("h",)))
        for question in (((0,), (("k", 0), ("k", 1), ("h", 0))), ((), (("k", 0), ("h", 0), ("k", 1)))):
            told = lot(rules, question, most=1000)
            self.assertTrue(is_right_lot(rules, question, told))
            many = len(tops(asked(told)))
            self.assertEqual(len(lot(rules, question, most=many)), len(told))
            self.assertIs(type(refusal(lot, rules, question, most=many - 1)), TooMany)

    def test_very_many_end(self):
        question = ((0, 1, 2, 3), (("k", 0), ("k", 1), ("k", 2), ("k", 3), ("k", "x")))
        self.assertIs(type(refusal(lot, kinds_under("k", 23), question)), TooMany)
        self.assertEqual(len(least_lot(asked(lot(kinds_under("k", 23), ((), question[1][:4]))))), 24)
        ring = tuple(("within", (f"k{chr(97 + k)}",), (f"k{chr(97 + (k + 1) % 24)}",)) for k in range(24))
        self.assertEqual(len(least_lot(asked(lot(ring, ((0,), (("ka", 0),)))))), 24)

    def test_very_many_without_a_head_end(self):
        for many in (3, 8, 24):
            rules = tuple(("along", (chr(97 + k) * 2, 0), ("r", k % 2)) for k in range(many))
            for atoms in (
                (("r", 0, 1), ("r", 1, 2), ("r", 2, 3), ("r", 3, 0)), (("r", 0, 1), ("r", 1, 2), ("r", 2, 3)),
                (("r", 0, 1), ("r", 1, 0), ("r", 1, 2), ("r", 2, 0)),
            ):
                self.assertIs(type(refusal(lot, rules, ((), atoms))), TooMany)

    def test_partners(self):
        rules = (("within", ("a",), ("r", 0)), ("within", ("r", 1), ("a",)))
        path = ((0,), (("r", 0, 1), ("r", 1, 2), ("r", 2, 3), ("r", 3, 4)))
        told = least_lot(asked(lot(rules, path)))
        self.assertTrue(any(alike(one, ((0,), (("a", 0),))) for one in told))
        self.assertTrue(any(alike(one, ((0,), (("r", 0, 1),))) for one in told))
        self.assertTrue(any(alike(one, ((0,), (("r", 1, 0),))) for one in told))
        self.assertEqual(len(told), 3)
        fork = ((0, 1), (("r", 0, 2), ("r", 1, 2)))
        told = least_lot(asked(lot(rules, fork)))
        self.assertTrue(any(alike(one, ((0, 0), (("a", 0),))) for one in told))

    def test_what_it_answers_in_the_rows_alone_is_what_trees_answer(self):
        looked = more = 0
        for seed in range(150):
            rules = leading_rules(seed, 1 + seed % 5, kinds="ab", roles="rs", somes=2)
            question = some_question(
                seed, atoms=3, unknowns=(0, 1, 2), things=("x",), kinds=("a", "b"), roles=("r", "s"))
            found = asked(lot(rules, question, most=1000))
            for again in range(3):
                rows = some_rows(10 * seed + again, 3, kinds="ab", roles="rs", things="xy")
                told = plain_answers(rows, found)
                world = tree_rows(rules, rows, 5)
                self.assertEqual(set(told), named_heads(world, question), repr((rules, question, rows)))
                looked += 1
                more += told != plain_answers(rows, (question,))
        self.assertGreater(looked, 400)
        self.assertGreater(more, 60)

    def test_most_by_its_name_alone(self):
        self.assertRaises(TypeError, lot, BOSSES, KNOWS, 40)
        self.assertEqual(lot(most=4, question=KNOWS, rules=BOSSES), lot(BOSSES, KNOWS))
        self.assertTrue(unchanged(lot, BOSSES, KNOWS))


class LeastLot(unittest.TestCase):
    def fine(self, questions, told):
        self.assertIs(type(told), tuple)
        self.assertTrue(is_plain(told))
        forms = [least_form(question) for question in questions]
        for one in told:
            self.assertTrue(any(are_alike(one, form) for form in forms))
            self.assertTrue(any(one[0] == q[0] and set(one[1]) <= set(q[1]) for q in questions))
            self.assertTrue(alike(least_form(one), one))
        for question in questions:
            self.assertTrue(any(lies_within(question, one) for one in told))
        for one, other in itertools.permutations(told, 2):
            self.assertFalse(lies_within(one, other))
        self.assertEqual(len(told), len(tops(questions)))

    def test_some(self):
        self.assertEqual(least_lot((KNOWS,)), (KNOWS,))
        self.assertEqual(least_lot((KNOWS, KNOWS)), (KNOWS,))
        self.assertEqual(least_lot((LOOSE,)), (least_form(LOOSE),))
        self.assertEqual(len(least_lot((LOOSE, ((), (("k", 5),)), ((), (("k", "x"),))))), 1)
        two = (((), (("k", "x"),)), ((), (("k", "y"),)))
        self.assertEqual(sorted(least_lot(two)), sorted(two))
        self.assertEqual(least_lot(two + (((), (("k", 3),)),)), (((), (("k", 3),)),))

    def test_of_many(self):
        maker = random.Random(2)
        fewer = 0
        for k in range(120):
            questions = tuple(maker.sample(QUESTIONS, maker.randint(1, 12)))
            told = least_lot(questions)
            self.fine(questions, told)
            self.assertEqual(repr(least_lot(questions)), repr(told))
            fewer += len(told) < len(questions)
        self.assertGreater(fewer, 30)
        self.fine(tuple(QUESTIONS), least_lot(tuple(QUESTIONS)))

    def test_of_any_two_closed_lots(self):
        looked = 0
        for seed, (rules, question) in enumerate(PAIRS):
            other = other_lot(rules, question, seed, 40)
            if other is None or len(other) == 1:
                continue
            one, two = least_lot(asked(lot(rules, question, most=1000))), list(least_lot(asked(other)))
            self.assertEqual(len(one), len(two))
            for question in one:
                like = [form for form in two if alike(form, question)]
                self.assertEqual(len(like), 1)
                two.remove(like[0])
            looked += 1
        self.assertGreater(looked, 40)

    def test_by_name_and_unchanged(self):
        self.assertEqual(least_lot(questions=(KNOWS, LOOSE)), least_lot((KNOWS, LOOSE)))
        self.assertTrue(unchanged(least_lot, (KNOWS, LOOSE)))


class SameLots(unittest.TestCase):
    def test_some(self):
        one, other = ((), (("k", 0),)), ((), (("k", "x"),))
        self.assertIs(same_lots((LOOSE,), (one,)), True)
        self.assertIs(same_lots((one, other), (LOOSE,)), True)
        self.assertIs(same_lots((one,), (other,)), False)
        self.assertIs(same_lots((other,), (one,)), False)
        self.assertIs(same_lots((one, KNOWS), (one,)), False)
        self.assertIs(same_lots((one,), (KNOWS, one)), False)
        self.assertIs(same_lots((KNOWS, one), (one, other, KNOWS)), True)
        self.assertIs(same_lots((), ()), True)
        self.assertIs(same_lots((), (one,)), False)
        self.assertIs(same_lots((one,), ()), False)

    def test_both_ways_round(self):
        maker = random.Random(4)
        counts = [0, 0]
        for k in range(600):
            ones = tuple(maker.sample(QUESTIONS[:12], maker.randint(1, 6)))
            others = tuple(maker.sample(QUESTIONS[:12], maker.randint(1, 6)))
            if k % 2:
                others = ones[::-1] + tuple(q for q in others if any(lies_within(q, one) for one in ones))
            right = all(any(lies_within(q, r) for r in others) for q in ones)
            right = right and all(any(lies_within(q, r) for r in ones) for q in others)
            counts[right] += 1
            self.assertIs(same_lots(ones, others), right)
            self.assertIs(same_lots(others, ones), right)
            self.assertIs(same_lots(ones, least_lot(ones)), True)
        self.assertGreater(min(counts), 100)

    def test_by_name_and_unchanged(self):
        self.assertIs(same_lots(others=(LOOSE,), ones=(LOOSE, KNOWS)), False)
        self.assertTrue(unchanged(same_lots, (LOOSE,), (KNOWS,)))


class Helpers(unittest.TestCase):
    """What lots are found by: a shelf, and a count that a least lot can't have fewer than."""

    def test_a_shelf_is_over_just_what_lies_within_one_of_its_questions(self):
        maker = random.Random(6)
        counts = [0, 0]
        for k in range(150):
            some = maker.sample(QUESTIONS, 6)
            shelf = Shelf()
            for number, question in enumerate(some):
                over = any(lies_within(question, other) for other in some[:number])
                self.assertIs(shelf.offer(number, question), not over)
            for question in maker.sample(QUESTIONS, 10):
                right = any(lies_within(question, other) for other in some)
                counts[right] += 1
                self.assertIs(shelf.is_over(question), right)
            self.assertEqual(sorted(shelf.stock), sorted(some.index(question) for question in tops(some)))
        self.assertGreater(min(counts), 200)

    def test_the_count_is_never_more_than_a_least_lot_has(self):
        reached = 0
        for seed, (rules, question) in enumerate(PAIRS):
            found = list(asked(other_lot(rules, question, seed, 40) or ()))
            many = len(tops(found))
            for again in range(4):
                random.Random(again).shuffle(found)
                tally = Tally(rules, question)
                counts = [tally.count_in(one) for one in found]
                self.assertEqual(counts, sorted(counts))
                self.assertLessEqual(max(counts, default=0), many)
                reached += max(counts, default=0) == many > 2
        self.assertGreater(reached, 40)

    def test_those_that_need_some_of_their_own_are_never_more_than_a_least_lot_has(self):
        reached = 0
        for seed, (rules, question) in enumerate(PAIRS):
            found = list(enumerate(asked(other_lot(rules, question, seed, 40) or ())))
            many = len(tops([one for number, one in found]))
            for again in range(3):
                random.Random(again).shuffle(found)
                self.assertIs(Needs(rules, question).outnumber(many, found), False)
                reached += many > 2 and Needs(rules, question).outnumber(many - 1, found)
        self.assertGreater(reached, 40)

    def test_what_needs_all_its_atoms(self):
        ring = ((), (("r", 0, 1), ("r", 1, 0)))
        needs = Needs(SUB + (("within", ("a",), ("r", 0)),), ring)
        self.assertTrue(needs.needs_all(ring))
        needs = Needs((("along", ("r", 0), ("r", 1)),), ring)
        self.assertFalse(needs.needs_all(ring))
        self.assertTrue(needs.needs_all(((), (("r", 0, 1),))))

    def test_shut_means_shut(self):
        self.assertFalse(is_shut(SUB, [LOOSE]))


if __name__ == "__main__":
    unittest.main()
