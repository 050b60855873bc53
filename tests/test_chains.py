import unittest

from ledquestions.answering import answers, supports
from ledquestions.chains import chain, is_chain
from ledquestions.clashing import clashes
from ledquestions.errors import Clash, NotSure, TooMany
from tests.book_oracles import some_book
from tests.chain_oracles import is_right_chain
from tests.helpers import ODD, changed, refusal, unchanged
from tests.lead_oracles import leading_rules, some_rows
from tests.oracles import is_plain, some_question
from tests.test_answering import BOOK, JUST, KNOWS, MORE, WIDE
from tests.test_trees import GROWING

A, B, R, RB, S, SB, T = ("a",), ("b",), ("r", 0), ("r", 1), ("s", 0), ("s", 1), ("t", 0)
BOOKS = GROWING + [some_book(seed, many=6, somes=4) for seed in range(70)]
BOOKS += [(leading_rules(seed, 6, "ab", "rs"), some_rows(seed, 4, "ab", "rs", "xy")) for seed in range(70)]
QUESTIONS = [
    some_question(seed, atoms=4, unknowns=(0, 1, 2, 3), things=("x",), kinds=("a", "b"), roles=("r", "s")) for seed in range(400)
]
# Each: rules, rows, a question, an answer, a chain.
BY_HAND = (
    ((("within", A, B),), (("a", "x"),), ((0,), (("b", 0),)), ("x",), (((("a", "x"), ()), (("b", "x"), (0, 0))), ((0, "x"),))),
    ((("within", R, B),), (("r", "x", "y"),), ((0,), (("b", 0),)), ("x",), (((("r", "x", "y"), ()), (("b", "x"), (0, 0))), ((0, "x"),))),
    ((("within", RB, B),), (("r", "x", "y"),), ((0,), (("b", 0),)), ("y",), (((("r", "x", "y"), ()), (("b", "y"), (0, 0))), ((0, "y"),))),
    ((("within", A, R),), (("a", "x"),), ((0,), (("r", 0, 1),)), ("x",), (((("a", "x"), ()), (("r", "x", 7), (0, 0))), ((0, "x"), (1, 7)))),
    ((("within", A, RB),), (("a", "x"),), ((0,), (("r", 1, 0),)), ("x",), (((("a", "x"), ()), (("r", 0, "x"), (0, 0))), ((0, "x"), (1, 0)))),
    ((("within", R, SB),), (("r", "x", "y"),), ((), (("s", 4, "x"),)), (), (((("r", "x", "y"), ()), (("s", 3, "x"), (0, 0))), ((4, 3),))),
    ((("within", RB, S),), (("r", "x", "y"),), ((), (("s", "y", 4),)), (), (((("r", "x", "y"), ()), (("s", "y", 0), (0, 0))), ((4, 0),))),
    ((("along", R, S),), (("r", "x", "y"),), ((0, 1), (("s", 0, 1),)), ("x", "y"), (((("r", "x", "y"), ()), (("s", "x", "y"), (0, 0))), ((0, "x"), (1, "y")))),
    ((("along", R, SB),), (("r", "x", "y"),), ((0, 1), (("s", 0, 1),)), ("y", "x"), (((("r", "x", "y"), ()), (("s", "y", "x"), (0, 0))), ((0, "y"), (1, "x")))),
    ((("along", RB, S),), (("r", "x", "y"),), ((0, 1), (("s", 0, 1),)), ("y", "x"), (((("r", "x", "y"), ()), (("s", "y", "x"), (0, 0))), ((0, "y"), (1, "x")))),
    ((("along", RB, SB),), (("r", "x", "y"),), ((0, 1), (("s", 0, 1),)), ("x", "y"), (((("r", "x", "y"), ()), (("s", "x", "y"), (0, 0))), ((0, "x"), (1, "y")))),
    # A line twice, partners of partners, and a number that stands nowhere else.
    (
        (("within", A, R), ("within", RB, A)), (("a", "x"),), ((0, "z"), (("r", 0, 1), ("r", 1, 2), ("a", 2))), ("x", "z"),
        (
            ((("a", "x"), ()), (("a", "x"), ()), (("r", "x", 5), (0, 1)), (("r", "x", 2), (0, 0)), (("a", 5), (1, 2)), (("a", 5), (1, 2)),
             (("r", 5, 0), (0, 5)), (("a", 0), (1, 6))),
            ((0, "x"), (1, 5), (2, 0)),
        ),
    ),
)


class IsChain(unittest.TestCase):
    def judged(self, book, question, answer, thing, right):
        with self.subTest(repr((book, question, answer, thing))[:400]):
            self.assertIs(is_chain(book, question, answer, thing), right)

    def test_by_hand(self):
        for rules, rows, question, answer, thing in BY_HAND:
            self.assertTrue(is_right_chain((rules, rows), question, answer, thing))
            self.judged((rules, rows), question, answer, thing, True)
            self.judged(((), rows), question, answer, thing, False)
            self.judged((rules, ()), question, answer, thing, False)

    def test_rows_alone(self):
        thing = (((("a", "x"), ()),), ((3, "x"),))
        self.judged(((), (("a", "x"),)), ((3,), (("a", 3),)), ("x",), thing, True)
        self.judged(((), (("a", "x"),)), ((), (("a", "x"),)), (), (thing[0], ()), True)
        self.judged(((), (("a", "x"),)), (("y",), (("a", "x"),)), ("y",), (thing[0], ()), True)
        self.judged(((), (("a", "x"),)), (("y",), (("a", "x"),)), ("x",), (thing[0], ()), False)
        self.judged(((), (("a", "y"),)), ((3,), (("a", 3),)), ("x",), thing, False)

    def test_numbers_that_stand_ahead(self):
        rules, rows = (("within", A, R), ("within", A, S), ("within", RB, S)), (("a", "x"), ("a", "y"))
        question = ((), (("r", 0, 1), ("s", 0, 2)))
        for one, other, right in ((0, 1, True), (1, 0, True), (0, 0, False), (10 ** 999, 5, True), (-1, 0, False), (True, 0, False), ("z", 0, False), ("x", 0, False)):
            thing = (((("a", "x"), ()), (("r", "x", one), (0, 0)), (("s", "x", other), (1, 0))), ((0, "x"), (1, one), (2, other)))
            self.judged((rules, rows), question, (), thing, right)
        # Behind it the number may stand, in lines that come of its own one.
        thing = (((("a", "x"), ()), (("r", "x", 1), (0, 0)), (("s", 1, 0), (2, 1))), ((0, 1), (1, 0)))
        self.judged((rules, rows), ((), (("s", 0, 1),)), (), thing, True)
        # A number of a partner that is given twice isn't new any more.
        thing = (((("a", "x"), ()), (("r", "x", 1), (0, 0)), (("r", "x", 1), (0, 0))), ((0, "x"), (1, 1)))
        self.judged((rules, rows), ((), (("r", 0, 1),)), (), thing, False)

    def test_answers_of_names_alone(self):
        rules, rows = (("within", A, R),), (("a", "x"),)
        lines = ((("a", "x"), ()), (("r", "x", 0), (0, 0)))
        question = ((1,), (("r", 0, 1),))
        self.judged((rules, rows), question, (0,), (lines, ((0, "x"), (1, 0))), False)
        self.judged((rules, rows), question, ("x",), (lines, ((0, "x"), (1, 0))), False)
        self.judged((rules, rows), ((0,), (("r", 0, 1),)), ("x",), (lines, ((0, "x"), (1, 0))), True)
        self.judged((rules, rows), ((0,), (("r", 0, 1),)), ["x"], (lines, ((0, "x"), (1, 0))), False)

    def test_other_words_lead_nowhere(self):
        for word in ("apart", "away"):
            rules, rows = ((word, R, S),), (("r", "x", "y"),)
            thing = (((("r", "x", "y"), ()), (("s", "x", "y"), (0, 0))), ((0, "x"), (1, "y")))
            self.judged((rules, rows), ((0, 1), (("s", 0, 1),)), ("x", "y"), thing, False)
        rules = (("within", R, S),)
        self.judged((rules, rows), ((0, 1), (("s", 0, 1),)), ("x", "y"), thing, False)
        thing = (((("a", "x"), ()), (("b", "x"), (0, 0))), ((0, "x"),))
        self.judged(((("within", A, B),), (("a", "x"),)), ((0,), (("b", 0),)), ("x",), thing, True)
        self.judged(((("apart", A, B),), (("a", "x"),)), ((0,), (("b", 0),)), ("x",), thing, False)
        thing = (((("a", "x"), ()), (("r", "x", 0), (0, 0))), ((0, "x"), (1, 0)))
        self.judged(((("apart", A, R),), (("a", "x"),)), ((0,), (("r", 0, 1),)), ("x",), thing, False)

    def test_one_thing_changed(self):
        counts = [0, 0]
        for rules, rows, question, answer, thing in BY_HAND:
            for near in changed(thing):
                right = is_right_chain((rules, rows), question, answer, near)
                counts[right] += 1
                self.assertIs(is_chain((rules, rows), question, answer, near), right, repr(near)[:300])
            lines, match = thing
            for k in range(len(lines) - 1):
                for near in ((lines[:k] + (lines[k + 1], lines[k]) + lines[k + 2:], match), (lines[:k] + lines[k + 1:], match)):
                    right = is_right_chain((rules, rows), question, answer, near)
                    self.assertIs(is_chain((rules, rows), question, answer, near), right)
            for near in changed(answer):
                self.assertIs(is_chain((rules, rows), question, near, thing), False, repr(near))
        self.assertGreater(counts[0], 4000)
        self.assertGreater(counts[1], 10)

    def test_odd_things(self):
        rules, rows, question, answer, thing = BY_HAND[3]
        for odd in ODD:
            for near in (
                odd, (odd, ()), ((), odd), (odd, odd), (thing[0], odd), (odd, thing[1]), ((odd,), ()), (thing[0] + (odd,), thing[1]),
                (((("a", "x"), odd),), ()), (((odd, ()),), ()), (thing[0][:1] + ((("r", "x", 7), (odd, 0)),), thing[1]),
                (thing[0][:1] + ((("r", "x", 7), (0, odd)),), thing[1]), (thing[0], (odd, (1, 7))), (thing[0], ((0, odd), (1, 7))),
                (thing[0], ((0, "x"), (odd, 7))), (thing[0][:1] + ((("r", "x", odd), (0, 0)),), ((0, "x"), (1, odd))),
            ):
                right = is_right_chain((rules, rows), question, answer, near)
                self.assertIs(is_chain((rules, rows), question, answer, near), right, repr(near)[:200])
            self.assertIs(is_chain((rules, rows), question, odd, thing), False)
            self.assertIs(is_chain((rules, rows), ((), question[1]), odd, thing), repr(odd) == "()")
            self.assertTrue(unchanged(is_chain, (rules, rows), question, odd, odd))

    def test_by_name(self):
        rules, rows, question, answer, thing = BY_HAND[3]
        self.assertIs(is_chain(thing=thing, answer=answer, question=question, book=(rules, rows)), True)


class Chain(unittest.TestCase):
    def test_of_each_answer(self):
        looked, lengths = 0, set()
        for k, question in enumerate(QUESTIONS):
            book = BOOKS[k % len(BOOKS)]
            if refusal(answers, book, question) is not None:
                continue
            for answer in answers(book, question):
                told = chain(book, question, answer)
                with self.subTest(repr((book, question, answer, told))):
                    self.assertIs(is_chain(book, question, answer, told), True)
                    self.assertTrue(is_right_chain(book, question, answer, told))
                    self.assertTrue(is_plain(told))
                    self.assertEqual(repr(chain(book, question, answer)), repr(told))
                looked += 1
                lengths.add(len(told[0]))
        self.assertGreater(looked, 100)
        self.assertGreater(len(lengths), 5)

    def test_by_hand(self):
        for rules, rows, question, answer, thing in BY_HAND:
            self.assertIs(is_chain((rules, rows), question, answer, chain((rules, rows), question, answer)), True)
        lines, match = chain(BOOK, KNOWS, ("ann",))
        self.assertEqual(lines[0], (("boss", "ann"), ()))
        self.assertEqual({line[0] for line, why in lines}, {"boss", "leads", "knows", "staff"})

    def test_terms_that_become_one(self):
        rules = (("within", A, R), ("within", RB, B), ("along", R, S))
        question = ((0, 1), (("r", 0, 2), ("s", 1, 2), ("b", 2), ("r", "x", 2)))
        told = chain((rules, (("a", "x"),)), question, ("x", "x"))
        self.assertIs(is_chain((rules, (("a", "x"),)), question, ("x", "x"), told), True)
        self.assertEqual(dict(told[1])[0], "x")

    def test_each_support_alone_has_one(self):
        looked = 0
        for k, question in enumerate(QUESTIONS[:200]):
            book = BOOKS[k % len(BOOKS)]
            if refusal(answers, book, question) is not None:
                continue
            for answer in answers(book, question):
                for rows in supports(book, question, answer):
                    told = chain((book[0], rows), question, answer)
                    self.assertIs(is_chain(book, question, answer, told), True)
                    self.assertIs(is_chain((book[0], rows), question, answer, told), True)
                    for row in rows:
                        fewer = tuple(other for other in rows if other != row)
                        self.assertIs(type(refusal(chain, (book[0], fewer), question, answer)), NotSure)
                        looked += 1
        self.assertGreater(looked, 50)

    def test_refusals(self):
        clashing = (BOOK[0], (("boss", "ann"), ("intern", "ann")))
        both = (MORE + (("apart", ("no",), ("no",)),), (("no", "x"),))
        for thing in ODD + changed(("ann",)) + [("cid",), ("zoe",), "ann", ["ann"], ("ann", "ann"), (0,)]:
            self.assertIs(type(refusal(chain, BOOK, KNOWS, thing)), NotSure, repr(thing)[:200])
            told = refusal(chain, clashing, KNOWS, thing)
            self.assertIs(type(told), Clash)
            self.assertEqual(vars(told), {"rows": clashes(clashing)[0]})
            self.assertIs(type(refusal(chain, (MORE, ()), WIDE, thing)), TooMany)
            self.assertIs(type(refusal(chain, both, WIDE, thing)), Clash)
            self.assertTrue(unchanged(chain, BOOK, KNOWS, thing))
        self.assertEqual(vars(refusal(chain, BOOK, KNOWS, None)), {})
        book = (JUST, (("ha", "x"), ("kb", "y")))
        self.assertIs(is_chain(book, WIDE, ("y", "x"), chain(book, WIDE, ("y", "x"))), True)

    def test_by_name(self):
        self.assertEqual(chain(answer=("ann",), question=KNOWS, book=BOOK), chain(BOOK, KNOWS, ("ann",)))
        self.assertTrue(unchanged(chain, BOOK, KNOWS, ("ann",)))


if __name__ == "__main__":
    unittest.main()
