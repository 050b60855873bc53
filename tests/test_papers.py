import unittest

from ledquestions.answering import answers
from ledquestions.chains import chain
from ledquestions.clashing import clashes
from ledquestions.errors import Clash, TooMany
from ledquestions.folding import world
from ledquestions.papers import answer_paper, is_answer_paper
from tests.chain_oracles import is_right_paper_of
from tests.helpers import ODD, changed, refusal, unchanged
from tests.oracles import is_plain
from tests.test_answering import BOOK, JUST, KNOWS, MORE, WIDE
from tests.test_chains import BOOKS, QUESTIONS

SMALL = ((("within", ("a",), ("r", 0)), ("apart", ("a",), ("b",))), (("a", "x"), ("r", "y", "x")))
LEADERS = ((0,), (("r", 0, 1),))
# An answer paper made by hand.
ANN = ((("a", "x"), ()), (("r", "x", 9), (0, 0)))
PAPER = (
    ((("x",), (ANN, ((0, "x"), (1, 9)))), (("y",), (((("r", "y", "x"), ()),), ((0, "y"), (1, "x"))))),
    (("r", "x", 4), ("a", "x"), ("b", "z"), ("r", "y", "x"), ("b", 4)),
)


class IsAnswerPaper(unittest.TestCase):
    def test_by_hand(self):
        self.assertTrue(is_right_paper_of(SMALL, LEADERS, PAPER))
        self.assertIs(is_answer_paper(SMALL, LEADERS, PAPER), True)
        self.assertIs(is_answer_paper(((), ()), LEADERS, ((), ())), True)
        self.assertIs(is_answer_paper(((), ()), LEADERS, ((), (("a", "x"),))), True)
        self.assertIs(is_answer_paper(((), ()), LEADERS, ((), (("r", "x", 0),))), False)
        self.assertIs(is_answer_paper(((), ()), ((), LEADERS[1]), ((), (("r", 1, 0),))), False)
        self.assertIs(is_answer_paper(((), ()), LEADERS, ((), (("r", 1, 0),))), True)

    def test_wrong_ones(self):
        chains, lines = PAPER
        for near in (
            (chains[:1], lines), (chains[1:], lines), ((), lines), (chains[::-1], lines), (chains + chains[1:], lines),
            (chains, lines + (("r", "z", 0),)), (chains, lines[1:]), (chains, lines[:1] + lines[2:]), (chains, lines + (("b", "x"),)),
            (chains, lines[:3] + lines[4:]), (chains, lines + lines[:1]), (chains, lines + (("b", True),)), (chains, lines + (("r", -1, 0),)),
            (list(chains), lines), (chains, list(lines)), [chains, lines], (chains, lines, ()), (chains,), (dict(chains), lines),
            (((("x",), chains[1][1]), chains[1]), lines),
        ):
            self.assertFalse(is_right_paper_of(SMALL, LEADERS, near))
            self.assertIs(is_answer_paper(SMALL, LEADERS, near), False, repr(near))
        for near in (
            (chains, lines + (("b", "y"),)), (chains, lines[::-1]), (chains, lines + (("r", 8, 7),)), (chains, lines + (("r", "x", "x"),)),
            (chains, lines + (("more", "zoe"),)),
        ):
            self.assertTrue(is_right_paper_of(SMALL, LEADERS, near))
            self.assertIs(is_answer_paper(SMALL, LEADERS, near), True, repr(near))

    def test_one_thing_changed(self):
        counts = [0, 0]
        for near in changed(PAPER):
            right = is_right_paper_of(SMALL, LEADERS, near)
            counts[right] += 1
            self.assertIs(is_answer_paper(SMALL, LEADERS, near), right, repr(near)[:300])
        self.assertGreater(counts[0], 1000)
        self.assertGreater(counts[1], 5)

    def test_of_another_book_or_question(self):
        self.assertIs(is_answer_paper((SMALL[0], SMALL[1][:1]), LEADERS, PAPER), False)
        self.assertIs(is_answer_paper(((), SMALL[1]), LEADERS, PAPER), False)
        self.assertIs(is_answer_paper(SMALL, ((1,), LEADERS[1]), PAPER), False)
        self.assertIs(is_answer_paper(SMALL, ((0,), (("r", 0, 2),)), PAPER), False)
        self.assertIs(is_answer_paper((SMALL[0][:1] + (("apart", ("r", 0), ("r", 1)),), SMALL[1]), LEADERS, PAPER), False)

    def test_odd_things(self):
        chains, lines = PAPER
        for thing in ODD:
            for near in (thing, (thing, lines), (chains, thing), (thing, thing), ((thing,), lines), (chains, (thing,)),
                         (((thing, chains[0][1]), chains[1]), lines), (((("x",), thing), chains[1]), lines), PAPER + (thing,)):
                self.assertIs(is_answer_paper(SMALL, LEADERS, near), False, repr(near)[:200])
            self.assertTrue(unchanged(is_answer_paper, SMALL, LEADERS, thing))

    def test_by_name(self):
        self.assertIs(is_answer_paper(thing=PAPER, question=LEADERS, book=SMALL), True)


class AnswerPaper(unittest.TestCase):
    def test_many(self):
        sizes = {}
        for k, question in enumerate(QUESTIONS[:250]):
            book = BOOKS[k % len(BOOKS)]
            if refusal(answers, book, question) is not None:
                self.assertIs(type(refusal(answer_paper, book, question)), TooMany)
                continue
            told = answer_paper(book, question)
            with self.subTest(repr((book, question))):
                self.assertIs(is_answer_paper(book, question, told), True)
                self.assertTrue(is_right_paper_of(book, question, told))
                self.assertTrue(is_plain(told))
                self.assertEqual(tuple(pair[0] for pair in told[0]), answers(book, question))
                self.assertEqual(repr(answer_paper(book, question)), repr(told))
            sizes[len(told[0])] = sizes.get(len(told[0]), 0) + 1
        self.assertGreater(min(sizes[0], sizes[1]), 30)

    def test_put_together_by_hand(self):
        for k, question in enumerate(QUESTIONS[:60]):
            book = BOOKS[k % len(BOOKS)]
            if refusal(answers, book, question) is None:
                made = tuple((answer, chain(book, question, answer)) for answer in answers(book, question))
                self.assertIs(is_answer_paper(book, question, (made, world(book))), True)

    def test_very_many_answers(self):
        book = ((("within", ("h",), ("k",)),), tuple(("h", name) for name in "abcdefghijkl"))
        question = ((0, 1, 2), (("k", 0), ("k", 1), ("k", 2)))
        told = answer_paper(book, question)
        self.assertEqual(len(told[0]), 12 ** 3)
        self.assertIs(is_answer_paper(book, question, told), True)

    def test_refusals(self):
        clashing = (BOOK[0], (("boss", "ann"), ("intern", "ann")))
        told = refusal(answer_paper, clashing, KNOWS)
        self.assertIs(type(told), Clash)
        self.assertEqual(vars(told), {"rows": clashes(clashing)[0]})
        self.assertIs(type(refusal(answer_paper, (MORE, ()), WIDE)), TooMany)
        self.assertIs(type(refusal(answer_paper, (MORE + (("apart", ("no",), ("no",)),), (("no", "x"),)), WIDE)), Clash)
        self.assertIs(is_answer_paper((JUST, ()), WIDE, answer_paper((JUST, ()), WIDE)), True)

    def test_by_name(self):
        self.assertEqual(answer_paper(question=KNOWS, book=BOOK), answer_paper(BOOK, KNOWS))
        self.assertTrue(unchanged(answer_paper, BOOK, KNOWS))


if __name__ == "__main__":
    unittest.main()
