"""What is promised over the whole program."""

import importlib
import inspect
import random
import unittest

from ledquestions.answering import answers, supports
from ledquestions.bounds import ASKED, LOT, ROWS, RULES, THINGS
from ledquestions.chains import chain, is_chain
from ledquestions.clashing import clash, clashes, is_clash
from ledquestions.desks import Desk
from ledquestions.errors import Broken, NotSure, TooMany
from ledquestions.folding import world
from ledquestions.lots import least_lot, lot, right_lot
from ledquestions.papers import answer_paper, is_answer_paper
from ledquestions.plain import plain_answers
from ledquestions.texts import book_text, question_text, read_book, read_question
from ledquestions.trees import is_tree, tree
from ledquestions.worlds import holds_book, world_answers
from tests.book_oracles import some_book
from tests.helpers import refusal
from tests.lead_oracles import leading_rules, other_lot, some_rows
from tests.oracles import some_question
from tests.test_answering import JUST, MORE, WIDE, rename_rules, renamed

# Each module's functions with the names of what they are handed; behind a star what is handed in by its name alone.
INTERFACE = {
    "books": "look_row(thing) look_rule(thing) look_rules(thing) look_rows(thing) look_book(thing) sorts_of(rows,thing) things_of(rows)",
    "ways": "is_way(rules,one,other,thing) is_turn_way(rules,one,other,thing) way(rules,one,other) turn_way(rules,one,other) "
            "above(rules,sort) turns_above(rules,turn)",
    "voids": "is_void_paper(rules,sort,paper) void_paper(rules,sort) voids(rules)",
    "questions": "look_question(thing) is_short(question)",
    "likeness": "is_likeness(q,r,thing) likeness(q,r) lies_within(r,q) alike(q,r) least_form(q)",
    "shorts": "look_shorts(thing) written_out(shorts,question)",
    "leading": "led(rules,question,step) steps(rules,question)",
    "lots": "right_lot(rules,question,thing) lot(rules,question,*most) least_lot(questions) same_lots(ones,others)",
    "plain": "is_match(rows,question,match) matches(rows,question) plain_answers(rows,questions)",
    "answering": "answers(book,question,*shorts) supports(book,question,answer)",
    "worlds": "is_told_world(thing) keeps(rules,lines) breach(rules,lines) world_answers(lines,question) holds_book(book,lines)",
    "trees": "tree(book,*depth) is_tree(book,depth,thing)",
    "folding": "world(book,*many)",
    "chains": "is_chain(book,question,answer,thing) chain(book,question,answer)",
    "papers": "is_answer_paper(book,question,thing) answer_paper(book,question)",
    "clashing": "is_clash(book,thing) clash(book) clashes(book)",
    "texts": "book_text(book) read_book(text) question_text(question) read_question(text)",
}
METHODS = (
    "put(row) drop(row) learn(rule) forget(rule) ask(name,question) unask(name) batch(deeds) back() book() asked() answers(name) "
    "paper(name) log()"
)
BOOKS = [some_book(seed, many=6, somes=3, things="xyz", rows=5) for seed in range(60)]
BOOKS += [(leading_rules(seed, 5, "ab", "rs"), some_rows(seed, 5, "ab", "rs", "xyz")) for seed in range(60)]
QUESTIONS = [
    some_question(seed, atoms=4, unknowns=(0, 1, 2, 3), things=("x",), kinds=("a", "b"), roles=("r", "s")) for seed in range(120)
]


def handed(call):
    found = inspect.signature(call).parameters.values()
    return ",".join(("*" if one.kind is one.KEYWORD_ONLY else "") + one.name for one in found if one.name != "self")


def great_book(seed):
    """A book of ROWS rows over THINGS things, with many rules."""
    maker = random.Random(seed)
    things = [chr(97 + k) * 3 for k in range(THINGS)]
    every = [(kind, thing) for kind in "abc" for thing in things]
    every += [(role, one, other) for role in "rst" for one in things for other in things]
    rows = [("a", thing) for thing in things]
    rows = tuple(sorted(rows + maker.sample([row for row in every if row not in rows], ROWS - THINGS)))
    return leading_rules(seed, 8, "abc", "rst"), rows


class Interface(unittest.TestCase):
    def test_names_and_arguments(self):
        for module, told in INTERFACE.items():
            found = importlib.import_module("ledquestions." + module)
            for one in told.split():
                name, rest = one.rstrip(")").split("(")
                self.assertEqual(handed(getattr(found, name)), rest, one)
        for one in METHODS.split():
            name, rest = one.rstrip(")").split("(")
            self.assertEqual(handed(vars(Desk)[name]), rest, one)
        self.assertEqual(handed(Desk), "*rules,*rows")


class Whole(unittest.TestCase):
    def test_one_answer_four_ways(self):
        looked = 0
        for seed, (book, question) in enumerate(zip(BOOKS, QUESTIONS)):
            if refusal(answers, book, question) is not None:
                continue
            told = answers(book, question)
            paper = answer_paper(book, question)
            with self.subTest(repr((book, question))):
                self.assertEqual(world_answers(world(book), question), told)
                self.assertEqual(tuple(pair[0] for pair in paper[0]), told)
                self.assertEqual(world_answers(paper[1], question), told)
                self.assertIs(is_answer_paper(book, question, paper), True)
                for answer, links in paper[0]:
                    self.assertIs(is_chain(book, question, answer, links), True)
                found = lot(book[0], question)
                self.assertIs(right_lot(book[0], question, found), True)
                self.assertEqual(plain_answers(book[1], least_lot(tuple(one[0] for one in found))), told)
                # A lot that its judge lets by is complete, whoever made it.
                other = other_lot(book[0], question, seed, 40)
                if other is not None:
                    self.assertIs(right_lot(book[0], question, other), True)
                    self.assertEqual(plain_answers(book[1], tuple(one[0] for one in other)), told)
            looked += bool(told)
        self.assertGreater(looked, 25)

    def test_a_world_or_a_paper_of_why_not(self):
        counts = [0, 0]
        for seed in range(120):
            rules = some_book(seed)[0] + (("apart", ("a",), ("b",)),)
            book = (tuple(dict.fromkeys(rules)), some_rows(seed, 5, "ab", "rs", "xyz"))
            paper = clash(book)
            counts[paper is None] += 1
            if paper is None:
                self.assertIs(holds_book(book, world(book)), True)
                self.assertIs(is_tree(book, 2, tree(book, depth=2)), True)
                self.assertEqual(clashes(book), ())
            else:
                self.assertIs(is_clash(book, paper), True)
                for rows in clashes(book):
                    self.assertIsNotNone(clash((book[0], rows)))
                    self.assertTrue(all(clash((book[0], rows[:k] + rows[k + 1:])) is None for k in range(len(rows))))
        self.assertGreater(min(counts), 25)

    def test_other_names_throughout(self):
        names = {"a": "within", "b": "row", "r": "then", "s": "rule", "x": "zz", "y": "yy", "z": "aa"}
        for (rules, rows), question in list(zip(BOOKS, QUESTIONS))[::3]:
            if refusal(answers, (rules, rows), question) is not None:
                continue
            book = (rename_rules(rules, names), tuple(sorted(renamed(rows, names))))
            asked = renamed(question, names)
            told = tuple(sorted(renamed(answers((rules, rows), question), names)))
            self.assertEqual(answers(book, asked), told)
            self.assertEqual(tuple(pair[0] for pair in answer_paper(book, asked)[0]), told)
            for answer in answers((rules, rows), question):
                right = renamed(supports((rules, rows), question, answer), names)
                self.assertEqual(supports(book, asked, renamed(answer, names)), tuple(sorted(tuple(sorted(some)) for some in right)))

    def test_texts_and_back(self):
        for book, question in zip(BOOKS, QUESTIONS):
            self.assertEqual(read_book(book_text(book)), book)
            self.assertEqual(read_question(question_text(question)), question)

    def test_edits_of_names_that_nobody_bears(self):
        for book, question in list(zip(BOOKS, QUESTIONS))[::4]:
            if refusal(answers, book, question) is not None:
                continue
            desk = Desk(rules=book[0], rows=book[1])
            desk.ask("who", question)
            told = desk.answers("who")
            for deed in (
                ("put", ("far", "x")), ("put", ("off", "x", "w")), ("learn", ("within", ("far",), ("off", 1))),
                ("learn", ("along", ("off", 0), ("by", 1))), ("learn", ("apart", ("by", 0), ("far",))), ("drop", ("far", "x")),
            ):
                if refusal(answers, (desk.book()[0] + deed[1:], desk.book()[1]), question) is not None and deed[0] == "learn":
                    continue
                self.assertEqual(desk.batch((deed,)), ())
                self.assertEqual(desk.answers("who"), told)

    def test_great_books(self):
        looked = 0
        for seed in range(6):
            book = great_book(seed)
            self.assertEqual((len(book[1]), len({thing for row in book[1] for thing in row[1:]})), (ROWS, THINGS))
            for again in range(5):
                question = some_question(
                    10 * seed + again, atoms=3, unknowns=(0, 1, 2), things=("aaa",), kinds=("a", "b", "c"), roles=("r", "s", "t"), heads=2)
                if refusal(answers, book, question) is not None:
                    continue
                told = answers(book, question)
                self.assertEqual(world_answers(world(book, many=3), question), told)
                for answer in told[:3]:
                    self.assertIs(is_chain(book, question, answer, chain(book, question, answer)), True)
                    for rows in supports(book, question, answer)[:3]:
                        self.assertIn(answer, answers((book[0], rows), question))
                looked += bool(told)
        self.assertGreater(looked, 10)

    def test_as_many_rules_as_may_be(self):
        kinds = [chr(97 + k) * 2 for k in range(RULES + 1)]
        rules = tuple(("within", (one,), (other,)) for one, other in zip(kinds, kinds[1:]))
        book = (rules, ((kinds[0], "x"), (kinds[20], "y")))
        question = ((0,), ((kinds[-1], 0),))
        self.assertEqual(answers(book, question), (("x",), ("y",)))
        self.assertEqual(len(chain(book, question, ("x",))[0]), RULES + 1)
        self.assertEqual(len(lot(rules, question)), RULES + 1)

    def test_just_so_many_questions_and_one_more(self):
        rows = (("ha", "x"), ("ka", "y"))
        just, more = (JUST, rows), (MORE, rows)
        answer = ("y", "x")
        self.assertEqual(len(least_lot(tuple(one[0] for one in lot(JUST, WIDE)))), LOT)
        self.assertEqual(answers(just, WIDE), (answer,))
        self.assertEqual(supports(just, WIDE, answer), (rows,))
        self.assertIs(is_chain(just, WIDE, answer, chain(just, WIDE, answer)), True)
        self.assertIs(is_answer_paper(just, WIDE, answer_paper(just, WIDE)), True)
        for call, *things in ((answers, WIDE), (supports, WIDE, answer), (chain, WIDE, answer), (answer_paper, WIDE)):
            told = refusal(call, more, *things)
            self.assertIs(type(told), TooMany)
            self.assertEqual(vars(told), {})
        desk = Desk(rules=JUST, rows=rows)
        self.assertEqual(desk.ask("w", WIDE), (("w", (answer,), ()),))
        self.assertIs(is_answer_paper(just, WIDE, desk.paper("w")), True)
        self.assertIs(type(refusal(desk.learn, ("within", ("kz",), ("k",)))), TooMany)
        self.assertIs(type(refusal(Desk(rules=MORE, rows=rows).ask, "w", WIDE)), TooMany)

    def test_a_desk_as_full_as_may_be(self):
        rules, rows = great_book(3)
        desk = Desk(rules=rules, rows=rows)
        questions = [question for question in QUESTIONS if refusal(answers, (rules, rows), question) is None][:ASKED]
        desk.batch(tuple(("ask", chr(97 + k), question) for k, question in enumerate(questions)))
        self.assertEqual(len(desk.asked()), ASKED)
        desk.drop(rows[0])
        desk.put(rows[0])
        for name, question in desk.asked():
            self.assertEqual(desk.answers(name), answers((rules, rows), question))
        told = refusal(desk.batch, (("drop", rows[0]), ("put", rows[1])))
        self.assertEqual((type(told), told.number), (Broken, 1))

    def test_no_answer_has_no_chain(self):
        for book, question in list(zip(BOOKS, QUESTIONS))[::5]:
            if refusal(answers, book, question) is None and len(question[0]) == 1:
                for thing in ("x", "y", "z", "w"):
                    if (thing,) not in answers(book, question):
                        self.assertIs(type(refusal(chain, book, question, (thing,))), NotSure)
                        self.assertIs(type(refusal(supports, book, question, (thing,))), NotSure)


if __name__ == "__main__":
    unittest.main()
