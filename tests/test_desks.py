import copy
import itertools
import random
import unittest

from ledquestions import errors
from ledquestions.answering import answers
from ledquestions.bounds import ASKED, DEEDS, LINES, ROWS, RULES, SOMES, THINGS
from ledquestions.clashing import clashes
from ledquestions.desks import Desk
from ledquestions.errors import (
    AskError, Broken, Clash, Long, Missing, NoDeed, NoDeeds, NoName, NoQuestion, NoRow, NoRows, NoRule, NoRules, Nothing, TooGreat,
    TooMany, Twice,
)
from ledquestions.papers import is_answer_paper
from ledquestions.texts import book_text
from tests.chain_oracles import SlowDesk
from tests.helpers import ODD, changed, refusal
from tests.oracles import is_plain, some_question
from tests.test_answering import JUST, KNOWS, MORE, WIDE

BOSS, LEADS, LED, KNOWN, STAFF, INTERN = ("boss",), ("leads", 0), ("leads", 1), ("knows", 0), ("staff",), ("intern",)
RULES_HERE = (("within", BOSS, LEADS), ("along", LEADS, KNOWN), ("within", LED, STAFF), ("apart", BOSS, INTERN))
ROWS_HERE = (("boss", "ann"), ("leads", "bob", "cid"))
LEADERS = ((0,), (("leads", 0, 1),))
WORDS = ("put", "drop", "learn", "forget", "ask", "unask")


def desk():
    made = Desk(rules=RULES_HERE, rows=ROWS_HERE)
    made.ask("who", KNOWS)
    made.ask("lead", LEADERS)
    return made


def shown(made):
    """All that a desk shows, but for the log."""
    told = [(name, made.answers(name)) for name, question in made.asked()]
    return repr((made.book(), made.asked(), told, len(made), str(made)))


class Making(unittest.TestCase):
    def test_empty_and_filled(self):
        self.assertEqual((Desk().book(), Desk().asked(), len(Desk()), str(Desk()), Desk().log()), (((), ()), (), 0, "", []))
        made = Desk(rows=ROWS_HERE, rules=RULES_HERE)
        self.assertEqual((made.book(), made.asked(), len(made), made.log()), ((RULES_HERE, ROWS_HERE), (), 0, []))
        self.assertEqual(str(made), book_text((RULES_HERE, ROWS_HERE)))
        self.assertRaises(TypeError, Desk, RULES_HERE, ROWS_HERE)

    def test_refusals(self):
        clashing = (("boss", "ann"), ("intern", "ann"))
        for rules, rows, kind, fields in (
            (None, (), NoRules, {"number": -1}), (RULES_HERE[:1] * 2, None, NoRules, {"number": 1}), ([], [], NoRules, {"number": -1}),
            (RULES_HERE, ROWS_HERE[::-1], NoRows, {}), (RULES_HERE, [], NoRows, {}), (RULES_HERE, clashing, Clash, {"rows": clashing}),
            (RULES_HERE, clashing[::-1], NoRows, {}), (RULES_HERE + (0,), clashing, NoRules, {"number": 4}),
        ):
            told = refusal(Desk, rules=rules, rows=rows)
            self.assertIs(type(told), kind)
            self.assertEqual(vars(told), fields)
        for thing in ODD:
            self.assertIs(type(refusal(Desk, rules=thing)), type(None) if repr(thing) == "()" else NoRules)
            self.assertIs(type(refusal(Desk, rows=thing)), type(None) if repr(thing) == "()" else NoRows)


class Deeds(unittest.TestCase):
    def refused(self, made, kind, word, *things, **fields):
        """Refused with just this class, and nothing is changed."""
        before, log = shown(made), made.log()
        kept = copy.deepcopy(things)
        told = refusal(getattr(made, word), *things)
        with self.subTest(repr((kind, word, things))[:300]):
            self.assertIs(type(told), kind)
            self.assertEqual(vars(told), fields)
            self.assertEqual(shown(made), before)
            self.assertEqual(made.log(), (log + [("in", word), ("out", word, False)])[-LINES:])
            self.assertEqual(repr(kept), repr(things))

    def test_put_and_drop(self):
        made = desk()
        self.assertEqual(made.answers("who"), (("ann",), ("bob",)))
        self.assertEqual(made.put(("boss", "zoe")), (("lead", (("zoe",),), ()), ("who", (("zoe",),), ())))
        self.assertEqual(made.put(("staff", "zoe")), ())
        self.assertEqual(made.put(("knows", "dan", "zoe")), (("who", (("dan",),), ()),))
        self.assertEqual(made.book()[1], (("boss", "ann"), ("boss", "zoe"), ("knows", "dan", "zoe"), ("leads", "bob", "cid"), ("staff", "zoe")))
        self.assertEqual(made.drop(("staff", "zoe")), (("who", (), (("dan",),)),))
        self.assertEqual(made.drop(("boss", "zoe")), (("lead", (), (("zoe",),)), ("who", (), (("zoe",),))))
        self.assertEqual(made.drop(("knows", "dan", "zoe")), ())
        self.assertEqual(made.book(), (RULES_HERE, ROWS_HERE))
        self.assertEqual(len(made), 8)

    def test_put_refused(self):
        made = desk()
        for thing in ODD + changed(("boss", "ann"))[:200]:
            if refusal(Desk, rows=(thing,)) is not None:
                self.refused(made, NoRow, "put", thing)
        self.refused(made, Twice, "put", ("boss", "ann"))
        self.refused(made, Clash, "put", ("intern", "ann"), rows=(("boss", "ann"), ("intern", "ann")))
        alone = Desk(rules=(("away", LEADS, LED),))
        self.refused(alone, Clash, "put", ("leads", "ann", "ann"), rows=(("leads", "ann", "ann"),))

    def test_drop_and_forget_refused(self):
        made = desk()
        for thing in ODD + changed(("boss", "ann"))[:200]:
            if repr(thing) not in map(repr, ROWS_HERE):
                self.refused(made, Missing, "drop", thing)
        self.refused(made, Missing, "drop", ("boss", "bob"))
        self.refused(made, Missing, "drop", ["boss", "ann"])
        for thing in ODD + changed(RULES_HERE[0]):
            if repr(thing) not in map(repr, RULES_HERE):
                self.refused(made, Missing, "forget", thing)
        self.refused(made, Missing, "forget", ("within", BOSS, ("leads", False)))
        self.refused(made, Missing, "forget", ("within", BOSS, STAFF))

    def test_learn_and_forget(self):
        made = desk()
        rule = ("within", ("leads", 1), BOSS)
        self.assertEqual(made.learn(rule), (("lead", (("cid",),), ()), ("who", (("cid",),), ())))
        self.assertEqual(made.book()[0], RULES_HERE + (rule,))
        self.assertEqual(made.forget(RULES_HERE[2]), (("who", (), (("ann",), ("bob",), ("cid",))),))
        self.assertEqual(made.book()[0], RULES_HERE[:2] + RULES_HERE[3:] + (rule,))
        self.assertEqual(made.learn(RULES_HERE[2]), (("who", (("ann",), ("bob",), ("cid",)), ()),))
        self.assertEqual(made.book()[0], RULES_HERE[:2] + RULES_HERE[3:] + (rule, RULES_HERE[2]))
        self.assertEqual(made.learn(("away", LEADS, LED)), ())
        self.assertEqual(made.forget(("away", LEADS, LED)), ())

    def test_learn_refused(self):
        made = desk()
        for thing in ODD + changed(RULES_HERE[0]):
            if refusal(Desk, rules=(thing,)) is not None:
                self.refused(made, NoRule, "learn", thing)
        self.refused(made, Twice, "learn", RULES_HERE[1])
        self.refused(made, Clash, "learn", ("apart", BOSS, BOSS), rows=(("boss", "ann"),))
        self.refused(made, NoRule, "learn", ("within", BOSS, ("leads", False)))

    def test_ask_and_unask(self):
        made = Desk(rules=RULES_HERE, rows=ROWS_HERE)
        self.assertEqual(made.ask("who", KNOWS), (("who", (("ann",), ("bob",)), ()),))
        self.assertEqual(made.ask("none", ((), (("boss", "bob"),))), ())
        self.assertEqual(made.ask("one", ((), (("boss", 7),))), (("one", ((),), ()),))
        self.assertEqual(made.asked(), (("none", ((), (("boss", "bob"),))), ("one", ((), (("boss", 7),))), ("who", KNOWS)))
        self.assertEqual(made.unask("none"), ())
        self.assertEqual(made.unask("one"), (("one", (), ((),)),))
        self.assertEqual(made.unask("who"), (("who", (), (("ann",), ("bob",))),))
        self.assertEqual(made.asked(), ())

    def test_ask_and_unask_refused(self):
        made = desk()
        long = ((0,), (("r", 0, 1), ("r", 2, 3), ("k", 4)))
        for thing in ODD:
            if thing not in ("a", "within"):
                self.refused(made, NoName, "ask", thing, KNOWS)
                self.refused(made, NoName, "ask", thing, None)
            self.refused(made, NoQuestion, "ask", "new", thing)
            self.refused(made, Twice, "ask", "who", thing)
            self.refused(made, Missing, "unask", thing)
        self.refused(made, Twice, "ask", "who", KNOWS)
        self.refused(made, NoQuestion, "ask", "new", long)
        for near in changed(LEADERS)[:300]:
            if refusal(answers, ((), ()), near) is not None:
                self.refused(made, NoQuestion, "ask", "new", near)
        self.refused(made, Missing, "unask", "new")

    def test_by_name(self):
        made = Desk()
        made.put(row=("boss", "ann"))
        made.learn(rule=RULES_HERE[0])
        self.assertEqual(made.ask(question=LEADERS, name="who"), (("who", (("ann",),), ()),))
        self.assertEqual(made.answers(name="who"), (("ann",),))
        self.assertIs(is_answer_paper(made.book(), LEADERS, made.paper(name="who")), True)
        made.drop(row=("boss", "ann"))
        made.forget(rule=RULES_HERE[0])
        made.unask(name="who")
        made.batch(deeds=())
        self.assertEqual(len(made), 7)


class Bounds(unittest.TestCase):
    def test_rows(self):
        rows = tuple(sorted(("r", one, other) for one in "abcdefg" for other in "abcdefg"))
        made = Desk(rows=rows[:ROWS - 1])
        made.put(rows[ROWS - 1])
        self.assertIs(type(refusal(made.put, rows[ROWS])), TooGreat)
        self.assertIs(type(refusal(made.put, rows[0])), Twice)
        self.assertIs(type(refusal(made.put, ("r", "a", "A"))), NoRow)
        made.drop(rows[0])
        made.put(rows[ROWS])
        self.assertEqual(len(made.book()[1]), ROWS)
        self.assertEqual(len(made), 3)

    def test_things(self):
        rows = tuple(("k", chr(97 + k)) for k in range(THINGS))
        made = Desk(rows=rows[1:])
        made.put(rows[0])
        self.assertIs(type(refusal(made.put, ("k", "z"))), TooGreat)
        self.assertIs(type(refusal(made.put, ("r", "a", "z"))), TooGreat)
        made.put(("r", "a", "b"))
        made.drop(rows[2])
        self.assertIs(type(refusal(made.put, ("r", "y", "z"))), TooGreat)
        made.put(("r", "a", "z"))
        self.assertIs(type(refusal(made.put, rows[2])), TooGreat)

    def test_too_great_comes_ahead_of_clash(self):
        rows = tuple(("k", chr(97 + k)) for k in range(THINGS))
        made = Desk(rules=(("apart", ("no",), ("no",)),), rows=rows)
        self.assertIs(type(refusal(made.put, ("no", "z"))), TooGreat)
        self.assertIs(type(refusal(made.put, ("no", "a"))), Clash)
        rules = tuple(("within", (chr(97 + k),), ("z",)) for k in range(RULES))
        made = Desk(rules=rules, rows=(("k", "x"),))
        self.assertIs(type(refusal(made.learn, ("apart", ("k",), ("k",)))), TooGreat)
        self.assertIs(type(refusal(made.learn, rules[3])), Twice)

    def test_rules_and_somes(self):
        rules = tuple(("within", (chr(97 + k),), ("z",)) for k in range(RULES + 1))
        made = Desk(rules=rules[:RULES - 1])
        made.learn(rules[RULES - 1])
        self.assertIs(type(refusal(made.learn, rules[RULES])), TooGreat)
        made.forget(rules[0])
        made.learn(rules[RULES])
        self.assertEqual(made.book()[0], rules[1:])
        turns = [("r", 0), ("r", 1), ("s", 0), ("s", 1), ("t", 0)]
        made = Desk(rules=tuple(("within", ("a",), turn) for turn in turns[:SOMES - 1]))
        made.learn(("within", ("a",), turns[SOMES - 1]))
        self.assertIs(type(refusal(made.learn, ("within", ("a",), turns[SOMES]))), TooGreat)
        made.learn(("within", ("b",), turns[0]))
        made.learn(("along", turns[0], turns[SOMES]))
        made.forget(("within", ("a",), turns[0]))
        self.assertIs(type(refusal(made.learn, ("within", ("a",), turns[SOMES]))), TooGreat)
        made.forget(("within", ("b",), turns[0]))
        made.learn(("within", ("a",), turns[SOMES]))

    def test_asked(self):
        made = Desk()
        for k in range(ASKED):
            made.ask(chr(97 + k), LEADERS)
        self.assertIs(type(refusal(made.ask, "z", LEADERS)), TooGreat)
        self.assertIs(type(refusal(made.ask, "a", LEADERS)), Twice)
        self.assertIs(type(refusal(made.ask, "z", None)), NoQuestion)
        self.assertIs(type(refusal(made.ask, "", LEADERS)), NoName)
        made.unask("a")
        made.ask("z", LEADERS)
        self.assertEqual(len(made.asked()), ASKED)

    def test_too_great_comes_ahead_of_too_many(self):
        made = Desk(rules=MORE)
        self.assertIs(type(refusal(made.ask, "z", WIDE)), TooMany)
        for k in range(ASKED):
            made.ask(chr(97 + k), LEADERS)
        self.assertIs(type(refusal(made.ask, "z", WIDE)), TooGreat)

    def test_too_many(self):
        made = Desk(rules=JUST, rows=(("ha", "x"), ("ka", "y")))
        made.ask("w", WIDE)
        self.assertEqual(made.answers("w"), (("y", "x"),))
        before = shown(made)
        told = refusal(made.learn, ("within", ("more",), ("k",)))
        self.assertIs(type(told), TooMany)
        self.assertEqual(vars(told), {})
        self.assertEqual(shown(made), before)
        self.assertEqual(made.log()[-2:], [("in", "learn"), ("out", "learn", False)])
        self.assertIs(type(refusal(made.ask, "v", WIDE)), type(None))
        self.assertEqual(made.put(("kb", "z")), (("v", (("z", "x"),), ()), ("w", (("z", "x"),), ())))
        made.learn(("apart", ("k",), ("h",)))
        made.unask("v")
        made.unask("w")
        made.learn(("within", ("more",), ("k",)))
        self.assertIs(type(refusal(made.ask, "w", WIDE)), TooMany)

    def test_clash_comes_ahead_of_too_many(self):
        made = Desk(rules=JUST, rows=(("more", "x"),))
        made.ask("w", WIDE)
        made.learn(("apart", ("k",), ("more",)))
        told = refusal(made.learn, ("within", ("more",), ("k",)))
        self.assertIs(type(told), Clash)
        self.assertEqual(told.rows, (("more", "x"),))

    def test_forget_may_make_a_lot_greater(self):
        # By the last rule one question lies over all others.
        rules = MORE + (("within", ("all",), ("k",)), ("within", ("all",), ("h",)), ("along", ("r", 0), ("r", 1)))
        rules += (("within", ("r", 0), ("all",)),)
        question = ((), (("k", 0), ("h", 0), ("r", 1, 2)))
        small = refusal(answers, (rules, ()), question)
        great = refusal(answers, (rules[:-1], ()), question)
        self.assertIsNone(small)
        self.assertIs(type(great), TooMany)
        made = Desk(rules=rules)
        made.ask("w", question)
        before = shown(made)
        self.assertIs(type(refusal(made.forget, rules[-1])), TooMany)
        self.assertEqual(shown(made), before)
        told = refusal(made.batch, (("put", ("k", "x")), ("forget", rules[-1])))
        self.assertEqual((type(told), told.number, type(told.__cause__)), (Broken, 1, TooMany))
        made.unask("w")
        made.forget(rules[-1])
        self.assertIs(type(refusal(made.ask, "w", question)), TooMany)

    def test_deeds(self):
        made = Desk()
        calls = (("put", ("k", "x")), ("batch", (("put", ("k", "y")), ("drop", ("k", "x")))), ("drop", ("k", "y")), ("batch", ()))
        for k in range(DEEDS):
            self.assertEqual(len(made), k)
            word, *things = calls[k % 4]
            getattr(made, word)(*things)
        before = shown(made)
        for word, things in (
            ("put", (("k", "y"),)), ("put", (None,)), ("drop", (None,)), ("learn", (None,)), ("forget", (None,)), ("ask", (None, None)),
            ("unask", (None,)), ("batch", ((),)), ("batch", (None,)), ("batch", ((None,),)), ("batch", ((("put", ("k", "y")),) * 21,)),
        ):
            told = refusal(getattr(made, word), *things)
            self.assertIs(type(told), Long)
            self.assertEqual(vars(told), {})
            self.assertEqual(shown(made), before)
            self.assertEqual(made.log()[-2:], [("in", word), ("out", word, False)])
        made.back()
        self.assertEqual(len(made), DEEDS - 1)
        self.assertIs(type(refusal(made.put, None)), NoRow)
        made.batch((("ask", "a", LEADERS), ("ask", "b", LEADERS)))
        self.assertIs(type(refusal(made.put, None)), Long)
        for k in range(DEEDS):
            made.back()
        self.assertIs(type(refusal(made.back)), Nothing)


class Batch(unittest.TestCase):
    def test_changes_from_ahead_of_the_first_to_behind_the_last(self):
        made = desk()
        told = made.batch((
            ("put", ("boss", "zoe")), ("put", ("boss", "dan")), ("drop", ("boss", "zoe")), ("unask", "lead"), ("ask", "new", LEADERS),
            ("ask", "lead", ((0,), (("boss", 0),))), ("ask", "gone", KNOWS), ("unask", "gone"), ("ask", "none", ((0,), (("no", 0),))),
        ))
        self.assertEqual(told, (
            ("lead", (("dan",),), (("bob",),)), ("new", (("ann",), ("bob",), ("dan",)), ()), ("who", (("dan",),), ())))
        self.assertEqual(len(made), 3)
        self.assertEqual(made.back(), (
            ("lead", (("bob",),), (("dan",),)), ("new", (), (("ann",), ("bob",), ("dan",))), ("who", (), (("dan",),))))
        self.assertEqual(shown(made), shown(desk()))

    def test_none_to_twenty(self):
        for many in range(21):
            made = Desk()
            deeds = tuple(("put", ("k", "x")) if k % 2 == 0 else ("drop", ("k", "x")) for k in range(many))
            self.assertEqual(made.batch(deeds), ())
            self.assertEqual((len(made), len(made.book()[1])), (1, many % 2))
            self.assertEqual(len(made.log()), 2 * many + 2)
            self.assertEqual(made.back(), ())
            self.assertEqual(shown(made), shown(Desk()))

    def test_no_deeds(self):
        made = desk()
        before = shown(made)
        for thing in [thing for thing in ODD if type(thing) is not tuple or len(thing) > 20] + [
            [("put", ("k", "x"))], (("put", ("k", "x")),) * 21, {"put": ("k", "x")}, "put", (None,) * 21,
        ]:
            told = refusal(made.batch, thing)
            self.assertIs(type(told), NoDeeds, repr(thing)[:200])
            self.assertEqual(vars(told), {})
            self.assertEqual(shown(made), before)
            self.assertEqual(made.log()[-2:], [("in", "batch"), ("out", "batch", False)])

    def test_no_deed(self):
        made = desk()
        before = shown(made)
        for thing in ODD + [
            ("put",), ("put", ("k", "x"), ("k", "y")), ("ask", "new"), ("ask", "new", KNOWS, ()), ("unask",), ("back",), ("batch", ()), ("log",),
            ("answers", "who"), ("Put", ("k", "x")), ["put", ("k", "x")], (("put",), ("k", "x")), (["put"], ("k", "x")), ({}, 1), (0, 1),
            ("book",), ("paper", "who"), ("put ", ("k", "x")), ("done_alone", "put", ("k", "x")), ("", "x"), (True, "x"),
        ]:
            log = made.log()
            told = refusal(made.batch, (("put", ("k", "x")), thing, ("drop", ("k", "x"))))
            with self.subTest(repr(thing)[:200]):
                self.assertIs(type(told), Broken)
                self.assertEqual(vars(told), {"number": 1})
                self.assertIs(type(told.__cause__), NoDeed)
                self.assertEqual(shown(made), before)
                ends = [("in", "batch"), ("in", "put"), ("out", "put", True), ("out", "batch", False)]
                self.assertEqual(made.log(), (log + ends)[-LINES:])

    def test_one_refused_at_each_place(self):
        fine = tuple(("put", ("k", chr(97 + k))) for k in range(5))
        long = ((0,), (("r", 0, 1), ("r", 2, 3), ("k", 4)))
        for place, (kind, bad) in itertools.product(range(6), (
            (NoRow, ("put", None)), (Twice, ("put", ("boss", "ann"))), (Clash, ("put", ("intern", "ann"))), (Missing, ("drop", ("k", "z"))),
            (NoRule, ("learn", [])), (Twice, ("learn", RULES_HERE[0])), (Clash, ("learn", ("apart", BOSS, BOSS))),
            (Missing, ("forget", None)), (NoName, ("ask", None, None)), (Twice, ("ask", "who", None)), (NoQuestion, ("ask", "new", long)),
            (Missing, ("unask", {})), (NoDeed, None), (NoDeed, ("put",)),
        )):
            made = desk()
            before = shown(made)
            told = refusal(made.batch, fine[:place] + (bad,) + fine[place:])
            self.assertIs(type(told), Broken)
            self.assertEqual(vars(told), {"number": place})
            self.assertIs(type(told.__cause__), kind)
            self.assertEqual(shown(made), before)
            ends = [end for k in range(place) for end in (("in", "put"), ("out", "put", True))]
            ends += [] if kind is NoDeed else [("in", bad[0]), ("out", bad[0], False)]
            self.assertEqual(made.log()[4:], [("in", "batch")] + ends + [("out", "batch", False)])
            if kind is Clash:
                self.assertTrue(told.__cause__.rows)

    def test_deeds_of_a_batch_see_those_ahead(self):
        made = Desk()
        self.assertIs(type(refusal(made.batch, (("put", ("k", "x")), ("put", ("k", "x")))).__cause__), Twice)
        made.batch((("put", ("k", "x")), ("drop", ("k", "x")), ("put", ("k", "x"))))
        self.assertEqual(made.book()[1], (("k", "x"),))
        names = tuple(("ask", chr(97 + k), LEADERS) for k in range(9))
        told = refusal(made.batch, names)
        self.assertEqual((told.number, type(told.__cause__)), (8, TooGreat))

    def test_within_a_batch_nothing_is_long(self):
        made = Desk()
        for k in range(DEEDS - 1):
            made.batch(())
        made.batch(tuple(("put", ("k", chr(97 + k))) for k in range(12)))
        self.assertEqual(len(made), DEEDS)


class BackAndTheRest(unittest.TestCase):
    def test_back_of_each(self):
        made = desk()
        shots = [shown(made)]
        for word, *things in (
            ("put", ("boss", "zoe")), ("drop", ("leads", "bob", "cid")), ("learn", ("within", STAFF, BOSS)), ("forget", RULES_HERE[0]),
            ("ask", "new", ((0,), (("staff", 0),))), ("unask", "who"), ("batch", (("put", ("k", "x")), ("unask", "new"))), ("batch", ()),
        ):
            getattr(made, word)(*things)
            shots.append(shown(made))
        for shot in shots[-2::-1]:
            made.back()
            self.assertEqual(shown(made), shot)
        self.assertEqual(made.back(), (("lead", (), (("ann",), ("bob",))),))
        self.assertEqual(made.back(), (("who", (), (("ann",), ("bob",))),))
        for again in range(3):
            told = refusal(made.back)
            self.assertIs(type(told), Nothing)
            self.assertEqual(vars(told), {})
            self.assertEqual(made.log()[-2:], [("in", "back"), ("out", "back", False)])

    def test_refused_deeds_do_not_stand(self):
        made = Desk()
        refusal(made.put, None)
        refusal(made.batch, None)
        refusal(made.batch, (None,))
        self.assertEqual(len(made), 0)
        self.assertIs(type(refusal(made.back)), Nothing)

    def test_what_is_taken_back_stands_no_more(self):
        made = Desk()
        made.put(("k", "x"))
        made.put(("k", "y"))
        made.back()
        self.assertEqual(len(made), 1)
        made.put(("k", "z"))
        self.assertEqual(made.book()[1], (("k", "x"), ("k", "z")))
        made.back()
        made.back()
        self.assertEqual(made.book()[1], ())

    def test_the_log(self):
        made = Desk()
        made.put(("k", "x"))
        refusal(made.put, ("k", "x"))
        made.batch((("ask", "w", LEADERS), ("unask", "w")))
        made.back()
        refusal(made.answers, "w")
        self.assertEqual(made.log(), [
            ("in", "put"), ("out", "put", True), ("in", "put"), ("out", "put", False), ("in", "batch"), ("in", "ask"), ("out", "ask", True),
            ("in", "unask"), ("out", "unask", True), ("out", "batch", True), ("in", "back"), ("out", "back", True)])
        self.assertTrue(all(type(entry) is tuple and all(type(part) in (str, bool) for part in entry) for entry in made.log()))
        mine = made.log()
        mine.clear()
        self.assertEqual(len(made.log()), 12)
        self.assertIs(type(made.log()), list)

    def test_the_last_lines_of_the_log(self):
        made = Desk()
        for k in range(LINES // 2):
            refusal(made.put, None)
        self.assertEqual(made.log(), [("in", "put"), ("out", "put", False)] * (LINES // 2))
        refusal(made.drop, None)
        self.assertEqual(made.log(), [("in", "put"), ("out", "put", False)] * (LINES // 2 - 1) + [("in", "drop"), ("out", "drop", False)])
        made.batch((("ask", "w", LEADERS),) + (("put", ("k", "x")),))
        self.assertEqual(len(made.log()), LINES)
        self.assertEqual(made.log()[-8:], [
            ("in", "drop"), ("out", "drop", False), ("in", "batch"), ("in", "ask"), ("out", "ask", True), ("in", "put"), ("out", "put", True),
            ("out", "batch", True)])

    def test_answers_and_paper(self):
        made = desk()
        for name, question in made.asked():
            self.assertEqual(made.answers(name), answers(made.book(), question))
            told = made.paper(name)
            self.assertIs(is_answer_paper(made.book(), question, told), True)
            self.assertEqual(repr(made.paper(name)), repr(told))
        log = made.log()
        for thing in ODD + ["new", ("who",), ["who"], "who "]:
            self.assertIs(type(refusal(made.answers, thing)), Missing)
            self.assertIs(type(refusal(made.paper, thing)), Missing)
        self.assertEqual(made.log(), log)

    def test_equal_ones(self):
        one, other = desk(), Desk(rules=RULES_HERE, rows=ROWS_HERE)
        self.assertNotEqual(one, other)
        other.ask("lead", LEADERS)
        other.ask("old", KNOWS)
        other.unask("old")
        other.ask("who", KNOWS)
        self.assertEqual(one, other)
        self.assertNotEqual(len(one), len(other))
        other.back()
        other.ask("who", ((1,), (("knows", 1, 0), ("staff", 0))))
        self.assertNotEqual(one, other)
        self.assertNotEqual(Desk(rules=RULES_HERE[:2]), Desk(rules=RULES_HERE[1::-1]))
        self.assertNotEqual(Desk(rows=ROWS_HERE), Desk(rows=ROWS_HERE[:1]))
        for thing in ODD + [one.book(), str(one)]:
            self.assertFalse(one == thing)
            self.assertTrue(one != thing)
        self.assertTrue(Desk() == Desk())

    def test_filled_anew(self):
        made = desk()
        made.batch((("put", ("intern", "dan")), ("learn", ("along", KNOWN, ("meets", 1))), ("ask", "met", ((0,), (("meets", 0, 1),)))))
        rules, rows = made.book()
        anew = Desk(rules=rules, rows=rows)
        for name, question in made.asked():
            anew.ask(name, question)
        self.assertEqual(anew, made)
        self.assertEqual([anew.answers(name) for name, question in anew.asked()], [made.answers(name) for name, question in made.asked()])
        self.assertEqual(str(anew), str(made))

    def test_two_desks_have_nothing_in_common(self):
        one, other = Desk(), Desk()
        one.put(("k", "x"))
        self.assertEqual((other.book(), len(other), other.log()), (((), ()), 0, []))

    def test_the_methods_stand_in_the_class(self):
        for name in WORDS + ("batch", "back", "book", "asked", "answers", "paper", "log", "__len__", "__eq__", "__str__", "__init__"):
            self.assertIn(name, vars(Desk))


class Sequences(unittest.TestCase):
    """Many deeds one behind another, against a desk that tells all anew each time."""

    def deed(self, maker):
        row = maker.choice([("a", "x"), ("a", "y"), ("b", "x"), ("b", "y"), ("c", "z"), ("r", "x", "y"), ("r", "y", "z"), ("s", "x", "x"), None, ("A",)])
        sorts = [("a",), ("b",), ("c",), ("r", 0), ("r", 1), ("s", 0), ("s", 1)]
        word = maker.choice(("within", "within", "along", "apart", "away"))
        pick = sorts[3:] if word in ("along", "away") else sorts
        rule = (word, maker.choice(pick), maker.choice(pick)) if maker.random() < 0.9 else (word, 1, 2)
        name = maker.choice(["one", "two", "three", "four", "", None])
        question = some_question(maker.randrange(60), atoms=2, unknowns=(0, 1, 2), things=("x",), kinds=("a", "b"), roles=("r", "s"))
        deed = maker.choice([
            ("put", row), ("put", row), ("put", row), ("drop", row), ("learn", rule), ("learn", rule), ("ask", name, question),
            ("ask", name, question), ("unask", name),
        ])
        return deed if maker.random() < 0.97 else (deed[0],)

    def ended(self, call):
        """What a call tells, or the class, the fields and the cause of its refusal."""
        try:
            return repr(call())
        except AskError as error:
            return type(error), vars(error), type(error.__cause__)

    def test_many(self):
        counts = {}
        for seed in range(80):
            maker = random.Random(seed)
            made, slow = Desk(), SlowDesk()
            rules = []
            for k in range(45):
                deed = self.deed(maker)
                if maker.random() < 0.15 and rules:
                    deed = ("forget", maker.choice(rules))
                if maker.random() < 0.1:
                    deed = ("back",)
                if maker.random() < 0.2:
                    deed = ("batch", tuple(self.deed(maker) for again in range(maker.randint(0, 4))))
                if len(deed) == 1 and deed[0] != "back":
                    continue
                told = self.ended(lambda: getattr(made, deed[0])(*deed[1:]))
                right = self.ended(lambda: slow.do(*deed))
                counts[told if type(told) is str else told[0]] = 1
                self.assertEqual(told, right, repr((seed, k, deed)))
                self.assertEqual(made.book(), slow.now[:2])
                self.assertEqual(made.asked(), tuple(sorted(slow.now[2].items())))
                self.assertEqual({name: made.answers(name) for name in slow.now[2]}, slow.told())
                self.assertEqual((len(made), made.log()), (len(slow.past), slow.lines[-LINES:]))
                rules = list(made.book()[0])
            self.assertTrue(is_plain((made.book(), made.asked())))
        self.assertLessEqual({NoRow, NoRule, NoName, Twice, Missing, Clash, Broken, Nothing}, set(counts))
        self.assertGreater(len(counts), 40)


class AllRefusals(unittest.TestCase):
    def test_none_is_left_out(self):
        told = {name for name in vars(errors) if isinstance(vars(errors)[name], type) and issubclass(vars(errors)[name], AskError)}
        self.assertEqual(len(told), 23)
        self.assertEqual(clashes(desk().book()), ())


if __name__ == "__main__":
    unittest.main()
