import itertools
import random
import unittest

from ledquestions.answering import answers, supports
from ledquestions.bounds import LOT, NONE
from ledquestions.clashing import clash, clashes
from ledquestions.errors import (
    Clash, NoBook, NoQuestion, NoRows, NoRules, NoShorts, NotSure, Ring, TooGreat, TooMany,
)
from ledquestions.shorts import written_out
from ledquestions.ways import above, turns_above
from tests.book_oracles import least_supports, some_book, sure_heads
from tests.helpers import ODD, changed, refusal, unchanged
from tests.lead_oracles import leading_rules, named_heads, some_rows, tree_rows
from tests.oracles import is_plain, some_question

BOOK = (
    (
        ("within", ("boss",), ("leads", 0)), ("along", ("leads", 0), ("knows", 0)), ("within", ("leads", 1), ("staff",)),
        ("apart", ("boss",), ("intern",)), ("away", ("leads", 0), ("leads", 1)),
    ),
    (("boss", "ann"), ("intern", "cid"), ("leads", "bob", "cid"), ("staff", "ann")),
)
KNOWS = ((0,), (("knows", 0, 1), ("staff", 1)))
BOOKS = [some_book(seed) for seed in range(120)]
QUESTIONS = [
    some_question(seed, atoms=3, unknowns=(0, 1, 2), things=("x",), kinds=("a", "b"), roles=("r", "s")) for seed in range(120)
]
PAIRS = list(zip(BOOKS, QUESTIONS)) + list(zip(BOOKS, QUESTIONS[7:] + QUESTIONS[:7]))
FINE = ((), (("k", 0),))


def kinds_under(kind, many):
    return tuple(("within", (f"{kind}{chr(97 + k)}",), (kind,)) for k in range(many))


WIDE = ((0, 1), (("k", 0), ("h", 1)))
JUST = kinds_under("k", 4) + kinds_under("h", 7)
MORE = kinds_under("k", 5) + kinds_under("h", 6)


def renamed(thing, names):
    """The thing with other names throughout."""
    if type(thing) is tuple:
        return tuple(renamed(part, names) for part in thing)
    return names.get(thing, thing) if type(thing) is str else thing


def rename_rules(rules, names):
    return tuple((rule[0],) + renamed(rule[1:], names) for rule in rules)


class Answers(unittest.TestCase):
    def test_by_hand(self):
        for question, right in (
            (KNOWS, ("ann", "bob")), (((0,), (("knows", 0, 1),)), ("ann", "bob")), (((0,), (("leads", 0, 0),)), ()),
            (((1,), (("knows", 0, 1),)), ("cid",)), (((0,), (("staff", 0),)), ("ann", "cid")),
            (((0,), (("boss", 0), ("staff", 0))), ("ann",)), (((0,), (("knows", 0, "cid"),)), ("bob",)),
            (((0,), (("knows", 0, 1), ("intern", 1))), ("bob",)), (((0,), (("none", 0),)), ()),
        ):
            with self.subTest(repr(question)):
                self.assertEqual(answers(BOOK, question), tuple((name,) for name in right))
        self.assertEqual(answers(BOOK, ((0, 1), (("leads", 0, 1),))), (("bob", "cid"),))
        self.assertEqual(answers(BOOK, ((0, "zoe", 0), (("boss", 0),))), (("ann", "zoe", "ann"),))

    def test_without_a_head(self):
        self.assertEqual(answers(BOOK, ((), (("leads", 0, 1), ("staff", 1)))), ((),))
        self.assertEqual(answers(BOOK, ((), (("leads", "ann", 1),))), ((),))
        self.assertEqual(answers(BOOK, ((), (("leads", 0, 1), ("leads", 1, 2)))), ())
        self.assertEqual(answers(BOOK, ((), (("boss", "cid"),))), ())
        self.assertEqual(answers(((), ()), ((), (("boss", 0),))), ())

    def test_against_trees(self):
        counts, more = {}, 0
        for (rules, rows), question in PAIRS:
            with self.subTest(repr((rules, rows, question))):
                told = answers((rules, rows), question)
                self.assertTrue(is_plain(told))
                self.assertEqual(told, tuple(sorted(sure_heads(rules, rows, question))))
                self.assertEqual(told, tuple(sorted(named_heads(tree_rows(rules, rows, 7), question))))
                self.assertEqual(repr(answers((rules, rows), question)), repr(told))
                counts[len(told)] = counts.get(len(told), 0) + 1
                more += told != tuple(sorted(named_heads(rows, question)))
        self.assertGreater(min(counts[0], counts[1]), 30)
        self.assertGreater(more, 20)

    def test_partners_without_end(self):
        rules = (("within", ("a",), ("r", 0)), ("within", ("r", 1), ("a",)), ("along", ("r", 1), ("s", 0)))
        book = (rules, (("a", "x"), ("r", "y", "x")))
        path = (("r", 0, 1), ("r", 1, 2), ("r", 2, 3), ("s", 3, 2), ("a", 3))
        self.assertEqual(answers(book, ((0,), path)), (("x",), ("y",)))
        self.assertEqual(answers(book, ((0, 1), path)), (("y", "x"),))
        self.assertEqual(answers(book, ((), path + ())), ((),))
        ring = (("r", 0, 1), ("r", 1, 2), ("r", 2, 0))
        self.assertEqual(answers(book, ((), ring)), ())
        self.assertEqual(answers(book, ((0, 2), (("r", 0, 1), ("r", 2, 1)))), (("x", "x"), ("y", "y")))

    def test_shorts(self):
        shorts = (
            ("chief", ((0,), (("leads", 0, 1), ("staff", 1)))), ("peer", ((4, 2), (("knows", 4, 7), ("knows", 2, 7)))),
            ("mate", ((3,), (("peer", 3, 5), ("chief", 5)))), ("staff", ((1, 2), (("peer", 2, 1),))),
        )
        for question, other in (
            (((0,), (("chief", 0),)), ((0,), (("leads", 0, 1), ("staff", 1)))),
            (((0, 1), (("peer", 0, 1),)), ((0, 1), (("knows", 0, 2), ("knows", 1, 2)))),
            (((0,), (("mate", 0),)), ((0,), (("knows", 0, 1), ("knows", 2, 1), ("leads", 2, 3), ("staff", 3)))),
            (((8,), (("peer", "bob", 8), ("boss", 8))), ((8,), (("knows", "bob", 1), ("knows", 8, 1), ("boss", 8)))),
            (((0,), (("staff", 0, "bob"), ("staff", 0))), ((0,), (("knows", "bob", 1), ("knows", 0, 1), ("staff", 0)))),
            (KNOWS, KNOWS), (((0,), (("chief", 0), ("chief", 0, 1))), ((0,), (("leads", 0, 1), ("staff", 1), ("chief", 0, 1)))),
        ):
            for order in itertools.permutations(shorts):
                with self.subTest(repr((question, order))):
                    self.assertEqual(answers(BOOK, question, shorts=order), answers(BOOK, other))
        self.assertEqual(answers(BOOK, ((0,), (("mate", 0),)), shorts=shorts), (("ann",), ("bob",)))
        self.assertEqual(answers(BOOK, ((0,), (("chief", 0),))), ())

    def test_shorts_of_many_books(self):
        shorts = (("p", ((0,), (("r", 0, 1), ("a", 1)))), ("q", ((0, 1), (("s", 1, 0), ("p", 0)))))
        told = 0
        for book, question in PAIRS[:120]:
            asked = renamed(question, {"b": "p", "s": "q"})
            if refusal(written_out, shorts, asked) is None:
                right = answers(book, written_out(shorts, asked))
                self.assertEqual(answers(book, asked, shorts=shorts), right)
                self.assertEqual(answers(book, asked, shorts=shorts[::-1]), right)
                told += len(right)
        self.assertGreater(told, 10)

    def test_each_refusal(self):
        rules, rows = BOOK
        long = ((0,), (("r", 0, 1), ("r", 2, 3), ("k", 4)))
        ring = (("p", ((0,), (("q", 0),))), ("q", ((0,), (("p", 0),))))
        for kind, fields, book, question, shorts in (
            (NoBook, {}, [rules, rows], KNOWS, ()), (NoBook, {}, (rules,), KNOWS, ()), (NoBook, {}, None, KNOWS, ()),
            (NoRules, {"number": -1}, (None, rows), KNOWS, ()), (NoRules, {"number": 5}, (rules + rules[:1], rows), KNOWS, ()),
            (NoRows, {}, (rules, rows[::-1]), KNOWS, ()), (NoRows, {}, (rules, list(rows)), KNOWS, ()),
            (NoShorts, {}, BOOK, KNOWS, None), (NoShorts, {}, BOOK, KNOWS, (("p", FINE),)), (NoShorts, {}, BOOK, KNOWS, []),
            (NoQuestion, {}, BOOK, None, ()), (NoQuestion, {}, BOOK, ((0,), ()), ()), (NoQuestion, {}, BOOK, ((0,), (("k", True),)), ()),
            (TooGreat, {}, BOOK, long, ()), (TooGreat, {}, BOOK, long, (("p", ((0,), (("k", 0),))),)),
            (Clash, {"rows": (("boss", "ann"), ("intern", "ann"))}, (rules, (("boss", "ann"), ("intern", "ann"))), KNOWS, ()),
            (TooMany, {}, (MORE, ()), WIDE, ()), (TooMany, {}, (MORE, (("ka", "x"),)), WIDE, ()),
            (TooMany, {}, (MORE, ()), ((0, 1), (("p", 0, 1),)), (("p", ((3, 2), (("k", 3), ("h", 2)))),)),
            (TooGreat, {}, BOOK, ((0,), (("p", 0), ("p", 1), ("p", 2))), (("p", ((0,), (("r", 0, 1),))),)),
        ):
            with self.subTest(repr((kind, book, question, shorts))):
                told = refusal(answers, book, question, shorts=shorts)
                self.assertIs(type(told), kind)
                self.assertEqual(vars(told), fields)
        told = refusal(answers, BOOK, KNOWS, shorts=ring)
        self.assertIs(type(told), Ring)
        self.assertIn(told.names, (("p", "q"), ("q", "p")))

    def test_two_faults_at_once(self):
        rules, rows = MORE + (("apart", ("no",), ("no",)),), (("ka", "x"), ("no", "x"))
        ring = (("p", ((0,), (("p", 0),))),)
        great = (("p", ((0, 1), (("r", 0, 2), ("r", 2, 3), ("r", 3, 1)))),)
        # Each: a book, its fault, and whether its least lots are too great for the wide question.
        books = (
            (None, NoBook, False), ((rules, rows, ()), NoBook, False), ([rules, rows], NoBook, False),
            ((rules + rules[:1], rows[::-1]), NoRules, False), (((None,), rows), NoRules, False),
            ((rules, rows[::-1]), NoRows, True), ((rules, None), NoRows, True),
            ((rules, rows), Clash, True), ((JUST + rules[-1:], rows), Clash, False), ((MORE, rows), None, True), ((JUST, rows), None, False),
        )
        shorts = ((None, NoShorts), (ring * 2, NoShorts), (ring, Ring), ((), None), (great, None))
        questions = (
            (None, NoQuestion), ((0,), NoQuestion), (((0,), (("k", 0), ("h", 1), ("r", 2, 3), ("k", 4))), TooGreat),
            (((0, 1), (("k", 0), ("h", 1), ("p", 0, 1), ("p", 1, 0))), None), (WIDE, None), (FINE, None),
        )
        order = (NoBook, NoRules, NoRows, NoShorts, Ring, NoQuestion, TooGreat, Clash, TooMany)
        seen = set()
        for (book, one, many), (short, two), (question, three) in itertools.product(books, shorts, questions):
            faults = {one, two, three} - {None}
            if question == questions[3][0] and short == great:
                faults.add(TooGreat)
            if many and question == WIDE:
                faults.add(TooMany)
            if many and question == questions[3][0] and short != great:
                faults.add(TooMany)
            told = refusal(answers, book, question, shorts=short)
            with self.subTest(repr((book, short, question))):
                first = next((fault for fault in order if fault in faults), type(None))
                self.assertIs(type(told), first)
                fields = {Clash: {"rows": (("no", "x"),)}, Ring: {"names": ("p",)}}
                if first is NoRules:
                    fields[NoRules] = {"number": 0 if book[0] == (None,) else len(rules)}
                if told is not None:
                    self.assertEqual(vars(told), fields.get(first, {}))
            seen |= set(itertools.combinations(sorted(faults, key=order.index), 2)) | {first}
        # What is no book has neither rules nor rows, what are no shorts no ring, what is no question no size.
        never = {(NoBook, fault) for fault in (NoRules, NoRows, Clash, TooMany)} | {(NoRules, Clash), (NoRules, TooMany), (NoRows, Clash)}
        never |= {(NoShorts, Ring), (NoQuestion, TooGreat), (NoQuestion, TooMany), (TooGreat, TooMany), (NoRules, NoRows)}
        self.assertLessEqual(set(itertools.combinations(order, 2)) - never, seen)
        self.assertLessEqual(set(order) | {type(None)}, seen)

    def test_just_so_many_and_one_more(self):
        rows = (("h", "x"), ("hb", "y"), ("kc", "z"))
        self.assertEqual(answers((JUST, rows), WIDE), (("z", "x"), ("z", "y")))
        self.assertIs(type(refusal(answers, (MORE, rows), WIDE)), TooMany)
        self.assertIs(type(refusal(answers, (MORE, ()), WIDE)), TooMany)
        self.assertEqual(LOT, 40)

    def test_odd_things(self):
        for thing in ODD:
            first = NoRules if type(thing) is tuple and len(thing) == 2 else NoBook
            self.assertIs(type(refusal(answers, thing, KNOWS)), type(None) if thing == ((), ()) else first)
            self.assertIn(type(refusal(answers, (thing, ()), KNOWS)), (NoRules, type(None)))
            self.assertIn(type(refusal(answers, ((), thing), KNOWS)), (NoRows, type(None)))
            self.assertIs(type(refusal(answers, BOOK, thing)), NoQuestion)
            self.assertIs(type(refusal(answers, BOOK, KNOWS, shorts=thing)), type(None) if repr(thing) == "()" else NoShorts)
            self.assertTrue(unchanged(answers, thing, thing) and unchanged(answers, BOOK, thing))

    def test_one_thing_changed(self):
        kinds = {}
        small = (BOOK[0][:2] + BOOK[0][3:4], BOOK[1][:2])
        for near in changed(small):
            told = type(refusal(answers, near, KNOWS))
            kinds[told] = kinds.get(told, 0) + 1
        for near in changed(KNOWS):
            told = type(refusal(answers, small, near))
            kinds[told] = kinds.get(told, 0) + 1
        for near in changed((("p", ((0,), (("k", 0),))),)):
            told = type(refusal(answers, small, KNOWS, shorts=near))
            kinds[told] = kinds.get(told, 0) + 1
        self.assertLessEqual(set(kinds), {NoBook, NoRules, NoRows, NoShorts, Ring, NoQuestion, TooGreat, Clash, type(None)})
        self.assertGreater(min(kinds[kind] for kind in (NoBook, NoRules, NoRows, NoShorts, NoQuestion)), 15)

    def test_rows_and_rules_more_take_no_answer_away(self):
        grew = 0
        for seed, (book, question) in enumerate(PAIRS):
            rules, rows = book
            told = set(answers(book, question))
            for other in (
                (rules, tuple(sorted(set(rows + some_rows(seed, 1, "ab", "rs", "xyz"))))),
                (rules + tuple(rule for rule in BOOKS[seed % 100 + 1][0][:1] if rule not in rules), rows),
            ):
                if clash(other) is None and type(refusal(answers, other, question)) is type(None):
                    more = set(answers(other, question))
                    self.assertLessEqual(told, more)
                    grew += told != more
        self.assertGreater(grew, 10)

    def test_other_orders_numbers_and_names(self):
        for seed, (book, question) in enumerate(PAIRS):
            maker = random.Random(seed)
            (rules, rows), (head, atoms) = book, question
            told = answers(book, question)
            self.assertEqual(answers((tuple(maker.sample(rules, len(rules))), rows), question), told)
            numbers = maker.sample(range(100), 3)
            other = tuple(part if type(part) is str else numbers[part] for part in head)
            mixed = [atom[:1] + tuple(part if type(part) is str else numbers[part] for part in atom[1:]) for atom in atoms]
            self.assertEqual(answers(book, (other, tuple(maker.sample(mixed, len(mixed))))), told)
            names = {"a": "zz", "b": "within", "r": "a", "s": "apart", "x": "then", "y": "a"}
            # Kinds and roles are named apart from things here, so that each may be renamed by itself.
            anew = (rename_rules(rules, names), tuple(sorted(renamed(rows, names))))
            self.assertEqual(answers(anew, renamed(question, names)), tuple(sorted(renamed(told, names))))

    def test_a_role_turned_throughout(self):
        for (rules, rows), question in PAIRS[:120]:
            def turned(part):
                if type(part) is tuple and len(part) == 2 and part[0] == "r" and type(part[1]) is int:
                    return ("r", 1 - part[1])
                return part

            def about(row):
                return (row[0], row[2], row[1]) if len(row) == 3 and row[0] == "r" else row

            other = (tuple((rule[0], turned(rule[1]), turned(rule[2])) for rule in rules), tuple(sorted(map(about, rows))))
            self.assertEqual(answers(other, (question[0], tuple(map(about, question[1])))), answers((rules, rows), question))

    def test_two_things_put_together(self):
        looked = 0
        for (rules, rows), question in PAIRS:
            one = renamed(rows, {"y": "x"})
            other = (rules, tuple(sorted(set(one))))
            if clash(other) is None and "y" not in repr(question):
                told = set(renamed(answers((rules, rows), question), {"y": "x"}))
                self.assertLessEqual(told, set(answers(other, question)))
                looked += bool(told)
        self.assertGreater(looked, 30)

    def test_a_rule_more_that_says_nothing_new(self):
        looked = 0
        for seed, ((rules, rows), question) in enumerate(PAIRS):
            sort = random.Random(seed).choice([("a",), ("b",), ("r", 0), ("s", 1)])
            implied = [("within", sort, other) for other in above(rules, sort) if len(other) == 1]
            implied += [("along", ("r", 0), turn) for turn in turns_above(rules, ("r", 0))]
            for rule in implied:
                if rule not in rules:
                    self.assertEqual(answers((rules + (rule,), rows), question), answers((rules, rows), question))
                    looked += 1
        self.assertGreater(looked, 60)

    def test_by_name(self):
        self.assertEqual(answers(question=KNOWS, book=BOOK), answers(BOOK, KNOWS))
        self.assertEqual(answers(shorts=NONE, question=KNOWS, book=BOOK), answers(BOOK, KNOWS))
        self.assertRaises(TypeError, answers, BOOK, KNOWS, ())
        self.assertTrue(unchanged(answers, BOOK, KNOWS))


class Supports(unittest.TestCase):
    def test_by_hand(self):
        self.assertEqual(supports(BOOK, KNOWS, ("ann",)), ((("boss", "ann"),),))
        self.assertEqual(supports(BOOK, KNOWS, ("bob",)), ((("leads", "bob", "cid"),),))
        self.assertEqual(supports(BOOK, ((), KNOWS[1]), ()), ((("boss", "ann"),), (("leads", "bob", "cid"),)))
        both = ((), (("boss", 0), ("staff", 1)))
        self.assertEqual(supports(BOOK, both, ()), ((("boss", "ann"),),))
        rules = BOOK[0][:2]
        self.assertEqual(supports((rules, BOOK[1]), both, ()), ((("boss", "ann"), ("staff", "ann")),))
        self.assertEqual(supports(BOOK, ((0, "z"), (("knows", 0, 1), ("intern", 1))), ("bob", "z")), ((("intern", "cid"), ("leads", "bob", "cid")),))

    def test_against_all_lots_of_rows(self):
        counts = {}
        books = [(leading_rules(seed, 4, "ab", "rs", 2), some_rows(seed, 6, "ab", "rs", "xyz")) for seed in range(60)]
        for (rules, rows), question in PAIRS[:80] + list(zip(books, QUESTIONS)):
            if type(refusal(answers, (rules, rows), question)) is TooMany:
                continue
            for answer in answers((rules, rows), question):
                told = supports((rules, rows), question, answer)
                with self.subTest(repr((rules, rows, question, answer))):
                    self.assertEqual(repr(told), repr(least_supports(rules, rows, question, answer)))
                    self.assertTrue(all(len(some) <= len(question[1]) for some in told))
                    self.assertTrue(is_plain(told))
                counts[len(told)] = counts.get(len(told), 0) + 1
        self.assertGreater(counts[1], 30)
        self.assertGreater(sum(counts[many] for many in counts if many > 1), 20)

    def test_each_alone_is_enough_and_none_can_be_left_out(self):
        looked = 0
        for book, question in PAIRS[:80]:
            for answer in answers(book, question):
                for some in supports(book, question, answer):
                    self.assertIn(answer, answers((book[0], some), question))
                    for row in some:
                        fewer = tuple(other for other in some if other != row)
                        self.assertIs(type(refusal(supports, (book[0], fewer), question, answer)), NotSure)
                        looked += 1
        self.assertGreater(looked, 30)

    def test_very_many(self):
        rows = tuple(sorted(("abcde"[k % 5], "lmnopqrstu"[k // 5]) for k in range(40)))
        question = ((), tuple((kind, k % 4) for k, kind in enumerate("abcd")))
        self.assertEqual(len(supports(((), rows), question, ())), 8 ** 4)
        path = tuple(sorted(("r", one, other) for one in "abcdef" for other in "abcdef"))
        told = supports(((), path), ((), (("r", 0, 1), ("r", 1, 2), ("r", 2, 3))), ())
        self.assertEqual([some for some in told if len(some) == 1], [(("r", one, one),) for one in "abcdef"])
        two = [some for some in told if len(some) == 2]
        self.assertEqual(len(two), 15)

    def test_not_sure_of_anything_else(self):
        right = set(answers(BOOK, KNOWS))
        for thing in list(ODD) + changed(("ann",)) + [("cid",), ("zoe",), "ann", ["ann"], ("ann", "ann"), (0,), ((("ann",),))]:
            if type(thing) is tuple and repr(thing) in map(repr, right):
                continue
            with self.subTest(repr(thing)[:200]):
                told = refusal(supports, BOOK, KNOWS, thing)
                self.assertIs(type(told), NotSure)
                self.assertEqual(vars(told), {})
                self.assertTrue(unchanged(supports, BOOK, KNOWS, thing))
                if repr(thing) != "()":
                    self.assertIs(type(refusal(supports, BOOK, ((), KNOWS[1]), thing)), NotSure)
        self.assertIs(type(refusal(supports, ((), ()), FINE, ())), NotSure)

    def test_clash_and_too_many_come_first(self):
        clashing = (BOOK[0], (("boss", "ann"), ("intern", "ann")))
        for thing in ODD + [("ann",)]:
            told = refusal(supports, clashing, KNOWS, thing)
            self.assertIs(type(told), Clash)
            self.assertEqual(vars(told), {"rows": clashes(clashing)[0]})
            self.assertIs(type(refusal(supports, (MORE, ()), WIDE, thing)), TooMany)
            both = (MORE + (("apart", ("no",), ("no",)),), (("no", "x"),))
            self.assertIs(type(refusal(supports, both, WIDE, thing)), Clash)
        self.assertEqual(supports((JUST, (("ha", "x"), ("kb", "y"))), WIDE, ("y", "x")), ((("ha", "x"), ("kb", "y")),))

    def test_by_name(self):
        self.assertEqual(supports(answer=("ann",), question=KNOWS, book=BOOK), supports(BOOK, KNOWS, ("ann",)))
        self.assertTrue(unchanged(supports, BOOK, KNOWS, ("ann",)))


if __name__ == "__main__":
    unittest.main()
