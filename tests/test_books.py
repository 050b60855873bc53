import itertools
import unittest

from ledquestions.books import look_book, look_row, look_rows, look_rule, look_rules, sorts_of, things_of
from ledquestions.errors import NoBook, NoRow, NoRows, NoRule, NoRules
from tests.helpers import ODD, changed, refusal, unchanged

NAMES = ("a", "z", "ab", "abcdefgh", "zzzzzzzz", "i", "f", "iff", "ifa", "an", "nd", "ands", "within", "along", "row")
NO_NAMES = (
    "", "abcdefghi", "if", "and", "A", "Ab", "aB", "abC", "1", "1a", "a1b", "ab1", " ", " a", "a b", "ab ",
    "-", "-a", "a-b", "ab-", "\n", "\na", "a\nb", "ab\n", "if\n", "`", "{", "a`", "a{", "a_b",
    None, True, 0, 1, ("a",), ["a"], {"a": 1}, (),
)
KIND = ("k",)
TURN = ("r", 0)
OTHER = ("s", 1)
SORTS = (KIND, TURN, OTHER, ("r", 1), ("k", 0))
NO_TURNS = (
    (), ("k",), ["r", 0], ("r", 2), ("r", -1), ("r", True), ("r", False), ("r", "0"), ("r", None), ("r", (0,)),
    ("r", 0, 0), (0, "r"), ("R", 0), ("if", 0), ("and", 1), ("", 0), ("abcdefghi", 0), (None, 0), (("r",), 0),
    "r", 0, None, True, {"r": 0}, ("r", 10 ** 999),
)
NO_SORTS = tuple(x for x in NO_TURNS if x != ("k",)) + (["k"], ("K",), ("if",), ("and",), ("",), (0,), (("k",),), "k")


def letters(many):
    """So many unlike names."""
    return ["".join(signs) for signs in itertools.islice(itertools.product("abcdefg", repeat=3), many)]


def kind_rules(many):
    return tuple(("apart", (name,), ("z",)) for name in letters(many))


class Looks(unittest.TestCase):
    def refused(self, error, call, thing, **fields):
        with self.subTest(repr(thing)[:200]):
            told = refusal(call, thing)
            self.assertIs(type(told), error)
            self.assertEqual(vars(told), fields)

    def right(self, call, thing):
        with self.subTest(repr(thing)[:200]):
            self.assertIs(call(thing), True)


class Rows(Looks):
    def test_names_in_each_place_of_a_row(self):
        for name in NAMES:
            for row in ((name, "x"), ("x", name), (name, "x", "x"), ("x", name, "x"), ("x", "x", name)):
                self.right(look_row, row)
                self.right(look_rows, (row,))

    def test_no_names_in_each_place_of_a_row(self):
        for name in NO_NAMES:
            for row in ((name, "x"), ("x", name), (name, "x", "x"), ("x", name, "x"), ("x", "x", name)):
                self.refused(NoRow, look_row, row)
                self.refused(NoRows, look_rows, (row,))

    def test_each_letter_is_one(self):
        for sign in map(chr, range(32, 127)):
            told = refusal(look_row, (sign, "x"))
            self.assertEqual(told is None, sign in "abcdefghijklmnopqrstuvwxyz", sign)

    def test_one_name_may_be_used_for_all(self):
        self.right(look_rows, (("a", "a"), ("a", "a", "a")))

    def test_rows_have_two_or_three_parts(self):
        for row in ((), ("a",), ("a", "b", "c", "d"), ["a", "b"], ["a", "b", "c"], {"a": 1, "b": 2}, "ab", "abc"):
            self.refused(NoRow, look_row, row)
            self.refused(NoRows, look_rows, (row,))

    def test_odd_things_are_no_row_and_no_rows(self):
        for thing in ODD:
            self.refused(NoRow, look_row, thing)
            if thing != () or not isinstance(thing, tuple):
                self.refused(NoRows, look_rows, thing)

    def test_no_rows_at_all_are_rows(self):
        self.right(look_rows, ())

    def test_rows_rise(self):
        rows = (("a", "b"), ("a", "b", "a"), ("a", "c"), ("b", "a"))
        self.right(look_rows, rows)
        for order in itertools.permutations(rows):
            if order != rows:
                self.refused(NoRows, look_rows, order)

    def test_no_row_twice(self):
        self.refused(NoRows, look_rows, (("a", "b"), ("a", "b")))
        self.refused(NoRows, look_rows, (("a", "b"), ("a", "c"), ("a", "c")))

    def test_rows_are_a_tuple(self):
        self.refused(NoRows, look_rows, [("a", "b")])
        self.refused(NoRows, look_rows, {("a", "b"): True})

    def test_as_many_rows_as_may_be(self):
        rows = tuple((name, "x") for name in letters(41))
        self.right(look_rows, rows[:40])
        self.refused(NoRows, look_rows, rows)

    def test_as_many_things_as_may_be(self):
        rows = tuple(("k", name) for name in letters(13))
        self.right(look_rows, rows[:12])
        self.refused(NoRows, look_rows, rows)
        pairs = tuple(("r", one, other) for one, other in zip(letters(12), letters(13)[1:]))
        self.right(look_rows, pairs[:11])
        self.refused(NoRows, look_rows, pairs)

    def test_a_thing_on_either_side_counts_once(self):
        names = letters(12)
        rows = tuple(("r", one, other) for one, other in zip(names, names[1:] + names[:1]))
        self.right(look_rows, rows)

    def test_kinds_and_roles_do_not_count_as_things(self):
        self.right(look_rows, tuple((name, "x", "y") for name in letters(20)))

    def test_things_that_cannot_be_compared(self):
        for rows in ((("a", "b"), ("a", 1)), (("a", "b"), None), (("a", "b"), ("a", ("b",))), ({}, ()), (1, "a")):
            self.refused(NoRows, look_rows, rows)

    def test_arguments_by_name_and_unchanged(self):
        self.assertIs(look_row(thing=("a", "b")), True)
        self.assertIs(look_rows(thing=(("a", "b"),)), True)
        for thing in ODD:
            self.assertTrue(unchanged(look_row, thing))
            self.assertTrue(unchanged(look_rows, thing))


class Rules(Looks):
    def test_within_and_apart_have_sorts(self):
        for word, first, second in itertools.product(("within", "apart"), SORTS, SORTS):
            self.right(look_rule, (word, first, second))

    def test_along_and_away_have_turns_alone(self):
        for word, first, second in itertools.product(("along", "away"), SORTS, SORTS):
            if len(first) == len(second) == 2:
                self.right(look_rule, (word, first, second))
            else:
                self.refused(NoRule, look_rule, (word, first, second))

    def test_no_sorts_in_either_place(self):
        for word, none in itertools.product(("within", "apart"), NO_SORTS):
            self.refused(NoRule, look_rule, (word, none, TURN))
            self.refused(NoRule, look_rule, (word, TURN, none))

    def test_no_turns_in_either_place(self):
        for word, none in itertools.product(("along", "away"), NO_TURNS):
            self.refused(NoRule, look_rule, (word, none, TURN))
            self.refused(NoRule, look_rule, (word, TURN, none))

    def test_names_in_sorts(self):
        for name in NAMES:
            self.right(look_rule, ("within", (name,), (name, 1)))
            self.right(look_rule, ("away", (name, 0), (name, 1)))
        for name in NO_NAMES:
            self.refused(NoRule, look_rule, ("within", (name,), KIND))
            self.refused(NoRule, look_rule, ("apart", KIND, (name, 0)))
            self.refused(NoRule, look_rule, ("along", TURN, (name, 0)))

    def test_no_other_words(self):
        for word in ("", "Within", "within ", "under", "if", "with", "alongs", None, 0, True, ("within",), [], {}):
            self.refused(NoRule, look_rule, (word, TURN, OTHER))

    def test_three_parts(self):
        rule = ("within", TURN, OTHER)
        for none in (rule[:2], rule[:1], (), rule + (TURN,), rule[1:], list(rule), dict(enumerate(rule)), rule[::-1]):
            self.refused(NoRule, look_rule, none)

    def test_odd_things_are_no_rule(self):
        for thing in ODD:
            self.refused(NoRule, look_rule, thing)

    def test_one_thing_changed(self):
        for rule in (("within", KIND, TURN), ("along", TURN, OTHER), ("apart", TURN, KIND), ("away", OTHER, TURN)):
            for thing in changed(rule):
                with self.subTest(repr(thing)[:200]):
                    told = refusal(look_rule, thing)
                    self.assertEqual(told is None, is_right_rule(thing))
                    self.assertIn(type(told), (type(None), NoRule))

    def test_none_at_all_are_rules(self):
        self.right(look_rules, ())

    def test_no_tuple_of_rules(self):
        for thing in ([], [("within", KIND, KIND)], None, 0, True, "", "within", {}, {0: ("within", KIND, KIND)}):
            self.refused(NoRules, look_rules, thing, number=-1)

    def test_as_many_rules_as_may_be(self):
        self.right(look_rules, kind_rules(24))
        self.refused(NoRules, look_rules, kind_rules(25), number=-1)
        self.refused(NoRules, look_rules, (None,) * 24, number=0)
        self.refused(NoRules, look_rules, (None,) * 25, number=-1)

    def test_number_of_the_first_that_is_none(self):
        rules = kind_rules(6)
        for number in range(6):
            for none in ((), None, ("apart", KIND), ("apart", KIND, ("r", True)), ["apart", KIND, KIND], {}):
                thing = rules[:number] + (none,) + rules[number + 1:]
                self.refused(NoRules, look_rules, thing, number=number)
                self.refused(NoRules, look_rules, thing + (None,), number=number)

    def test_number_of_the_one_that_is_there_already(self):
        rules = kind_rules(5)
        for ahead, number in itertools.combinations(range(6), 2):
            thing = rules[:number] + (rules[ahead],) + rules[number:]
            self.refused(NoRules, look_rules, thing, number=number)

    def test_turned_about_is_another_rule(self):
        self.right(look_rules, (("along", TURN, OTHER), ("along", OTHER, TURN), ("away", TURN, OTHER)))
        self.right(look_rules, (("along", ("r", 0), ("s", 0)), ("along", ("r", 1), ("s", 1))))

    def test_as_many_somes_as_may_be(self):
        somes = (("r", 0), ("r", 1), ("s", 0), ("t", 1), ("t", 0))
        rules = tuple(("within", KIND, turn) for turn in somes)
        self.right(look_rules, rules[:4])
        self.refused(NoRules, look_rules, rules, number=4)
        self.refused(NoRules, look_rules, rules + (None,), number=4)
        self.refused(NoRules, look_rules, rules[:3] + (None,) + rules[3:], number=3)
        self.refused(NoRules, look_rules, rules[:4] + (rules[0],) + rules[4:], number=4)

    def test_a_turn_again_is_no_other_some(self):
        rules = tuple(("within", KIND, turn) for turn in (("r", 0), ("r", 1), ("s", 0), ("s", 1)))
        more = tuple(("within", ("h",), rule[2]) for rule in rules)
        self.right(look_rules, rules + more)
        late = rules + more + (("within", ("h",), ("t", 0)),)
        self.refused(NoRules, look_rules, late, number=8)

    def test_only_second_sorts_of_within_are_somes(self):
        turns = [("r", 0), ("r", 1), ("s", 0), ("s", 1)]
        rules = tuple(("within", KIND, turn) for turn in turns)
        rules += (("along", TURN, ("t", 0)), ("apart", KIND, ("t", 0)), ("away", TURN, ("t", 0)))
        rules += (("within", ("t", 0), KIND), ("within", ("t", 1), ("h",)))
        self.right(look_rules, rules)

    def test_the_first_wrong_one_of_several_kinds(self):
        rules = kind_rules(3)
        self.refused(NoRules, look_rules, rules + (rules[1], None), number=3)
        self.refused(NoRules, look_rules, rules + (None, rules[1]), number=3)

    def test_odd_things_are_no_rules(self):
        for thing in ODD:
            if isinstance(thing, tuple) and len(thing) <= 24:
                if thing != ():
                    self.refused(NoRules, look_rules, thing, number=0)
            else:
                self.refused(NoRules, look_rules, thing, number=-1)

    def test_the_number_is_a_whole_number(self):
        self.assertIs(type(refusal(look_rules, (None,)).number), int)
        self.assertIs(type(refusal(look_rules, (("apart", KIND, KIND), None)).number), int)

    def test_arguments_by_name_and_unchanged(self):
        self.assertIs(look_rule(thing=("apart", KIND, KIND)), True)
        self.assertIs(look_rules(thing=kind_rules(2)), True)
        for thing in ODD:
            self.assertTrue(unchanged(look_rule, thing))
            self.assertTrue(unchanged(look_rules, thing))


def is_right_rule(thing):
    """All right rules of some few names, told by how they are written: so a truth is no number."""
    names = ("k", "r", "s", "a", "zz", "ka", "ra", "sa")
    turns = [(name, side) for name in names for side in (0, 1)]
    sorts = turns + [(name,) for name in names]
    if not (isinstance(thing, tuple) and len(thing) == 3):
        return False
    words = {"within": sorts, "apart": sorts, "along": turns, "away": turns}
    fits = [words[word] for word in words if repr(thing[0]) == repr(word)]
    return bool(fits) and all(repr(part) in [repr(x) for x in fits[0]] for part in thing[1:])


class Books(Looks):
    RULES = (("within", KIND, TURN), ("apart", KIND, ("r", 1)))
    ROWS = (("k", "ann"), ("r", "ann", "bob"))

    def test_right_books(self):
        for rules, rows in itertools.product((self.RULES, ()), (self.ROWS, ())):
            self.right(look_book, (rules, rows))

    def test_a_book_that_clashes_is_one(self):
        self.right(look_book, ((("apart", KIND, KIND),), (("k", "ann"),)))

    def test_no_tuple_of_two(self):
        rules, rows = self.RULES, self.ROWS
        for thing in ((), (rules,), (rules, rows, rows), [rules, rows], {0: rules, 1: rows}, None, True, "ab", 2):
            self.refused(NoBook, look_book, thing)

    def test_wrong_rules_come_ahead_of_wrong_rows(self):
        for rows in (self.ROWS, None, [], (None,), self.ROWS[::-1]):
            self.refused(NoRules, look_book, ([], rows), number=-1)
            self.refused(NoRules, look_book, (self.RULES + (None,), rows), number=2)
            self.refused(NoRules, look_book, (self.RULES + self.RULES, rows), number=2)

    def test_wrong_rows(self):
        for rows in (None, [], list(self.ROWS), (None,), self.ROWS[::-1], self.ROWS + self.ROWS, True):
            self.refused(NoRows, look_book, (self.RULES, rows))

    def test_rows_ahead_of_rules(self):
        self.refused(NoRules, look_book, (self.ROWS, self.RULES), number=0)

    def test_odd_things(self):
        for thing in ODD:
            told = refusal(look_book, thing)
            with self.subTest(repr(thing)[:200]):
                if isinstance(thing, tuple) and len(thing) == 2:
                    self.assertEqual(type(told), type(None) if thing == ((), ()) else NoRules)
                else:
                    self.assertIs(type(told), NoBook)
            self.assertTrue(unchanged(look_book, thing))

    def test_by_name(self):
        self.assertIs(look_book(thing=(self.RULES, self.ROWS)), True)


class Sorts(unittest.TestCase):
    ROWS = (
        ("boss", "ann"), ("leads", "ann", "bob"), ("leads", "bob", "bob"), ("leads", "cas", "ann"),
        ("staff", "bob"), ("staff", "cas"),
    )

    def test_sorts_of_things(self):
        self.assertEqual(sorts_of(self.ROWS, "ann"), (("boss",), ("leads", 0), ("leads", 1)))
        self.assertEqual(sorts_of(self.ROWS, "bob"), (("leads", 0), ("leads", 1), ("staff",)))
        self.assertEqual(sorts_of(self.ROWS, "cas"), (("leads", 0), ("staff",)))

    def test_a_thing_paired_with_itself(self):
        self.assertEqual(sorts_of((("r", "x", "x"),), "x"), (("r", 0), ("r", 1)))

    def test_a_thing_on_one_side(self):
        self.assertEqual(sorts_of((("r", "x", "y"),), "x"), (("r", 0),))
        self.assertEqual(sorts_of((("r", "x", "y"),), "y"), (("r", 1),))

    def test_none_twice(self):
        rows = (("r", "x", "x"), ("r", "x", "y"), ("r", "x", "z"), ("r", "y", "x"))
        self.assertEqual(sorts_of(rows, "x"), (("r", 0), ("r", 1)))

    def test_a_thing_that_stands_in_no_row(self):
        self.assertEqual(sorts_of(self.ROWS, "dan"), ())
        self.assertEqual(sorts_of(self.ROWS, "leads"), ())
        self.assertEqual(sorts_of(self.ROWS, "boss"), ())
        self.assertEqual(sorts_of((), "ann"), ())

    def test_one_name_for_a_kind_a_role_and_a_thing(self):
        rows = (("a", "a"), ("a", "a", "b"), ("a", "c", "a"), ("b", "a"))
        self.assertEqual(sorts_of(rows, "a"), (("a",), ("a", 0), ("a", 1), ("b",)))
        self.assertEqual(sorts_of(rows, "b"), (("a", 1),))
        self.assertEqual(things_of(rows), ("a", "b", "c"))

    def test_kinds_and_turns_rise_together(self):
        rows = (("c", "x", "y"), ("d", "x"), ("e", "y", "x"), ("f", "x"))
        self.assertEqual(sorts_of(rows, "x"), (("c", 0), ("d",), ("e", 1), ("f",)))

    def test_no_rules_are_asked(self):
        self.assertEqual(sorts_of((("k", "x"),), "x"), (("k",),))

    def test_things_rise_and_stand_once(self):
        self.assertEqual(things_of(self.ROWS), ("ann", "bob", "cas"))
        self.assertEqual(things_of((("r", "z", "a"), ("s", "m"))), ("a", "m", "z"))
        self.assertEqual(things_of((("r", "x", "x"),)), ("x",))
        self.assertEqual(things_of(()), ())

    def test_tuples_are_told(self):
        for told in (sorts_of(self.ROWS, "ann"), sorts_of((), "ann"), things_of(self.ROWS), things_of(())):
            self.assertIs(type(told), tuple)
        self.assertTrue(all(type(sort) is tuple for sort in sorts_of(self.ROWS, "ann")))

    def test_arguments_by_name(self):
        self.assertEqual(sorts_of(thing="cas", rows=self.ROWS), (("leads", 0), ("staff",)))
        self.assertEqual(things_of(rows=self.ROWS), ("ann", "bob", "cas"))

    def test_each_thing_is_of_a_sort_just_if_a_row_says_so(self):
        for thing in things_of(self.ROWS):
            told = sorts_of(self.ROWS, thing)
            for kind in ("boss", "staff", "leads"):
                self.assertEqual((kind,) in told, (kind, thing) in self.ROWS)
            self.assertEqual(("leads", 0) in told, any(row[:2] == ("leads", thing) for row in self.ROWS))
            self.assertEqual(("leads", 1) in told, any(row[:1] + row[2:] == ("leads", thing) for row in self.ROWS))


if __name__ == "__main__":
    unittest.main()
