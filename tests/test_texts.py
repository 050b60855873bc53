import re
import unittest

from ledquestions.books import look_book
from ledquestions.errors import NoQuestion, NoRows, NoRules, NoText
from ledquestions.questions import look_question
from ledquestions.texts import book_text, question_text, read_book, read_question
from tests.helpers import ODD, refusal, unchanged
from tests.oracles import is_plain, some_question, some_rules

BOOK = (
    (
        ("within", ("boss",), ("leads", 0)),
        ("within", ("leads", 1), ("staff",)),
        ("along", ("leads", 1), ("knows", 0)),
        ("apart", ("boss",), ("knows", 1)),
        ("away", ("leads", 0), ("leads", 1)),
    ),
    (("boss", "ann"), ("leads", "ann", "bob"), ("row", "rule", "within")),
)
TEXT = (
    "rule within boss leads>\n"
    "rule within leads< staff\n"
    "rule along leads< knows>\n"
    "rule apart boss knows<\n"
    "rule away leads> leads<\n"
    "row boss ann\n"
    "row leads ann bob\n"
    "row row rule within\n"
)
SMALL = "rule along r> s<\nrow k x\nrow r x y\n"
QUESTION = ((0, "ann"), (("leads", 0, 1), ("staff", 1)))
ASKED = "?0 ann if leads ?0 ?1 and staff ?1"
# Words of the books below: of rules' and rows' things alike, so that names meet in all places.
ROWS = [tuple(sorted({(chr(97 + (seed * k) % 26), "x" * (1 + k % 8)) for k in range(seed % 9)})) for seed in range(30)]
BOOKS = [(some_rules(seed, seed % 12), ROWS[seed]) for seed in range(30)] + [BOOK]
QUESTIONS = [some_question(seed, atoms=5) for seed in range(60)] + [QUESTION]

NAME = r"(?!(?:if|and)(?![a-z]))[a-z]{1,8}"
SORT = NAME + "[<>]?"
TURN = NAME + "[<>]"
RULE = re.compile(f"rule (?:(within|apart) ({SORT}) ({SORT})|(along|away) ({TURN}) ({TURN}))")
ROW = re.compile(f"row ({NAME}) ({NAME})(?: ({NAME}))?")
TERM = r"(?:\?(?:0|[1-9][0-9]{0,8})|" + NAME + ")"
ATOM = f"{NAME} {TERM}(?: {TERM})?"
ASKING = re.compile(f"((?:{TERM} )*)if ({ATOM}(?: and {ATOM})*)")


def told_sort(word):
    return (word[:-1], "><".index(word[-1])) if word[-1] in "<>" else (word,)


def right_book(text):
    """The book, or the number of the first line that can't stand."""
    rules, rows = [], []
    lines = re.findall(r"[^\n]*\n|[^\n]+", text)
    for number, line in enumerate(lines):
        rule, row = RULE.fullmatch(line[:-1]), ROW.fullmatch(line[:-1])
        if line[-1] != "\n" or not (rule and not rows or row):
            return number
        if row:
            rows.append(tuple(name for name in row.groups() if name))
        else:
            word, one, other = [part for part in rule.groups() if part]
            rules.append((word, told_sort(one), told_sort(other)))
    return tuple(rules), tuple(rows)


def told_term(word):
    return int(word[1:]) if word[0] == "?" else word


def right_question(text):
    """The question, or 0 where it's not so made."""
    found = ASKING.fullmatch(text)
    if not found:
        return 0
    head = tuple(map(told_term, found.group(1).split()))
    atoms = [atom.split(" ") for atom in found.group(2).split(" and ")]
    return head, tuple((atom[0],) + tuple(map(told_term, atom[1:])) for atom in atoms)


def near_signs(text, signs):
    for k in range(len(text) + 1):
        for sign in signs:
            yield text[:k] + sign + text[k:]
            yield text[:k] + sign + text[k + 1:]
        yield text[:k] + text[k + 1:]
        yield text[:k]
        yield text[:k].upper() + text[k:]


def near_parts(text, between, others):
    parts = text.split(between)
    for k, part in enumerate(parts):
        yield between.join(parts[:k] + parts[k + 1:])
        yield between.join(parts[:k] + [part] + parts[k:])
        for other in others:
            yield between.join(parts[:k] + [other] + parts[k + 1:])
            yield between.join(parts[:k] + [other] + parts[k:])
        for m in range(len(parts)):
            left = parts[:k] + parts[k + 1:]
            yield between.join(left[:m] + [part] + left[m:])
            yield between.join(parts[:k] + [parts[m]] + parts[k + 1:])


class BookText(unittest.TestCase):
    def test_letter_by_letter(self):
        self.assertEqual(book_text(BOOK), TEXT)
        self.assertEqual(book_text(((), ())), "")
        self.assertEqual(book_text(((), (("k", "x"),))), "row k x\n")
        self.assertEqual(book_text(((("along", ("r", 0), ("s", 1)),), ())), "rule along r> s<\n")

    def test_by_name_and_unchanged(self):
        self.assertEqual(book_text(book=BOOK), TEXT)
        self.assertTrue(unchanged(book_text, BOOK))

    def test_what_is_written_is_read_as_what_it_was(self):
        for book in BOOKS:
            with self.subTest(repr(book)):
                self.assertIs(look_book(book), True)
                told = read_book(book_text(book))
                self.assertEqual(repr(told), repr(book))
                self.assertTrue(is_plain(told))


class ReadBook(unittest.TestCase):
    def test_right_texts(self):
        self.assertEqual(repr(read_book(TEXT)), repr(BOOK))
        self.assertEqual(read_book(""), ((), ()))
        self.assertEqual(read_book(text=SMALL), ((("along", ("r", 0), ("s", 1)),), (("k", "x"), ("r", "x", "y"))))
        self.assertEqual(read_book("row k x\n"), ((), (("k", "x"),)))
        self.assertEqual(read_book("rule apart k k\n"), ((("apart", ("k",), ("k",)),), ()))
        self.assertIs(type(read_book(TEXT)[0][0][2][1]), int)

    def wrong(self, text, line):
        with self.subTest(repr(text)[:200]):
            told = refusal(read_book, text)
            self.assertIs(type(told), NoText)
            self.assertEqual(repr(told.line), repr(line))

    def test_no_texts(self):
        for thing in ODD + [TEXT.encode(), [TEXT], (TEXT,), {TEXT: TEXT}, BOOK]:
            if not isinstance(thing, str):
                self.wrong(thing, -1)
            self.assertTrue(unchanged(read_book, thing))

    def test_first_line_that_can_not_stand(self):
        for text, line in (
            ("\n", 0), (" ", 0), ("row k x", 0), ("row k x\n\n", 1), ("\nrow k x\n", 0), ("row k x\n ", 1),
            ("row k x\nrow k y", 1), ("row k x\nrule apart k k\n", 1), ("row k x\nrule apart k k\nrow\n", 1),
            ("row k x\nrule apart k k", 1), ("row k\n", 0), ("row k x y z\n", 0), ("row  k x\n", 0), ("row k x \n", 0),
            (" row k x\n", 0), ("row K x\n", 0), ("row if x\n", 0), ("row k and\n", 0), ("row k abcdefghi\n", 0),
            ("row k 0\n", 0), ("row k ?0\n", 0), ("row k> x\n", 0), ("row k x>\n", 0), ("Row k x\n", 0), ("rows k x\n", 0),
            ("rule within k\n", 0), ("rule within k k k\n", 0), ("rule without k k\n", 0), ("rule within  k k\n", 0),
            ("rule along k k\n", 0), ("rule along r> k\n", 0), ("rule along k r<\n", 0), ("rule away k r<\n", 0),
            ("rule away r> k\n", 0), ("rule within k >\n", 0), ("rule within k r>>\n", 0), ("rule within k r><\n", 0),
            ("rule within k >r\n", 0), ("rule within if> k\n", 0), ("rule within k and<\n", 0), ("rule within k if\n", 0),
            ("rule within k abcdefghi>\n", 0), ("rule within k r >\n", 0), ("within k k\n", 0), ("rule\n", 0), ("row\n", 0),
            ("rule within k k\r\n", 0), ("rule within k k\trow k x\n", 0), ("rule apart k k\nrow k x\nrow k\n", 2),
            ("rule apart k k\nrow k x\nrow k y", 2), ("rule apart k k\nrow K x\nrow k y", 1), ("rule within k K\n", 0),
            ("rule apart k k", 0), ("rule apart k k\nrule along k k\nrow k\n", 1), (TEXT + "x", 8), (TEXT + "\n", 8),
        ):
            self.wrong(text, line)

    def test_rules_then_rows(self):
        line = "rule within k k\n"
        many = "".join(f"rule within k k{chr(97 + k)}\n" for k in range(25))
        somes = "".join(f"rule within k r{chr(97 + k)}>\n" for k in range(5))
        rows = "".join(f"row k{chr(97 + k // 26)}{chr(97 + k % 26)} x\n" for k in range(41))
        things = "".join(f"row k {chr(97 + k)}\n" for k in range(13))
        for text, kind, number in (
            (line + line, NoRules, 1), (line + "rule apart k k\n" + line, NoRules, 2), (many, NoRules, -1),
            (somes, NoRules, 4), (line + line + "row k x\nrow k x\n", NoRules, 1), (line + "row k x\nrow k x\n", NoRows, None),
            ("row k y\nrow k x\n", NoRows, None), ("row r x y\nrow k x\n", NoRows, None), (rows, NoRows, None),
            (things, NoRows, None), (line + line + "row k x\nrow k", NoText, None), (many + rows + "row", NoText, None),
        ):
            with self.subTest(text[:100]):
                told = refusal(read_book, text)
                self.assertIs(type(told), kind)
                self.assertEqual(getattr(told, "number", None), number)
        self.assertEqual(len(read_book(many[:many.rindex("rule")])[0]), 24)
        self.assertEqual(len(read_book(rows[:rows.rindex("row")])[1]), 40)
        self.assertEqual(len(read_book(things[:things.rindex("row")])[1]), 12)
        self.assertEqual(len(read_book(somes[:somes.rindex("rule")])[0]), 4)

    def as_right(self, text):
        right = right_book(text)
        told = refusal(read_book, text)
        if isinstance(right, int):
            self.assertIs(type(told), NoText, repr(text))
            self.assertEqual(told.line, right, repr(text))
            return NoText
        asked = refusal(look_book, right)
        self.assertIs(type(told), type(asked), repr(text))
        self.assertEqual(getattr(told, "number", None), getattr(asked, "number", None))
        if asked is None:
            self.assertEqual(repr(read_book(text)), repr(right))
            self.assertEqual(book_text(read_book(text)), text)
        return type(asked)

    def test_one_thing_put_otherwise(self):
        counts = {}
        for text in near_signs(SMALL, " a\n<>?0zA-\t"):
            kind = self.as_right(text)
            counts[kind] = counts.get(kind, 0) + 1
        for text in (TEXT, SMALL):
            for near in near_parts(text, " ", ("", "k", "r>", "r<", "if", "and", "rule", "row", "within", "along", "k\n")):
                kind = self.as_right(near)
                counts[kind] = counts.get(kind, 0) + 1
            for near in near_parts(text, "\n", ("", " ", "row k x", "row k zz", "rule apart k k", "rule along r> r<", "r")):
                kind = self.as_right(near)
                counts[kind] = counts.get(kind, 0) + 1
        for kind in (NoText, NoRules, NoRows, type(None)):
            self.assertGreater(counts[kind], 10)

    def test_odd_texts(self):
        for thing in ODD:
            if isinstance(thing, str):
                self.as_right(thing)


class QuestionText(unittest.TestCase):
    def test_letter_by_letter(self):
        self.assertEqual(question_text(QUESTION), ASKED)
        self.assertEqual(question_text(((), (("k", "x"),))), "if k x")
        self.assertEqual(question_text(((99, 0, 99), (("r", 0, 99),))), "?99 ?0 ?99 if r ?0 ?99")
        self.assertEqual(question_text((("x",), (("k", 0), ("k", 1), ("k", 10)))), "x if k ?0 and k ?1 and k ?10")

    def test_by_name_and_unchanged(self):
        self.assertEqual(question_text(question=QUESTION), ASKED)
        self.assertTrue(unchanged(question_text, QUESTION))

    def test_what_is_written_is_read_as_what_it_was(self):
        for question in QUESTIONS:
            self.assertIs(look_question(question), True)
            told = read_question(question_text(question))
            self.assertEqual(repr(told), repr(question))
            self.assertTrue(is_plain(told))


class ReadQuestion(unittest.TestCase):
    def test_right_texts(self):
        for text, question in (
            (ASKED, QUESTION),
            ("if k x", ((), (("k", "x"),))),
            ("?0 if k ?0", ((0,), (("k", 0),))),
            ("?99 if k ?99", ((99,), (("k", 99),))),
            ("x y x z if k x", (("x", "y", "x", "z"), (("k", "x"),))),
            ("if iff ands and an i", ((), (("iff", "ands"), ("an", "i")))),
            ("if k x and k y and k z and k ?0 and r ?0 x", ((), (("k", "x"), ("k", "y"), ("k", "z"), ("k", 0), ("r", 0, "x")))),
        ):
            self.assertEqual(repr(read_question(text)), repr(question))
        self.assertEqual(read_question(text=ASKED), QUESTION)
        self.assertIs(type(read_question(ASKED)[0][0]), int)

    def refused(self, text, kind, line=None):
        with self.subTest(repr(text)[:200]):
            told = refusal(read_question, text)
            self.assertIs(type(told), kind)
            self.assertEqual(getattr(told, "line", None), line)

    def test_no_texts(self):
        for thing in ODD + [ASKED.encode(), [ASKED], (ASKED,), {ASKED: ASKED}, QUESTION]:
            if not isinstance(thing, str):
                self.refused(thing, NoText, -1)
            self.assertTrue(unchanged(read_question, thing))

    def test_not_so_made(self):
        for text in (
            "", " ", "if", "if ", " if k x", "k x", "?0", "?0 if", "?0 if ", "?0 if k", "if k x ", "if  k x", "if k  x",
            "if k x\n", "\nif k x", "if k x\nif k x", "if k x and", "if k x and ", "if and k x", "if k x and and k y",
            "if k x if k y", "if if x", "if k if", "if and x", "if k and", "and if k x", "?0 and if k ?0", "if k x y z",
            "if k x and r x y z", "if K x", "if k X", "if abcdefghi x", "if k abcdefghi", "if ?0 x", "if 0 x", "if k 0",
            "if k ?", "if k ?a", "if k ??0", "if k ?0?", "if k ?-1", "if k ?+1", "if k ?00", "if k ?01", "if k ?007",
            "if k ?1234567890", "if k ?0000000000", "if k ?1_0", "if k ? 0", "? if k x", "?01 if k ?1", "x, if k x",
            "If k x", "if k x and k", "if k", "if k>", "if k> x", "if r< x y", "if k x.", "row k x\n", "if k x\tand k y",
            "if k x And k y", "if and and", "if", "ann if", "0 if k x", "-1 if k x",
        ):
            self.refused(text, NoText, 0)

    def test_then_no_question(self):
        for text in (
            "if k ?100", "?100 if k ?100", "if k ?123456789", "if k ?999999999", "?123456789 if k x", "?0 if k x",
            "?0 if k ?1", "x x x x x if k x", "if k x and k x", "if r ?0 ?1 and k x and r ?0 ?1",
            "if k a and k b and k c and k d and k e and k f", "?1 ?0 if k ?0",
        ):
            self.refused(text, NoQuestion)

    def as_right(self, text):
        right = right_question(text)
        if right == 0:
            self.refused(text, NoText, 0)
            return NoText
        if refusal(look_question, right):
            self.refused(text, NoQuestion)
            return NoQuestion
        self.assertEqual(repr(read_question(text)), repr(right))
        self.assertEqual(question_text(read_question(text)), text)
        return None

    def test_one_thing_put_otherwise(self):
        counts = {}
        for text in (ASKED, "?99 if k ?99", "if k x", "?10 if r x ?10 and k ?10"):
            nears = list(near_signs(text, " a\n?019z<A"))
            nears += near_parts(text, " ", ("", "k", "?0", "?99", "?100", "?00", "?123456789", "?1234567890", "if", "and"))
            nears += near_parts(text, " and ", ("", "k ?0", "k", "r ?0 ?1", "r ?0 ?1 ?2", "k x if"))
            for near in nears:
                kind = self.as_right(near)
                counts[kind] = counts.get(kind, 0) + 1
        for kind in (NoText, NoQuestion, None):
            self.assertGreater(counts[kind], 50)

    def test_odd_texts(self):
        for thing in ODD:
            if isinstance(thing, str):
                self.as_right(thing)


if __name__ == "__main__":
    unittest.main()
