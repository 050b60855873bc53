import inspect
import itertools
import random
import unittest

from ledquestions.answering import answers
from ledquestions.bounds import UNKNOWNS
from ledquestions.clashing import clashes
from ledquestions.errors import Clash
from ledquestions.folding import world
from ledquestions.worlds import holds_book, is_told_world, world_answers
from tests.book_oracles import some_book
from tests.helpers import refusal, unchanged
from tests.oracles import is_plain, is_so, some_question, unknowns_in
from tests.test_trees import CLASHING, ENDLESS, FORKED, GROWING

BOOKS = GROWING + [some_book(seed, many=6, somes=4) for seed in range(40)]
A, R, RB, S, SB = ("a",), ("r", 0), ("r", 1), ("s", 0), ("s", 1)
# Partners without end by several turns, so that much is taken as one.
BUSY = (
    (
        ("within", A, R), ("within", A, S), ("within", RB, A), ("within", SB, ("b",)), ("within", ("b",), ("t", 1)),
        ("within", ("t", 0), ("c",)), ("within", ("c",), R), ("apart", ("b",), ("c",)), ("away", R, RB),
    ),
    (("a", "x"), ("b", "y"), ("r", "y", "z")),
)


def drawn(maker, lines, many):
    """A question without a head that is matched in the lines, at most so many of whose unnamed things it goes over."""
    nodes = [maker.choice([part for line in lines for part in line[1:] if type(part) is int])]
    chosen = []
    for again in range(15):
        node = maker.choice(nodes)
        line = maker.choice([line for line in lines if node in line[1:]])
        new = [part for part in line[1:] if type(part) is int and part not in nodes]
        if len(nodes) + len(new) <= many and line not in chosen and len(chosen) < 5:
            nodes += new
            chosen.append(line)
    names = {node: k for k, node in enumerate(nodes)}
    return (), tuple(line[:1] + tuple(names.get(part, part) for part in line[1:]) for line in chosen)


def beside_itself(lines):
    """The world beside a copy of itself whose things have no names."""
    numbers = {}
    free = 1 + max([part for line in lines for part in line[1:] if type(part) is int], default=-1)
    return lines + tuple(
        line[:1] + tuple(numbers.setdefault(part, free + len(numbers)) for part in line[1:]) for line in lines)


class World(unittest.TestCase):
    def test_holds_the_book(self):
        for book in BOOKS + [BUSY]:
            for many in range(UNKNOWNS + 1):
                told = world(book, many=many)
                with self.subTest(repr((book, many))):
                    self.assertIs(is_told_world(told), True)
                    self.assertTrue(is_plain(told))
                    self.assertIs(holds_book(book, told), True)
                    self.assertTrue(all(is_so(told, rule) for rule in book[0]))
                    self.assertLessEqual(set(book[1]), set(told))
                    self.assertEqual(repr(world(book, many=many)), repr(told))

    def test_without_partners(self):
        self.assertEqual(world(((), ())), ())
        self.assertEqual(set(world(((("within", A, ("b",)),), (("a", "x"),)))), {("a", "x"), ("b", "x")})

    def test_just_the_sure_answers(self):
        looked = more = 0
        for seed, book in enumerate(BOOKS):
            worlds = [world(book, many=many) for many in range(UNKNOWNS + 1)]
            for again in range(8):
                question = some_question(
                    100 * seed + again, atoms=5, unknowns=(0, 1, 2, 3)[:1 + again % 4], things=("x",),
                    kinds=("a", "b"), roles=("r", "s"), heads=again % 3)
                told = answers(book, question)
                for many in range(len(unknowns_in(question)), UNKNOWNS + 1):
                    self.assertEqual(world_answers(worlds[many], question), told, repr((book, question, many)))
                    looked += 1
                more += bool(told)
        self.assertGreater(looked, 600)
        self.assertGreater(more, 50)

    def test_questions_without_unknowns(self):
        for book in BOOKS:
            told = world(book, many=0)
            for line in itertools.chain(itertools.product("ab", "xy"), itertools.product("rs", "xy", "xy")):
                self.assertEqual(world_answers(told, ((), (line,))), answers(book, ((), (line,))))

    def test_what_it_shows_of_unnamed_things_is_sure(self):
        looked = 0
        for seed, book in enumerate(GROWING + [BUSY]):
            for many in range(1, UNKNOWNS + 1):
                told = world(book, many=many)
                maker = random.Random(10 * seed + many)
                for again in range(12):
                    question = drawn(maker, told, many)
                    if question[1]:
                        self.assertEqual(answers(book, question), ((),), repr((book, many, question)))
                        looked += len(question[1]) > 2
        self.assertGreater(looked, 150)

    def test_over_partners_and_back_and_rings(self):
        for book in GROWING + [BUSY]:
            lines = world(book)
            for roles in itertools.product("rs", repeat=3):
                one, two, three = roles
                for question in (
                    ((0, 2), ((one, 0, 1), (two, 2, 1))), ((0, 3), ((one, 0, 1), (two, 1, 2), (three, 3, 2))),
                    ((), ((one, 0, 1), (two, 1, 2), (three, 2, 0))), ((), ((one, 0, 1), (two, 1, 2), (three, 0, 2))),
                    ((), ((one, 0, 1), (two, 1, 2), (three, 2, 3), (one, 3, 0))), ((), ((one, 0, 1), (two, 2, 1), (three, 2, 3), ("a", 3))),
                    ((), ((one, 0, 1), (two, 1, 0))), ((), ((one, 0, 0),)), ((0,), ((one, 0, 1), (two, 1, 1))),
                    ((), ((one, 0, 1), (two, 2, 1), (three, 2, 3), (one, 0, 3))), ((), (("a", 0), (one, 0, 1), (two, 2, 1), ("b", 2))),
                ):
                    self.assertEqual(world_answers(lines, question), answers(book, question), repr((book, question)))

    def test_beside_a_copy_without_names(self):
        for seed, book in enumerate(BOOKS[:30] + [BUSY]):
            for many in (1, 2, 4):
                lines = beside_itself(world(book, many=many))
                self.assertIs(holds_book(book, lines), True)
                for again in range(4):
                    question = some_question(
                        50 * seed + again, atoms=3, unknowns=tuple(range(many)), things=("x",), kinds=("a", "b"), roles=("r", "s"))
                    self.assertEqual(world_answers(lines, question), answers(book, question))

    def test_clash(self):
        for many in range(UNKNOWNS + 1):
            told = refusal(world, CLASHING, many=many)
            self.assertIs(type(told), Clash)
            self.assertEqual(vars(told), {"rows": clashes(CLASHING)[0]})

    def test_as_great_as_may_be(self):
        rules = tuple(("within", A, (role, side)) for role in "rs" for side in (0, 1)) + tuple(
            ("within", (role, side), A) for role in "rs" for side in (0, 1))
        book = (rules, tuple(("a", name) for name in "efghijklmnop"))
        lines = world(book)
        self.assertIs(holds_book(book, lines), True)
        question = ((0,), (("r", 0, 1), ("s", 1, 2), ("r", 3, 2), ("s", 3, 0)))
        self.assertEqual(world_answers(lines, question), ())

    def test_many_left_out_and_by_name(self):
        self.assertEqual(inspect.signature(world).parameters["many"].default, 4)
        self.assertEqual(world(FORKED), world(FORKED, many=4))
        self.assertEqual(world(many=2, book=FORKED), world(FORKED, many=2))
        self.assertRaises(TypeError, world, FORKED, 2)
        self.assertTrue(unchanged(world, ENDLESS))


if __name__ == "__main__":
    unittest.main()
