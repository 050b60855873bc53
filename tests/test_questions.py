import unittest

from ledquestions.errors import NoQuestion
from ledquestions.questions import is_short, look_question
from tests.helpers import ODD, changed, refusal, unchanged

ONE = ((0,), (("k", 0),))
NAMES = ("a", "z", "abcdefgh", "i", "f", "iff", "an", "ands")
NO_NAMES = ("", "abcdefghi", "if", "and", "A", "aB", "a1", "1", " ", "a b", "a-b", "a\n", "\na", "?0")
NO_TERMS = NO_NAMES + (-1, 100, 101, 10 ** 999, True, False, None, (), (0,), ("a",), [], [0], {}, {0: 1})
ATOMS = tuple(("k", k) for k in range(6))


class LookQuestion(unittest.TestCase):
    def right(self, thing):
        with self.subTest(repr(thing)[:200]):
            self.assertIs(look_question(thing), True)

    def refused(self, thing):
        with self.subTest(repr(thing)[:200]):
            told = refusal(look_question, thing)
            self.assertIs(type(told), NoQuestion)
            self.assertEqual(vars(told), {})

    def test_right_questions(self):
        for thing in (
            ONE,
            ((), (("k", 0),)),
            ((), (("k", "ann"),)),
            (("ann",), (("k", 0),)),
            ((0, "ann"), (("leads", 0, 1), ("staff", 1))),
            ((0, 0, 0, 0), (("r", 0, 0),)),
            ((3, 2, 1, 0), (("r", 0, 1), ("r", 2, 3))),
            ((), (("k", "k"), ("k", "k", "k"), ("k", 0), ("k", 0, "k"))),
            ((9,), (("r", 0, 1), ("r", 2, 3), ("r", 4, 5), ("r", 6, 7), ("r", 8, 9))),
        ):
            self.right(thing)

    def test_one_to_five_atoms(self):
        self.refused(((), ()))
        for many in (1, 2, 3, 4, 5):
            self.right(((), ATOMS[:many]))
            self.right(((many - 1,), ATOMS[:many]))
        self.refused(((), ATOMS))
        self.refused(((0,), ATOMS))

    def test_a_head_of_up_to_four_terms(self):
        for many in range(5):
            self.right(((0,) * many, ONE[1]))
            self.right((("x",) * many, ONE[1]))
        self.refused(((0,) * 5, ONE[1]))
        self.refused((("x",) * 5, ONE[1]))

    def test_unknowns(self):
        for unknown in (0, 1, 98, 99):
            self.right(((unknown,), (("k", unknown),)))
            self.right(((), (("r", unknown, "x"), ("r", "x", unknown))))
        for none in (100, -1, True, False, 10 ** 999, "0", None):
            self.refused(((), (("k", none),)))
            self.refused(((none,), (("k", none),)))
            self.refused(((none,), (("k", 0), ("k", 1))))

    def test_heads_of_unknowns_that_stand_in_no_atom(self):
        self.refused(((1,), (("k", 0),)))
        self.refused(((0, 1), (("k", 0),)))
        self.refused(((0,), (("k", "x"),)))
        self.refused((("x", 0), (("k", "x"), ("r", "x", 1))))
        self.right(((1, "y"), (("k", "x"), ("r", "x", 1))))

    def test_no_atom_twice(self):
        self.refused(((), (("k", 0), ("k", 0))))
        self.refused(((), (("k", 0), ("r", 0, 1), ("k", 0))))
        self.refused(((), (("r", 0, 1), ("k", "x"), ("r", 0, 1))))
        self.right(((), (("r", 0, 1), ("r", 1, 0), ("r", 0, 0), ("r", 0), ("k", 0))))

    def test_lists_for_tuples(self):
        head, atoms = (0, 1), (("r", 0, 1), ("k", 1))
        self.right((head, atoms))
        self.refused([head, atoms])
        self.refused((list(head), atoms))
        self.refused((head, list(atoms)))
        self.refused((head, (list(atoms[0]), atoms[1])))
        self.refused({0: head, 1: atoms})
        self.refused((head, {atom: True for atom in atoms}))
        self.refused((dict.fromkeys(head), atoms))

    def test_parts_more_or_less(self):
        self.refused(())
        self.refused((ONE[0],))
        self.refused(ONE + ((),))
        self.refused(ONE[::-1])
        self.refused(ONE[1])
        for atom in ((), ("k",), ("r", 0, 1, 2), "k", 0, None, {}, [], True, ((), 0)):
            self.refused(((), (atom,)))
            self.refused(((), (("k", 0), atom)))

    def test_names(self):
        for name in NAMES:
            self.right(((name,), ((name, name), (name, 0), (name, 0, name), (name, name, 0))))
        for none in NO_NAMES + (0, 1, True, None, ("k",), [], {}):
            self.refused(((), ((none, 0),)))
            self.refused(((), ((none, 0, 1),)))

    def test_no_terms_in_each_place(self):
        for none in NO_TERMS:
            self.refused(((none,), (("k", 0),)))
            self.refused(((0, none), (("k", 0),)))
            self.refused(((0,), (("k", 0), ("k", none))))
            self.refused(((0,), (("r", 0, none),)))
            self.refused(((0,), (("r", none, 0),)))

    def test_odd_things(self):
        for thing in ODD:
            self.refused(thing)
            if repr(thing) not in ("()", "(0,)", "(0, 0)"):
                self.refused((thing, (("k", 0),)))
            self.refused(((), thing))
            self.refused(((), (thing,)))
            self.assertTrue(unchanged(look_question, thing))
            self.assertTrue(unchanged(look_question, ((), (("k", 0), thing))))

    def test_one_thing_changed(self):
        for question in (ONE, ((0, "x"), (("r", 0, 1), ("k", 1), ("r", "x", 0)))):
            for thing in changed(question):
                with self.subTest(repr(thing)[:200]):
                    told = refusal(look_question, thing)
                    self.assertIn(type(told), (type(None), NoQuestion))
                    self.assertEqual(told is None, is_right(thing))

    def test_by_name(self):
        self.assertIs(look_question(thing=ONE), True)


def is_right(thing):
    """Whether it is a question, told by how it is written, so that a truth is no number."""
    def term(part):
        return repr(part) in [repr(k) for k in range(100)] or name(part)

    def name(part):
        return type(part) is str and 0 < len(part) < 9 and set(part) <= set("abcdefghijklmnopqrstuvwxyz")

    if type(thing) is not tuple or [type(part) for part in thing] != [tuple, tuple]:
        return False
    if len(thing[0]) > 4 or not 0 < len(thing[1]) < 6 or not all(map(term, thing[0])):
        return False
    for atom in thing[1]:
        if type(atom) is not tuple or len(atom) not in (2, 3) or not name(atom[0]) or not all(map(term, atom[1:])):
            return False
    told = [repr(part) for atom in thing[1] for part in atom[1:]]
    return len(set(thing[1])) == len(thing[1]) and all(type(x) is str or repr(x) in told for x in thing[0])


class IsShort(unittest.TestCase):
    def test_up_to_four_unlike_unknowns(self):
        self.assertIs(is_short(((), (("k", "x"),))), True)
        self.assertIs(is_short(ONE), True)
        for many in (1, 2, 3, 4):
            self.assertIs(is_short(((), ATOMS[:many])), True)
        self.assertIs(is_short(((), ATOMS[:5])), False)
        self.assertIs(is_short(((), (("r", 0, 1), ("r", 2, 3)))), True)
        self.assertIs(is_short(((), (("r", 0, 1), ("r", 2, 3), ("k", 4)))), False)
        self.assertIs(is_short(((0,), (("r", 0, 1), ("r", 2, 3), ("r", 4, 5), ("r", 6, 7), ("r", 8, 9)))), False)

    def test_one_again_and_things_do_not_count(self):
        atoms = (("r", 0, 1), ("r", 1, 2), ("r", 2, 3), ("r", 3, 0), ("r", 0, 2))
        self.assertIs(is_short(((0, 1, 2, 3), atoms)), True)
        atoms = (("r", 99, "a"), ("r", "b", 98), ("r", "c", 97), ("r", "d", 96), ("r", "e", "f"))
        self.assertIs(is_short(((), atoms)), True)
        self.assertIs(is_short(((), atoms[:4] + (("r", "e", 0),))), False)

    def test_by_name(self):
        self.assertIs(is_short(question=ONE), True)


if __name__ == "__main__":
    unittest.main()
