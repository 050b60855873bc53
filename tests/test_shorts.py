import itertools
import random
import unittest

from ledquestions.errors import NoShorts, Ring, TooGreat
from ledquestions.questions import look_question
from ledquestions.shorts import look_shorts, written_out
from tests.helpers import ODD, changed, refusal, unchanged
from tests.oracles import are_alike, is_plain, some_question, unknowns_in
from tests.test_questions import NO_NAMES, is_right

BOSS = ("boss", ((0,), (("leads", 0, 1), ("staff", 1))))
OVER = ("over", ((5, 2), (("leads", 5, 7), ("leads", 7, 2))))
TOP = ("top", ((0,), (("over", 0, 1), ("boss", 1), ("boss", 0, 1))))
SHORTS = (BOSS, OVER, TOP)
LONG = ((0,), (("r", 0, 1), ("r", 2, 3), ("k", 4)))
ONE = ((0,), (("k", 0),))
TWO = ((0, 1), (("r", 0, 1),))


def chain_of(names, last="k"):
    """Shorts each of which is told by the next one."""
    return tuple((name, ((0,), ((there, 0),))) for name, there in zip(names, list(names[1:]) + [last]))


def is_told(told, atom):
    return atom[0] in told and len(told[atom[0]][0]) == len(atom) - 1


def are_right(thing):
    """Whether they are shorts, whether they lead round or not."""
    if type(thing) is not tuple or len(thing) > 6:
        return False
    for pair in thing:
        if type(pair) is not tuple or len(pair) != 2 or not is_right((pair[:1], (("k", "k"),))) or type(pair[0]) is not str:
            return False
        if not is_right(pair[1]) or len(unknowns_in(pair[1])) > 4:
            return False
        head = pair[1][0]
        if [type(term) for term in head] not in ([int], [int, int]) or len(set(head)) != len(head):
            return False
    return len({pair[0] for pair in thing}) == len(thing)


def leads_round(shorts):
    told = dict(shorts)
    arrows = {(name, atom[0]) for name in told for atom in told[name][1] if is_told(told, atom)}
    for k in range(len(told)):
        arrows |= {(a, d) for a, b in arrows for c, d in arrows if b == c}
    return any(a == b for a, b in arrows)


class LookShorts(unittest.TestCase):
    def right(self, thing):
        with self.subTest(repr(thing)[:200]):
            self.assertTrue(are_right(thing))
            self.assertIs(look_shorts(thing), True)

    def refused(self, thing):
        with self.subTest(repr(thing)[:200]):
            told = refusal(look_shorts, thing)
            self.assertIs(type(told), NoShorts)
            self.assertEqual(vars(told), {})

    def test_right_ones(self):
        for thing in (
            (), (BOSS,), SHORTS, SHORTS[::-1], (("k", ((3,), (("h", 3),))),), (("r", ((3, 99), (("s", 99, 3),))),),
            (("k", ((0,), tuple(("r", 0, k) for k in range(4)))),), (("k", ((0,), (("r", "k", 0), ("h", "x")))),),
            chain_of("abcdef"), chain_of("fedcba"),
        ):
            self.right(thing)

    def test_none_to_six(self):
        names = "abcdefg"
        for many in range(7):
            self.right(tuple((name, ONE) for name in names[:many]))
            self.right(tuple((name, TWO) for name in names[:many]))
        self.refused(tuple((name, ONE) for name in names))
        self.refused(chain_of(names))
        self.refused(chain_of(names, "a"))

    def test_wrong_ones(self):
        for thing in (
            (BOSS, BOSS), (("a", ONE), ("a", TWO)), (("a", ONE), ("b", ONE), ("a", ((1,), (("k", 1),)))),
            (("a", ((), (("k", 0),))),), (("a", ((0, 1, 2), (("r", 0, 1), ("k", 2)))),), (("a", (("x",), (("k", "x"),))),),
            (("a", ((0, 0), (("k", 0),))),), (("a", ((0, "x"), (("r", 0, "x"),))),), (("a", (("x", 0), (("r", 0, "x"),))),),
            (("a", LONG),), (BOSS, ("a", LONG)), (("a", ((1,), (("k", 0),))),), (("a", ((0,), ())),), (("a", None),),
            (("a", ONE, ()),), (("a",),), (("a", ONE[0], ONE[1]),), ((ONE, "a"),), ("a", ONE), ((),), (None,),
            [BOSS], ([*BOSS],), (("a", [*ONE]),), (("a", ([0], ONE[1])),), (("a", (ONE[0], [*ONE[1]])),), dict(SHORTS),
            ({"a": ONE},), (("a", ((True,), (("r", 0, 1),))),), (("a", ((1,), (("r", 0, True),))),),
            (("a", ((0,), (("k", 0), ("k", 0)))),), (("a", ((0,), tuple(("r", 0, "x" * k) for k in range(1, 7)))),),
            (("a", ((100,), (("k", 100),))),), None, True, 0, "a", "",
        ):
            self.assertFalse(are_right(thing))
            self.refused(thing)

    def test_names(self):
        for none in NO_NAMES + (0, None, True, (), ("a",), [], {}):
            self.refused(((none, ONE),))
            self.refused((BOSS, (none, ONE)))
        for name in ("a", "abcdefgh", "iff", "ands", "i"):
            self.right(((name, ONE),))

    def test_no_shorts_ahead_of_a_ring(self):
        ring = chain_of("ab", "a")
        self.assertIs(type(refusal(look_shorts, ring)), Ring)
        for wrong in (None, ("a", ONE), ("c", LONG), ("c", ((), (("k", 0),))), ["c", ONE], (0, ONE)):
            self.refused(ring + (wrong,))
            self.refused((wrong,) + ring)
        self.refused(list(ring))

    def ring(self, thing, among=None):
        with self.subTest(repr(thing)[:300]):
            told = refusal(look_shorts, thing)
            self.assertIs(type(told), Ring)
            names, given = told.names, dict(thing)
            self.assertIs(type(names), tuple)
            self.assertGreater(len(names), 0)
            self.assertEqual(len(set(names)), len(names))
            for one, other in zip(names, names[1:] + names[:1]):
                self.assertTrue(any(atom[0] == other and is_told(given, atom) for atom in given[one][1]))
            if among is not None:
                self.assertEqual(set(names), set(among))
            self.assertEqual(refusal(look_shorts, thing).names, names)

    def test_rings(self):
        self.ring(chain_of("a", "a"), "a")
        for names in ("ab", "abc", "abcd", "abcde", "abcdef", "fbdace"):
            self.ring(chain_of(names, names[0]), names)
        self.ring((("a", ONE), ("b", ((0,), (("a", 0), ("b", 0)))), ("c", ((0,), (("b", 0),)))), "b")
        self.ring((("d", ((0,), (("a", 0),))),) + chain_of("abc", "b"), "bc")
        self.ring((("r", ((0, 1), (("r", 1, 0),))),), "r")
        self.ring((("r", ((0, 1), (("k", 1), ("s", 0, 1)))), ("k", ((0,), (("r", 0, "x"),)))), "rk")
        self.ring(chain_of("ab", "a") + chain_of("cd", "c"))
        self.ring(chain_of("abc", "a") + (("d", ((0,), (("a", 0), ("b", 0), ("d", 0)))),))

    def test_a_name_for_a_kind_is_none_in_atoms_of_two_terms(self):
        self.right((("a", ((0,), (("a", 0, 1),))),))
        self.right((("a", ((0, 1), (("a", 0), ("r", 0, 1)))),))
        self.right((("a", ((0,), (("b", 0),))), ("b", ((0,), (("a", 0, 0),)))))
        self.right((("a", ((0, 1), (("b", 0, 1),))), ("b", ((0, 1), (("a", 0), ("a", 1))))))
        self.ring((("a", ((0,), (("a", 0, 1), ("a", 1)))),), "a")
        self.ring((("a", ((0, 1), (("a", 0), ("a", 0, 1)))),), "a")

    def test_some_and_all(self):
        counts = [0, 0]
        for shorts in SOME:
            self.assertTrue(are_right(shorts))
            counts[leads_round(shorts)] += 1
            if leads_round(shorts):
                self.ring(shorts)
            else:
                self.assertIs(look_shorts(shorts), True)
        self.assertGreater(min(counts), 40)

    def test_one_thing_changed(self):
        kinds = {}
        for shorts in (SHORTS, chain_of("ab")):
            for thing in changed(shorts):
                told = type(refusal(look_shorts, thing))
                right = NoShorts
                if are_right(thing):
                    right = Ring if leads_round(thing) else type(None)
                with self.subTest(repr(thing)[:300]):
                    self.assertIs(told, right)
                kinds[told] = kinds.get(told, 0) + 1
        self.assertGreater(min(kinds[NoShorts], kinds[Ring] * 20, kinds[type(None)]), 10)

    def test_odd_things(self):
        for thing in ODD:
            if thing != ():
                self.refused(thing)
            self.refused((thing,))
            self.refused((("a", thing),))
            self.refused((BOSS, (thing, ONE))) if thing not in ("a", "within") else None
            self.assertTrue(unchanged(look_shorts, thing))
            self.assertTrue(unchanged(look_shorts, (("a", thing),)))

    def test_by_name(self):
        self.assertIs(look_shorts(thing=SHORTS), True)


def some_shorts(seed, atoms=3, free=False):
    """Shorts by the figures of a seed: told by names of their own and of others; none lead round where free."""
    maker = random.Random(seed)
    names = maker.sample("abcdef", maker.randint(1, 6))
    found = []
    for k, name in enumerate(names):
        many = maker.choice((1, 2))
        others = names[k + 1:] if free else names
        kinds, roles = tuple(others[:2]) + ("k",), tuple(others[:2]) + ("r", "r")
        while True:
            head, told = some_question(
                maker.random(), atoms=atoms, unknowns=(0, 1, 2), things=("x",), kinds=kinds, roles=roles, heads=0)
            unknowns = unknowns_in((head, told))
            if len(unknowns) >= many:
                break
        found.append((name, (tuple(maker.sample(unknowns, many)), told)))
    return tuple(maker.sample(found, len(found)))


SOME = [some_shorts(seed) for seed in range(150)] + [some_shorts(seed, free=True) for seed in range(50)]
FREE = [some_shorts(seed, 2 + seed % 4, True) for seed in range(400)]


def asked_by(seed, shorts):
    """A question of names that the shorts tell, some in atoms of as many terms as they are told for."""
    maker = random.Random(seed)
    given = dict(shorts)
    atoms = []
    for k in range(maker.randint(1, 3)):
        name = maker.choice(list(given) + ["k"])
        many = len(given.get(name, ((0,),))[0]) if maker.random() < 0.8 else maker.choice((1, 2))
        atoms.append((name,) + tuple(maker.choice((0, 7, "x", "y")) for k in range(many)))
    terms = sorted({term for atom in atoms for term in atom[1:]}, key=repr)
    return tuple(maker.choice(terms) for k in range(maker.randint(0, 2))), tuple(dict.fromkeys(atoms))


def opened(shorts, question):
    """The question written out, whatever its size."""
    told, numbers = dict(shorts), itertools.count(1000)

    def atoms_of(atom):
        if not is_told(told, atom):
            return [atom]
        head, atoms = told[atom[0]]
        given = dict(zip(head, atom[1:]))
        for unknown in unknowns_in((head, atoms)):
            given.setdefault(unknown, next(numbers))
        return [last for inner in atoms for last in atoms_of(inner[:1] + tuple(given.get(t, t) for t in inner[1:]))]

    return question[0], tuple(dict.fromkeys(last for atom in question[1] for last in atoms_of(atom)))


class WrittenOut(unittest.TestCase):
    def told(self, shorts, question, right):
        with self.subTest(repr((shorts, question))[:300]):
            self.assertTrue(are_right(shorts) and look_question(question))
            told = written_out(shorts, question)
            self.assertIs(look_question(told), True)
            self.assertTrue(is_plain(told))
            self.assertTrue(are_alike(told, right), told)
            self.assertEqual(repr(written_out(shorts, question)), repr(told))

    def refused(self, shorts, question):
        with self.subTest(repr((shorts, question))[:300]):
            self.assertTrue(are_right(shorts) and look_question(question))
            self.assertIs(type(refusal(written_out, shorts, question)), TooGreat)

    def test_some(self):
        self.told((), ONE, ONE)
        self.told(SHORTS, ONE, ONE)
        self.told(SHORTS, ((3,), (("boss", 3),)), ((3,), (("leads", 3, 0), ("staff", 0))))
        self.told(SHORTS, ((1, 0), (("over", 1, 0),)), ((1, 0), (("leads", 1, 2), ("leads", 2, 0))))
        self.told(SHORTS, ((), (("over", 7, 7),)), ((), (("leads", 7, 2), ("leads", 2, 7))))
        self.told(SHORTS, (("z",), (("over", "x", "y"),)), (("z",), (("leads", "x", 0), ("leads", 0, "y"))))
        self.told(SHORTS, ((), (("over", "x", "x"), ("k", 0))), ((), (("leads", "x", 1), ("leads", 1, "x"), ("k", 0))))
        self.told(SHORTS, ((), (("top", "x"),)), (
            (), (("leads", "x", 0), ("leads", 0, 1), ("leads", 1, 2), ("staff", 2), ("boss", "x", 1))))

    def test_terms_with_the_numbers_of_the_shorts(self):
        shorts = (("a", ((0, 1), (("r", 0, 1), ("r", 1, 2)))),)
        self.told(shorts, ((1, 0), (("a", 1, 0),)), ((1, 0), (("r", 1, 0), ("r", 0, 2))))
        self.told(shorts, ((2, 0), (("a", 2, 0),)), ((2, 0), (("r", 2, 0), ("r", 0, 1))))
        self.told(shorts, ((2, 2), (("a", 2, 2),)), ((2, 2), (("r", 2, 2), ("r", 2, 1))))

    def test_each_atom_has_unknowns_of_its_own(self):
        self.told((BOSS,), ((0, 1), (("boss", 0), ("boss", 1))), (
            (0, 1), (("leads", 0, 2), ("staff", 2), ("leads", 1, 3), ("staff", 3))))
        some = ("some", ((0,), (("r", 0, 1),)))
        twice = (some, ("one", ((0,), (("some", 0),))), ("other", ((4,), (("some", 4),))))
        self.told(twice, ((0,), (("one", 0), ("other", 0))), ((0,), (("r", 0, 1), ("r", 0, 2))))
        self.told(twice, ((0,), (("some", 0), ("other", 0), ("one", 0))), ((0,), (("r", 0, 1), ("r", 0, 2), ("r", 0, 3))))
        self.told(twice, ((0,), (("r", 0, 1), ("some", 0))), ((0,), (("r", 0, 1), ("r", 0, 2))))
        self.refused(twice, ((0,), (("r", 0, 1), ("some", 0), ("other", 0), ("one", 0))))

    def test_the_same_atoms_once(self):
        shorts = (("a", ((0,), (("k", 0), ("h", 0)))), ("b", ((0,), (("a", 0), ("k", 0)))))
        self.told(shorts, ((0,), (("a", 0), ("b", 0), ("k", 0))), ((0,), (("k", 0), ("h", 0))))
        wide = (("a", ((0,), tuple((name, 0) for name in ("h", "i", "j", "k", "l")))),)
        self.told(wide, ((0,), (("a", 0), ("h", 0), ("i", 0), ("j", 0), ("k", 0))), wide[0][1])
        self.refused(wide, ((0,), (("a", 0), ("m", 0))))

    def test_names_for_kinds_and_for_roles(self):
        shorts = (("a", ((0,), (("k", 0),))), ("b", ((0, 1), (("r", 1, 0),))))
        self.told(shorts, ((0,), (("a", 0), ("a", 0, 1))), ((0,), (("k", 0), ("a", 0, 1))))
        self.told(shorts, ((0,), (("b", 0), ("b", 0, 1))), ((0,), (("b", 0), ("r", 1, 0))))
        self.told((("a", ((0,), (("a", 0, 0),))),), ((0,), (("a", 0),)), ((0,), (("a", 0, 0),)))

    def test_things_with_the_names_of_shorts(self):
        shorts = (("a", ((0,), (("b", 0), ("r", 0, "a")))), ("b", ((1,), (("k", 1), ("k", "b")))))
        self.told(shorts, ((), (("a", "b"),)), ((), (("k", "b"), ("r", "b", "a"))))
        self.told(shorts, (("a",), (("b", "a"), ("a", "a"))), (("a",), (("k", "a"), ("k", "b"), ("r", "a", "a"))))

    def test_just_as_many_atoms_as_may_be(self):
        five = (("a", ((0,), tuple(("r", 0, "x" * k) for k in range(1, 6)))),)
        self.told(five, ((0,), (("a", 0),)), five[0][1])
        self.refused(five, ((0,), (("a", 0), ("k", 0))))
        self.refused(five, ((0,), (("a", 0), ("a", "x"))))
        pair = (("a", ((0,), (("h", 0), ("k", 0)))),)
        self.told(pair, ((0, 1), (("a", 0), ("a", 1), ("r", 0, 1))), (
            (0, 1), (("h", 0), ("k", 0), ("h", 1), ("k", 1), ("r", 0, 1))))
        self.refused(pair, ((0, 1), (("a", 0), ("a", 1), ("r", 0, 1), ("r", 1, 0))))

    def test_just_as_many_unknowns_as_may_be(self):
        some = (("a", ((0,), (("r", 0, 1),))),)
        self.told(some, ((0, 1), (("a", 0), ("a", 1))), ((0, 1), (("r", 0, 2), ("r", 1, 3))))
        self.refused(some, ((0, 1), (("a", 0), ("a", 1), ("a", "x"))))
        self.told(some, ((), tuple(("a", name) for name in "wxyz")), ((), tuple(("r", n, k) for k, n in enumerate("wxyz"))))
        self.refused(some, ((), tuple(("a", name) for name in "vwxyz")))
        self.told((), ((), tuple(("k", k) for k in range(4))), ((), tuple(("k", k) for k in range(4))))
        self.refused((), ((), tuple(("k", k) for k in range(5))))
        self.refused(some, LONG)
        self.refused((), LONG)

    def test_many_names(self):
        self.told(chain_of("abcdef"), ((0,), (("a", 0),)), ONE)
        flat = [("k", ((0, 1), (("r", 0, 1), ("r", 1, 0), ("r", 0, 0), ("r", 1, 1))))]
        for name, last in zip("abcde", "kabcd"):
            flat.append((name, ((0, 1), ((last, 0, 1), (last, 1, 0), (last, 0, 0), (last, 1, 1)))))
        self.told(tuple(flat), ((0, 1), (("e", 0, 1),)), flat[0][1])

    def test_any_order_of_the_shorts(self):
        for order in itertools.permutations(SHORTS):
            self.told(order, ((), (("top", "x"),)), opened(SHORTS, ((), (("top", "x"),))))

    def test_some_and_all(self):
        counts = {}
        for seed, shorts in enumerate(FREE):
            self.assertIs(look_shorts(shorts), True)
            question = asked_by(seed, shorts)
            right = opened(shorts, question)
            great = len(right[1]) > 5 or len(unknowns_in(right)) > 4
            counts[great] = counts.get(great, 0) + 1
            if great:
                self.refused(shorts, question)
            else:
                self.told(shorts, question, right)
                self.assertFalse([atom for atom in written_out(shorts, question)[1] if is_told(dict(shorts), atom)])
                other = shorts[::-1]
                self.assertTrue(are_alike(written_out(other, question), right))
        self.assertGreater(min(counts.values()), 50)

    def test_the_head_stays(self):
        self.assertEqual(written_out(SHORTS, ((3, "z", 3), (("boss", 3),)))[0], (3, "z", 3))

    def test_by_name_and_unchanged(self):
        question = ((3,), (("boss", 3),))
        self.assertEqual(written_out(question=question, shorts=SHORTS), written_out(SHORTS, question))
        self.assertTrue(unchanged(written_out, SHORTS, question))
        self.assertTrue(unchanged(written_out, SHORTS, LONG))

    def test_a_ring_ends(self):
        for shorts in (chain_of("a", "a"), chain_of("abc", "a"), (("a", ((0,), (("r", 0, 1), ("a", 1)))),)):
            self.assertIn(type(refusal(written_out, shorts, ((0,), (("a", 0),)))), (Ring, TooGreat))
        self.assertEqual(written_out(chain_of("ab", "a"), ONE), ONE)


if __name__ == "__main__":
    unittest.main()
