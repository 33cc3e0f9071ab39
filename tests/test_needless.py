import random
import unittest
from math import gcd

from tests.helpers import Chosen, fails, fresh, made_up, slow_entry, slow_plus, slow_times, small_models, with_sums
from unsaidsizes.base.polys import plus, scaled, times
from unsaidsizes.errors import NotExact, WrongSize
from unsaidsizes.ranks.needless import check_relation, demand, relations

# The third law is the derivative of the first one less twice the second one.
MODEL = (["a", "b", "c"], [
    ("exact", [(1, 0, 0), (2, 1, 1)], "f"), ("exact", [(-1, 1, 0), (5, 0, 2)], "g"),
    ("sized", 0, 0, [("s", 0, 1)], "f"), ("exact", [(3, 1, 0), (2, 2, 1), (-10, 0, 2)], "h"), ("exact", [], ""),
    ("exact", [(-2, 0, 0), (-4, 1, 1)], "f")])


def as_dict(one):
    return {k: number for k, number in enumerate(one) if number}


def slow_is_relation(model, multipliers):
    if len(multipliers) != len(model[1]) or any(one and one[-1] == 0 for one in multipliers):
        return False
    exact = [i for i, one in enumerate(model[1]) if one[0] == "exact"]
    if any(multipliers[i] for i in range(len(model[1])) if i not in exact) or not any(multipliers):
        return False
    for j in range(len(model[0])):
        total = {}
        for i in exact:
            total = slow_plus(total, slow_times(as_dict(multipliers[i]), slow_entry(model[1][i], j)))
        if total:
            return False
    return True


def rational_gcd_degree(many):
    """The degree of what all of some polynomials have in common, modulo a great prime."""
    prime = 2 ** 521 - 1
    shared = []
    for one in many:
        one = [number % prime for number in one]
        while one:
            if len(shared) < len(one):
                shared, one = one, shared
                continue
            inverse = pow(one[-1], -1, prime)
            while len(shared) >= len(one):
                factor = shared[-1] * inverse
                up = len(shared) - len(one)
                shared = [(number - (factor * one[k - up] if k >= up else 0)) % prime
                          for k, number in enumerate(shared)]
                while shared and shared[-1] == 0:
                    shared.pop()
            shared, one = one, shared
    return len(shared) - 1


class TestRelations(unittest.TestCase):
    def test_told(self):
        self.assertEqual(fresh(self, relations, MODEL), [
            (3, [[0, -1], [2], [], [1], [], []]), (4, [[], [], [], [], [1], []]), (5, [[2], [], [], [], [], [1]])])
        self.assertEqual(relations(([], [])), [])
        self.assertEqual(fresh(self, relations, ([], [("exact", [], "f"), ("exact", [], "")])),
                         [(0, [[1], []]), (1, [[], [1]])])
        self.assertEqual(relations((["a"], [("sized", 0, 0, [("s", 1, 0)], "")])), [])

    def test_lowest_forms(self):
        # d (d + 1) a and (d^2 - 1) a: the relation has no factor d + 1.
        model = (["a"], [("exact", [(1, 1, 0), (1, 2, 0)], ""), ("exact", [(-1, 0, 0), (1, 2, 0)], "")])
        self.assertEqual(relations(model), [(1, [[1, -1], [0, 1]])])
        model = (["a"], [("exact", [(-6, 0, 0)], ""), ("exact", [(4, 0, 0)], "")])
        self.assertEqual(relations(model), [(1, [[2], [3]])])
        model = (["a"], [("exact", [(4, 0, 0)], ""), ("exact", [(-6, 1, 0)], "")])
        self.assertEqual(relations(model), [(1, [[0, 3], [2]])])
        model = (["a"], [("exact", [(2, 0, 0), (2, 1, 0)], ""), ("exact", [(-3, 0, 0), (3, 2, 0)], "")])
        self.assertEqual(relations(model), [(1, [[3, -3], [2]])])
        # The sign is that of the last coefficient.
        model = (["a"], [("exact", [(1, 0, 0)], ""), ("exact", [(1, 1, 0)], ""), ("exact", [(-1, 0, 0)], "")])
        self.assertEqual(relations(model), [(1, [[0, -1], [1], []]), (2, [[1], [], [1]])])
        model = (["a"], [("exact", [(1, 0, 0), (-1, 1, 0)], ""), ("exact", [(1, 0, 0)], "")])
        self.assertEqual(relations(model), [(1, [[1], [-1, 1]])])

    def test_by_definition(self):
        models = small_models(100)
        for seed in range(12):
            models.append(with_sums(seed, made_up(seed, 8, 9, 0.8, 1000000 if seed % 2 else 4, 4, 5), 3))
        for model in models:
            exact = [i for i, one in enumerate(model[1]) if one[0] == "exact"]
            chosen = Chosen(model)
            everything = list(range(len(model[0])))
            depends = [which for k, which in enumerate(exact)
                       if chosen.rank(exact[:k + 1], everything) == chosen.rank(exact[:k], everything)]
            self.assertEqual(len(depends), len(exact) - chosen.exact_rank(everything))
            told = fresh(self, relations, model)
            self.assertEqual([which for which, _ in told], depends)
            for which, relation in told:
                self.assertTrue(slow_is_relation(model, relation))
                self.assertIs(fresh(self, check_relation, model, relation), True)
                self.assertGreater(relation[which][-1], 0)
                for other, one in enumerate(relation):
                    if other > which or (other in depends and other != which):
                        self.assertEqual(one, [])
                numbers = [number for one in relation for number in one]
                self.assertEqual(gcd(*numbers), 1)
                self.assertEqual(rational_gcd_degree(relation), 0)

    def test_great_models(self):
        for seed, number in ((1, 9), (2, 1000000)):
            model = with_sums(seed, made_up(seed, 30, 34, 0.9, number, 4, 8), 5)
            told = relations(model)
            self.assertGreaterEqual(len(told), 5)
            for _, relation in told:
                self.assertTrue(slow_is_relation(model, relation))


class TestCheckRelation(unittest.TestCase):
    def test_no_relations(self):
        good = [[0, -1], [2], [], [1], [], []]
        self.assertIs(check_relation(MODEL, good), True)
        self.assertIs(check_relation(MODEL, [[0, 0, -5], [0, 10], [], [0, 5], [3, 0, 7], []]), True)
        self.assertIs(check_relation(MODEL, [[2], [], [], [], [1], [1]]), True)
        for wrong in ([], good[:-1], good + [[]], [[]] * 6, [[0, -1], [2], [1], [1], [], []], [[0, -1], [2], [], [], [], []],
                      [[0, -1], [2], [], [-1], [], []], [[0, -1, 0], [2], [], [1], [], []], [[0, -1], [2], [0], [1], [], []],
                      [[0, -1], [2], [], [1], [0], []], [[0, -1], [2], [], [1, 0], [], []], [[0], [0], [0], [0], [0], [0]],
                      [[], [], [], [], [1, 0], []], good * 10, [[]] * 1000, [[1] * 500] * 6):
            self.assertIs(fresh(self, check_relation, MODEL, wrong), False, wrong)
        self.assertIs(check_relation(([], []), []), False)
        self.assertIs(check_relation(([], []), [[]]), False)

    def test_made_up(self):
        chance = random.Random(21)
        for model in small_models(50):
            told = relations(model)
            for _ in range(10):
                made = [[] for _ in model[1]]
                for _, relation in told:
                    factor = [chance.randint(-2, 2) for _ in range(2)] + [chance.choice([-1, 1])]
                    if chance.random() < 0.5:
                        made = [plus(own, times(factor, one)) for own, one in zip(made, relation)]
                if made and chance.random() < 0.3:
                    at = chance.randrange(len(made))
                    made[at] = plus(made[at], [1])
                self.assertIs(check_relation(model, made), slow_is_relation(model, made))


class TestDemand(unittest.TestCase):
    def test_told(self):
        told = {which: relation for which, relation in relations(MODEL)}
        self.assertEqual(fresh(self, demand, MODEL, told[3]), [("f", [0, -1]), ("g", [2]), ("h", [1])])
        self.assertEqual(fresh(self, demand, MODEL, told[4]), [])
        self.assertEqual(fresh(self, demand, MODEL, told[5]), [("f", [3])])
        self.assertEqual(fresh(self, demand, MODEL, [[]] * 6), [])
        self.assertEqual(fresh(self, demand, MODEL, [[1, 2], [], [], [], [7], [-1, -2]]), [])
        self.assertEqual(fresh(self, demand, MODEL, [[1, 2], [4], [], [0, 1], [7], [1, -2]]),
                         [("f", [2]), ("g", [4]), ("h", [0, 1])])
        self.assertEqual(demand(([], []), []), [])

    def test_order_of_sources(self):
        laws = [("exact", [], source) for source in ("b", "a.b", "a", "a0", "ab", "z", "")]
        told = demand(([], laws), [[1]] * 7)
        self.assertEqual(told, [("a", [1]), ("a.b", [1]), ("a0", [1]), ("ab", [1]), ("b", [1]), ("z", [1])])

    def test_linear(self):
        for model in small_models(40):
            multipliers = [[k + 1, 1] if one[0] == "exact" else [] for k, one in enumerate(model[1])]
            told = fresh(self, demand, model, multipliers)
            doubled = demand(model, [scaled(one, 2) for one in multipliers])
            self.assertEqual(doubled, [(source, scaled(one, 2)) for source, one in told])

    def test_errors(self):
        for many in (0, 5, 7, 100):
            fails(self, WrongSize, many, demand, MODEL, [[1]] * many)
        fails(self, NotExact, 2, demand, MODEL, [[1]] * 6)
        fails(self, NotExact, 2, demand, MODEL, [[], [], [0, 1], [], [], []])
        sized = (["a"], [("sized", 0, 0, [("s", 1, 0)], ""), ("sized", 0, 0, [("t", 1, 0)], "")])
        fails(self, NotExact, 1, demand, sized, [[], [1]])
        fails(self, NotExact, 0, demand, sized, [[1], [1]])
        fails(self, WrongSize, 3, demand, sized, [[1], [1], [1]])


if __name__ == "__main__":
    unittest.main()
