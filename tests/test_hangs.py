import random
import unittest

from tests.helpers import Chosen, beside, fails, fresh, made_up, mutated, slow_rank, small_models, with_sums
from tests.test_assign import slow_is_assignment
from tests.test_graph import slow_arcs, slow_feeds, slow_left_out
from tests.test_tied import slow_loose
from unsaidsizes.blocks.hangs import check_hangs, check_rests, hangs, hangs_paper, rests_paper
from unsaidsizes.errors import Hangs, Loose, NoLaw, NoQuantity, NotFull, Rests

FILLERS = {0: [0], 1: [0], 2: [(0, 0)], 3: [0], 4: [0]}

# The source of the first law comes into a, then b and c; that of the second one into b and c; d and e are loose.
MODEL = (["a", "b", "c", "d", "e"], [
    ("exact", [(1, 0, 0)], "f"), ("exact", [(1, 0, 0), (1, 1, 1)], "g"), ("sized", 0, 2, [("s", 0, 1)], ""),
    ("sized", 1, 3, [("t", 0, 4)], "")])


def slow_hangs(model):
    """Point 409: the tied quantities that are loose without a law."""
    quantities, laws = model
    known = slow_loose(model)
    return [[j for j in slow_loose((quantities, laws[:i] + laws[i + 1:])) if j not in known] for i in range(len(laws))]


def is_full(model):
    return slow_rank(model) == len(model[1])


def full_models(many):
    """Small models with as many laws as their rank, some of them side by side."""
    chance = random.Random(409)
    found = [model for model in small_models(100) if is_full(model)]
    seed = 0
    while len(found) < many:
        seed += 1
        n = chance.randint(2, 5)
        model = made_up(seed, n, chance.randint(n - 1, n), chance.choice([0.3, 0.6, 1]), 2, 3, 4, chance.choice([0, 1, 3]))
        if is_full(model):
            found.append(model)
    return found + [beside(one, two) for one, two in zip(found, found[::-1][:10])]


def slow_check(model, quantity, i, paper):
    """Point 411, word by word; a paper of resting has no way."""
    rows, columns, pairs, poor = paper[:4]
    many, laws = len(model[0]), len(model[1])
    if not 0 <= quantity < many or not 0 <= i < laws or not slow_is_assignment(model, rows, columns, pairs):
        return False
    if sorted(rows + [which for which, _ in pairs]) != list(range(laws)):
        return False
    if poor != sorted(set(poor)) or not all(0 <= j < many for j in poor) or quantity in poor:
        return False
    ends = slow_arcs(model, rows, columns, pairs)
    if not set(slow_left_out(model, columns, pairs)) <= set(poor) or any(b not in poor for a in poor for b in ends[a]):
        return False
    fed = slow_feeds(model, rows, columns, pairs, i)
    if len(paper) == 4:
        return set(fed) <= set(poor)
    way = paper[4]
    if not way or way[0] not in fed or way[-1] != quantity or not all(0 <= a < many for a in way):
        return False
    return all(b in ends[a] for a, b in zip(way, way[1:]))


class TestHangs(unittest.TestCase):
    def test_told(self):
        self.assertEqual(fresh(self, hangs, MODEL), [[0, 1, 2], [1, 2], [2], []])
        self.assertEqual(hangs(([], [])), [])
        self.assertEqual(hangs((["a"], [])), [])
        self.assertEqual(hangs((["a"], [("exact", [(5, 3, 0)], "")])), [[0]])

    def test_loose_without_the_law(self):
        for model in small_models(100):
            if not is_full(model):
                fails(self, NotFull, slow_rank(model), hangs, model)
        for model in full_models(150):
            self.assertEqual(fresh(self, hangs, model), slow_hangs(model))

    def test_great_models(self):
        for seed, laws, exact, number in ((71, 24, 0.5, 9), (72, 20, 0.9, 1000000), (73, 27, 0.2, 5)):
            model = made_up(seed, 30, laws, exact, number, 4, 9)
            if not is_full(model):
                fails(self, NotFull, slow_rank(model), hangs, model)
                quantities, told = model
                chosen, kept = Chosen(model), []
                for i in range(len(told)):
                    if slow_rank(model, kept + [i], chosen=chosen) > len(kept):
                        kept.append(i)
                model = (quantities, [told[i] for i in kept])
            self.assertEqual(hangs(model), slow_hangs(model))
        fails(self, NotFull, 20, hangs, with_sums(1, (model[0], model[1][:20]), 2))


class TestPapers(unittest.TestCase):
    def test_told(self):
        hanging = resting = 0
        for model in small_models(60) + full_models(100):
            if not is_full(model):
                rank = slow_rank(model)
                for j, i in ((0, 0), (-1, 0), (99, 99)):
                    fails(self, NotFull, rank, hangs_paper, model, j, i)
                    fails(self, NotFull, rank, rests_paper, model, j, i)
                continue
            told, known = hangs(model), slow_loose(model)
            for i in range(len(model[1])):
                for j in range(len(model[0])):
                    if j in known:
                        fails(self, Loose, j, hangs_paper, model, j, i)
                        fails(self, Loose, j, rests_paper, model, j, i)
                    elif j in told[i]:
                        fails(self, Hangs, j, rests_paper, model, j, i)
                        paper = fresh(self, hangs_paper, model, j, i)
                        self.assertIs(fresh(self, check_hangs, model, j, i, paper), True)
                        self.assertIs(slow_check(model, j, i, paper), True)
                        self.assertIs(check_rests(model, j, i, paper[:4]), False)
                        hanging += 1
                    else:
                        fails(self, Rests, j, hangs_paper, model, j, i)
                        paper = fresh(self, rests_paper, model, j, i)
                        self.assertIs(fresh(self, check_rests, model, j, i, paper), True)
                        self.assertIs(slow_check(model, j, i, paper), True)
                        resting += 1
        self.assertGreater(hanging, 100)
        self.assertGreater(resting, 50)

    def test_order_of_errors(self):
        for function in (hangs_paper, rests_paper):
            for i in (-1, 4, 10 ** 30):
                for j in (-1, 5, -(10 ** 30)):
                    fails(self, NoQuantity, j, function, MODEL, j, i)
                for j in range(5):
                    fails(self, NoLaw, i, function, MODEL, j, i)
            for i in range(4):
                fails(self, Loose, 3, function, MODEL, 3, i)
            needless = (MODEL[0], MODEL[1] + [("exact", [], "")])
            fails(self, NotFull, 4, function, needless, 9, 9)
        fails(self, Rests, 0, hangs_paper, MODEL, 0, 1)
        fails(self, Hangs, 1, rests_paper, MODEL, 1, 1)
        fails(self, Rests, 1, hangs_paper, MODEL, 1, 3)

    def test_changed_papers(self):
        chance = random.Random(411)
        refused = accepted = 0
        for model in full_models(100):
            told, known = hangs(model), slow_loose(model)
            places = [(j, i) for i in range(len(model[1])) for j in range(len(model[0])) if j not in known]
            for j, i in chance.sample(places, min(len(places), 6)):
                paper = hangs_paper(model, j, i) if j in told[i] else rests_paper(model, j, i)
                check = check_hangs if j in told[i] else check_rests
                for _ in range(8):
                    other, quantity, which = paper, j, i
                    what = chance.random()
                    if what < 0.1:
                        quantity = chance.randint(-1, len(model[0]))
                    elif what < 0.2:
                        which = chance.randint(-1, len(model[1]))
                    else:
                        other = mutated(chance, paper, FILLERS)
                    right = slow_check(model, quantity, which, other)
                    self.assertIs(fresh(self, check, model, quantity, which, other), right, (model, quantity, which, other))
                    refused += not right
                    accepted += right
                    if right:
                        self.assertIs(quantity in told[which], check == check_hangs)
        self.assertGreater(refused, 500)
        self.assertGreater(accepted, 50)

    def test_each_condition_alone(self):
        good = ([0, 1], [0, 1], [(2, 2), (3, 3)], [3, 4], [1, 2])
        self.assertIs(fresh(self, check_hangs, MODEL, 2, 0, good), True)
        for at, others in (
                (0, ([0], [1, 0], [], [0, 1, 1], [0, 2], [-1, 1], [0, 10 ** 30])),
                (1, ([0], [1, 0], [0, 2], [], [0, 1, 1], [0, 9])),
                (2, ([], [(2, 2)], [(3, 3), (2, 2)], [(2, 2), (3, 2)], [(2, 0), (3, 3)], [(2, 2), (3, 9)])),
                (3, ([], [3], [4], [4, 3], [3, 3, 4], [2, 3, 4], [1, 3, 4], [3, 4, 5], [-1, 3, 4])),
                (4, ([], [0], [1], [0, 2], [0, 1, 2], [2], [1, 1, 2], [1, 2, 2], [-4, 2], [9, 2], [1, 2, 9], [1, 10 ** 30, 2]))):
            for other in others:
                paper = good[:at] + (other,) + good[at + 1:]
                self.assertIs(fresh(self, check_hangs, MODEL, 2, 0, paper), False, paper)
                self.assertIs(slow_check(MODEL, 2, 0, paper), False, paper)
        for quantity, i in ((1, 0), (0, 0), (3, 0), (2, 2), (2, 3), (5, 0), (-3, 0), (2, 4), (2, -4), (2, 10 ** 30)):
            self.assertIs(check_hangs(MODEL, quantity, i, good), False)
        self.assertIs(check_hangs(MODEL, 2, 1, good), True)
        # A greater set does, if it is closed.
        self.assertIs(check_hangs(MODEL, 2, 0, good[:3] + ([0, 3, 4], [1, 2])), True)
        # The other pair of the last law: then e is paired and d is left out.
        self.assertIs(check_hangs(MODEL, 2, 0, ([0, 1], [0, 1], [(2, 2), (3, 4)], [3, 4], [1, 2])), True)

        rests = ([0, 1], [0, 1], [(2, 2), (3, 3)], [2, 3, 4])
        self.assertIs(fresh(self, check_rests, MODEL, 0, 2, rests), True)
        self.assertIs(check_rests(MODEL, 1, 2, rests), True)
        for quantity, i in ((2, 2), (0, 0), (0, 1), (1, 1), (5, 2), (-5, 2), (0, 4), (0, -2), (10 ** 30, 2)):
            self.assertIs(check_rests(MODEL, quantity, i, rests), False)
        for poor in ([3, 4], [1, 2, 3, 4], [], [2, 3], [2, 4], [2, 3, 4, 4], [4, 3, 2], [0, 2, 3, 4], [2, 3, 4, 5], [-3, 2, 3, 4]):
            told = slow_check(MODEL, 0, 2, rests[:3] + (poor,))
            self.assertIs(check_rests(MODEL, 0, 2, rests[:3] + (poor,)), told)
            self.assertIs(told, poor == [1, 2, 3, 4])
        self.assertIs(check_rests(MODEL, 0, 3, rests[:3] + ([3, 4],)), True)

    def test_not_all_laws(self):
        # An assignment of the greatest size is not enough if the model is not full.
        needless = (MODEL[0], MODEL[1] + [("exact", [], "")])
        self.assertIs(check_hangs(needless, 2, 0, ([0, 1], [0, 1], [(2, 2), (3, 3)], [3, 4], [1, 2])), False)
        self.assertIs(check_rests(needless, 0, 2, ([0, 1], [0, 1], [(2, 2), (3, 3)], [2, 3, 4])), False)
        self.assertIs(check_hangs(([], []), 0, 0, ([], [], [], [], [])), False)
        self.assertIs(check_rests((["a"], []), 0, 0, ([], [], [], [0])), False)


if __name__ == "__main__":
    unittest.main()
