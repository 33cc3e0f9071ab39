"""The functions whose names begin with is_ or check_ answer, whatever numbers and lists they get."""

import random
import unittest

from tests.helpers import fresh, small_models
from unsaidsizes.blocks.givens import check_givens, dearest, givens_paper
from unsaidsizes.pairing.corners import pairing
from unsaidsizes.pairing.papers import check_pairing, pairing_paper
from unsaidsizes.ranks.assign import assignment, is_assignment, rank
from unsaidsizes.ranks.needless import check_relation, relations
from unsaidsizes.ranks.papers import check_rank, rank_paper

NUMBERS = [-(10 ** 30), -31, -3, -2, -1, 0, 0, 0, 1, 1, 1, 2, 2, 2, 3, 4, 5, 6, 29, 30, 40, 41, 10 ** 30]


class Junk:
    def __init__(self, seed):
        self.chance = random.Random(seed)

    def number(self):
        return self.chance.choice(NUMBERS)

    def length(self):
        return self.chance.choice([0, 0, 1, 1, 2, 2, 3, 4, 5, 60])

    def numbers(self):
        return [self.number() for _ in range(self.length())]

    def pairs(self):
        return [(self.number(), self.number()) for _ in range(self.length())]

    def lists(self):
        return [self.numbers() for _ in range(self.length())]

    def states(self):
        return [(self.numbers(), self.numbers(), self.pairs()) for _ in range(self.length())]

    def triples(self):
        return [(self.number(), self.number(), self.numbers()) for _ in range(self.length())]

    def mixed(self, right, wrong):
        """The right thing, or junk of the same form."""
        return right if self.chance.random() < 0.5 else wrong()


class TestJunk(unittest.TestCase):
    def test_junk(self):
        for seed, model in enumerate(small_models(40)):
            junk = Junk(seed)
            whole = rank(model)
            rows, columns, pairs, poor = rank_paper(model)
            for _ in range(30):
                told = (junk.mixed(rows, junk.numbers), junk.mixed(columns, junk.numbers), junk.mixed(pairs, junk.pairs))
                self.assertIn(fresh(self, is_assignment, model, *told), (True, False))
                paper = told + (junk.mixed(poor, junk.numbers),)
                number = junk.mixed(whole, junk.number)
                accepted = fresh(self, check_rank, model, number, paper)
                # What a check accepts is right, whoever made it.
                self.assertTrue(accepted is False or number == whole)

    def test_junk_of_givens(self):
        for seed, model in enumerate(small_models(40)):
            junk = Junk(seed)
            quantities = list(range(len(model[0])))
            for _ in range(20):
                wishes = junk.chance.sample(quantities, junk.chance.randint(0, len(quantities)))
                right = dearest(model, wishes)
                columns = junk.mixed(right, junk.numbers)
                paper = [junk.mixed(good, bad) for good, bad in zip(
                    givens_paper(model, wishes), (junk.numbers, junk.numbers, junk.pairs, junk.numbers, junk.lists))]
                accepted = fresh(self, check_givens, model, wishes, columns, tuple(paper))
                self.assertTrue(accepted is False or columns == right)

    def test_junk_of_pairings(self):
        for seed, model in enumerate(small_models(40)):
            junk = Junk(seed)
            order = junk.chance.sample(range(len(model[1])), len(model[1]))
            right = pairing(model, order, [])
            states, bounds = pairing_paper(model, order, [])
            for _ in range(20):
                pairs = junk.mixed(right, junk.pairs)
                paper = (junk.mixed(states, junk.states), junk.mixed(bounds, junk.triples))
                accepted = fresh(self, check_pairing, model, order, [], pairs, paper)
                self.assertTrue(accepted is False or pairs == right)

    def test_junk_of_relations(self):
        for seed, model in enumerate(small_models(40)):
            junk = Junk(seed)
            told = [relation for _, relation in relations(model)] + [[[] for _ in model[1]]]
            for _ in range(20):
                lists = junk.mixed(junk.chance.choice(told), junk.lists)
                self.assertIn(fresh(self, check_relation, model, lists), (True, False))

    def test_very_long_lists(self):
        model = (["a", "b"], [("exact", [(1, 0, 0), (1, 1, 1)], ""), ("sized", 0, 1, [("s", 0, 0)], "")])
        rows, columns, pairs = assignment(model)
        for long in ([0] * 100000, list(range(100000)), [10 ** 30] * 100000, [-1] * 100000):
            twos = [(k, k) for k in long]
            self.assertIs(is_assignment(model, long, long, twos), False)
            self.assertIs(is_assignment(model, rows, columns, twos), False)
            self.assertIs(check_rank(model, 2, (rows, columns, pairs, long)), False)
            self.assertIs(check_rank(model, 100000, (long, long, [], long)), False)
            self.assertIs(check_givens(model, [], long, (rows, columns, pairs, [], [[], []])), False)
            self.assertIs(check_givens(model, [], [], (rows, columns, pairs, [], [long] * 2)), False)
            self.assertIs(check_givens(model, [], [], (rows, columns, pairs, [], [[]] * 100000)), False)
            self.assertIs(check_pairing(model, [0, 1], [], twos, ([], [])), False)
            self.assertIs(check_pairing(model, [0, 1], [], [(0, 1), (1, 0)], ([(long, long, twos)] * 2, [])), False)
            self.assertIs(check_pairing(model, [0, 1], [], [], ([], [(0, 0, long)])), False)
            self.assertIs(check_relation(model, [long, []]), False)
        right = pairing_paper(model, [0, 1], [])
        self.assertIs(check_pairing(model, [0, 1], [], pairing(model, [0, 1], []), (right[0], right[1] + [(2, 2, [])] * 2000)),
                      True)


if __name__ == "__main__":
    unittest.main()
