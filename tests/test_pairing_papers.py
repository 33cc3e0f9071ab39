import random
import unittest

from tests.helpers import fails, fresh, made_up, slow_value, small_models, with_sums
from tests.test_assign import slow_is_assignment
from tests.test_corners import MODEL, orders_and_wishes, row_of
from unsaidsizes.errors import BadOrder, BadWish
from unsaidsizes.pairing.corners import pairing
from unsaidsizes.pairing.papers import check_pairing, pairing_paper


def slow_check(model, order, wishes, pairs, paper):
    """Point 1104, word by word."""
    states, bounds = paper
    laws = [which for which, _ in pairs]
    if not all(which in order for which in laws) or not all(0 <= j < len(model[0]) for _, j in pairs):
        return False
    places = [order.index(which) for which in laws]
    if places != sorted(set(places)) or len({j for _, j in pairs}) < len(pairs) or len(states) != len(pairs):
        return False
    for k, (rows, columns, own) in enumerate(states):
        if not slow_is_assignment(model, rows, columns, own):
            return False
        if any(order.index(i) > places[k] for i in rows + [i for i, _ in own]):
            return False
        if set(columns) | {j for _, j in own} != {j for _, j in pairs[:k + 1]}:
            return False
    row = row_of(model, wishes)
    many = len(row)
    told = []
    for i, k, poor in bounds:
        if not 0 <= i <= len(order) or not 0 <= k <= many or poor != sorted(set(poor)):
            return False
        if not set(poor) <= set(row[many - k:]):
            return False
        told.append((i, k, k + slow_value(model, poor, laws=order[:i])))
    for a in range(len(order) + 1):
        for b in range(many + 1):
            count = sum(which in order[:a] and j in row[many - b:] for which, j in pairs)
            if a > count and b > count and all(
                    bound + max(0, a - i) + max(0, b - k) > count for i, k, bound in told):
                return False
    return True


class TestPairingPapers(unittest.TestCase):
    def test_told(self):
        chance = random.Random(71)
        models = small_models(60) + [made_up(72, 3, 9, 0.5, 1), made_up(73, 9, 3, 0.5, 1)]
        for model in models:
            for order, wishes in orders_and_wishes(model, chance, 2):
                paper = fresh(self, pairing_paper, model, order, wishes)
                pairs = pairing(model, order, wishes)
                self.assertIs(fresh(self, check_pairing, model, order, wishes, pairs, paper), True)
                self.assertTrue(slow_check(model, order, wishes, pairs, paper))

    def changed(self, chance, model, pairs, paper):
        """A list of pairs and a paper with one thing changed, or two."""
        pairs = list(pairs)
        states = [[list(rows), list(columns), list(own)] for rows, columns, own in paper[0]]
        bounds = [[i, k, list(poor)] for i, k, poor in paper[1]]
        many, laws = len(model[0]), len(model[1])
        what = chance.randrange(9)
        if what == 0 and pairs:
            at = chance.randrange(len(pairs))
            pairs[at] = (pairs[at][0], chance.randint(-1, many))
        elif what == 1 and pairs:
            at = chance.randrange(len(pairs))
            pairs[at] = (chance.randint(-1, laws), pairs[at][1])
        elif what == 2 and pairs:
            at = chance.randrange(len(pairs))
            del pairs[at]
            if chance.random() < 0.5:
                del states[at]
        elif what == 3 and len(pairs) > 1:
            at = chance.randrange(len(pairs) - 1)
            pairs[at:at + 2] = [(pairs[at][0], pairs[at + 1][1]), (pairs[at + 1][0], pairs[at][1])]
        elif what == 4 and states:
            state = chance.choice(states)
            row = state[chance.randrange(2)]
            if row and chance.random() < 0.7:
                row[chance.randrange(len(row))] = chance.randint(-1, max(many, laws))
            else:
                row.append(chance.randint(-1, max(many, laws)))
        elif what == 5 and states:
            own = chance.choice(states)[2]
            if own:
                own[chance.randrange(len(own))] = (chance.randint(-1, laws), chance.randint(-1, many))
        elif what == 6 and bounds:
            bounds[chance.randrange(len(bounds))][chance.randrange(2)] += chance.choice([-1, 1])
        elif what == 7 and bounds:
            poor = chance.choice(bounds)[2]
            if poor and chance.random() < 0.5:
                del poor[chance.randrange(len(poor))]
            else:
                poor.insert(chance.randint(0, len(poor)), chance.randint(-1, many))
        elif bounds:
            del bounds[chance.randrange(len(bounds))]
        return pairs, ([tuple(state) for state in states], [tuple(bound) for bound in bounds])

    def test_changed_papers(self):
        chance = random.Random(74)
        refused = 0
        for model in small_models(70):
            for order, wishes in orders_and_wishes(model, chance, 1):
                paper = pairing_paper(model, order, wishes)
                right = pairing(model, order, wishes)
                for _ in range(12):
                    pairs, other = self.changed(chance, model, right, paper)
                    told = slow_check(model, order, wishes, pairs, other)
                    self.assertIs(check_pairing(model, order, wishes, pairs, other), told, (model, pairs, other))
                    self.assertTrue(not told or pairs == right)
                    refused += not told
        self.assertGreater(refused, 500)

    def test_each_condition_alone(self):
        order, wishes = [0, 1, 2, 3], []
        pairs = [(0, 1), (1, 2), (3, 0)]
        states = [([0], [1], []), ([0], [1], [(1, 2)]), ([0, 3], [0, 2], [(1, 1)])]
        bounds = [(1, 1, [2]), (3, 3, [0, 1, 2])]
        self.assertEqual(pairing(MODEL, order, wishes), pairs)

        def check(pairs=pairs, states=states, bounds=bounds):
            return fresh(self, check_pairing, MODEL, order, wishes, pairs, (states, bounds))
        self.assertIs(check(), True)
        for wrong in ([], pairs[:2], pairs[::-1], [(0, 1), (1, 2), (4, 0)], [(0, 1), (1, 2), (3, 3)], [(0, 1), (0, 2), (3, 0)],
                      [(0, 1), (1, 2), (3, 1)], [(-4, 1), (1, 2), (3, 0)], [(0, -2), (1, 2), (3, 0)],
                      [(0, 1), (1, 2), (2, 0)], [(0, 2), (1, 1), (3, 0)], pairs + [(2, 0)], pairs * 50,
                      [(10 ** 30, 1), (1, 2), (3, 0)], [(0, 1), (3, 0), (1, 2)]):
            self.assertIs(check(pairs=wrong), False, wrong)
        for at, others in (
                (0, (([], [], []), ([0], [0], []), ([2], [1], []), ([0], [2], []), ([1], [1], []), ([], [], [(1, 1)]),
                     ([0], [1], [(1, 2)]), ([-4], [1], []), ([9], [1], []), ([], [1], []))),
                (1, (([0], [1], []), ([0], [1], [(1, 1)]), ([0], [0], [(1, 2)]), ([2], [1], [(1, 2)]), ([3], [2], [(1, 1)]),
                     ([0], [1], [(-3, 2)]), ([0], [1], [(1, 2), (1, 2)]), ([0], [1], [(9, 2)]))),
                (2, (([0, 2], [0, 1], [(1, 2)]), ([3, 0], [0, 2], [(1, 1)]), ([0, 3], [2, 0], [(1, 1)]),
                     ([0, 3], [0, 2], []), ([0, 3, 2], [0, 1, 2], []), ([0, 3], [0, 2], [(1, 0)])))):
            for other in others:
                self.assertIs(check(states=states[:at] + [other] + states[at + 1:]), False, other)
        for wrong in ([], states[:2], states + [states[2]], states[::-1]):
            self.assertIs(check(states=wrong), False)
        for wrong in ([], bounds[:1], bounds[1:]):
            self.assertIs(check(bounds=wrong), False, wrong)
        # Of the right form, but with too great a bound, or for another corner.
        for at, others in (
                (0, [(1, 1, []), (2, 1, [2]), (1, 2, [2]), (1, 0, []), (0, 1, [2]), (4, 1, [2])]),
                (1, [(4, 3, [0, 1, 2]), (3, 3, []), (3, 3, [0, 1]), (3, 3, [0]), (2, 2, [1, 2]), (1, 2, [1, 2])])):
            for other in others:
                wrong = [bound for k, bound in enumerate(bounds) if k != at] + [other]
                self.assertIs(check(bounds=wrong), False, wrong)
                self.assertIs(check(bounds=bounds + [other]), True)
        # Not of the form.
        for other in ((1, 1, [1]), (1, 1, [0]), (3, 2, [0, 1, 2]), (3, 3, [1, 0, 2]), (3, 3, [0, 1, 1, 2]), (3, 3, [0, 1, 2, 3]),
                      (3, 3, [-1, 0, 1, 2]), (5, 3, [0, 1, 2]), (3, 4, [0, 1, 2]), (-1, 3, [0]), (3, -1, []), (3, 0, [2]),
                      (10 ** 30, 3, []), (3, 10 ** 30, [])):
            self.assertIs(check(bounds=bounds + [other]), False, other)

    def test_errors(self):
        none = ([], [])
        fails(self, BadOrder, 3, check_pairing, MODEL, [0, 1, 2], [9], [], none)
        fails(self, BadOrder, 0, check_pairing, MODEL, [4, 1, 2, 3], [], [], none)
        fails(self, BadWish, 1, check_pairing, MODEL, [0, 1, 2, 3], [1, 1], [(9, 9)], none)
        fails(self, BadOrder, 3, pairing_paper, MODEL, [0, 1, 2], [9])
        fails(self, BadOrder, 2, pairing_paper, MODEL, [0, 1, 1, 3], [])
        fails(self, BadWish, 0, pairing_paper, MODEL, [0, 1, 2, 3], [3])
        self.assertIs(check_pairing(([], []), [], [], [], none), True)
        self.assertIs(check_pairing(([], []), [], [], [], ([], [(0, 0, [])])), True)
        self.assertIs(check_pairing(([], []), [], [], [(0, 0)], none), False)

    def test_great_models(self):
        for seed, exact, number in ((75, 0.5, 9), (76, 0.85, 1000000), (77, 0, 1)):
            model = made_up(seed, 30, 37, exact, number, 3, 8)
            model = with_sums(seed, model, 3) if exact else model
            chance = random.Random(seed)
            order = chance.sample(range(len(model[1])), len(model[1]))
            wishes = chance.sample(range(30), 12)
            paper = pairing_paper(model, order, wishes)
            pairs = pairing(model, order, wishes)
            self.assertIs(check_pairing(model, order, wishes, pairs, paper), True)
            self.assertIs(check_pairing(model, order, wishes[::-1], pairs, paper), False)


if __name__ == "__main__":
    unittest.main()
