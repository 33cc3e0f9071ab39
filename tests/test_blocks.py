import random
import unittest

from tests.helpers import Chosen, beside, fresh, made_up, mutated, slow_touched, slow_value, small_models, subsets, with_sums
from tests.test_assign import slow_is_assignment
from tests.test_graph import reached, slow_arcs, slow_exits, slow_left_out
from tests.test_tied import slow_least_sets
from unsaidsizes.blocks.blocks import check_parts, is_least, needs, own_laws, parts, parts_paper
from unsaidsizes.ranks.assign import assignment, least_sets

FILLERS = {0: [0], 1: [0], 2: [(0, 0)], 3: [(0, -1)], 4: [(0, -1)], 5: [[0], 0]}
PART_FILLERS = {0: [0], 1: [[0], 0], 2: [0]}

# A chain 0 <- 1 <- {2, 3}, 4 loose, 5 crowded.
CHAIN = (["a", "b", "c", "d", "e", "f"], [
    ("sized", 0, 0, [("s", 1, 0)], "f"), ("sized", 0, 1, [("t", 0, 0)], ""),
    ("sized", 0, 2, [("u", 0, 3), ("v", 0, 1)], ""), ("sized", 0, 3, [("w", 0, 2)], ""),
    ("exact", [(1, 0, 5)], ""), ("sized", 0, 5, [("x", 1, 5)], "g")])


def slow_parts(model):
    """Point 405, word by word, and for each block those that it needs."""
    sets = slow_least_sets(model)
    many = range(len(model[0]))
    loose = [j for j in many if all(j in one for one in sets)]
    crowded = [j for j in many if not any(j in one for one in sets)]
    groups = {}
    for j in many:
        if j not in loose and j not in crowded:
            groups.setdefault(tuple(j in one for one in sets), []).append(j)
    left = sorted(groups.values())

    def needed(block, other):
        return block != other and all(block[0] in one for one in sets if other[0] in one)
    order = []
    while left:
        free = [block for block in left if not any(needed(block, other) for other in left)]
        order.append(min(free))
        left.remove(min(free))
    told = [[k for k, other in enumerate(order) if needed(block, other)] for block in order]
    return (loose, order, crowded), told


def slow_own(model, told, needed):
    """Point 406: the own sized laws, and the exact ranks of least sets with and without the block."""
    loose, blocks, _ = told
    chosen, sets = Chosen(model), slow_least_sets(model)
    found = []
    for k, block in enumerate(blocks):
        barred = set(loose) | {j for m, other in enumerate(blocks) if k in needed[m] for j in other}
        sized = [i for i, one in enumerate(model[1]) if one[0] == "sized" and slow_touched(one) & set(block)
                 and not slow_touched(one) & barred]
        numbers = set()
        for one in sets:
            rest = [j for j in one if j not in block]
            if len(rest) == len(one) - len(block) and rest in sets:
                numbers.add(chosen.exact_rank(one) - chosen.exact_rank(rest))
        found.append((sized, numbers))
    return found


def slow_check(model, told, paper):
    """Point 407, word by word."""
    rows, columns, pairs, loose_ways, crowded_ways, walks = paper
    loose, blocks, crowded = told
    many = len(model[0])
    if not slow_is_assignment(model, rows, columns, pairs):
        return False
    groups = [loose, crowded] + blocks
    if any(group != sorted(set(group)) for group in groups) or [] in blocks:
        return False
    if sorted(j for group in groups for j in group) != list(range(many)):
        return False
    ends = slow_arcs(model, rows, columns, pairs)
    exits, left = slow_exits(model, columns, pairs), slow_left_out(model, columns, pairs)
    place = {j: k for k, block in enumerate(blocks) for j in block}
    for a in range(many):
        if a in exits and a not in crowded:
            return False
        if a in left and a not in loose:
            return False
        for b in ends[a]:
            if a in loose and b not in loose:
                return False
            if a in place and b in crowded:
                return False
            if a in place and b in place and place[b] < place[a]:
                return False
    for own, members, starts, turn in ((loose_ways, loose, left, False), (crowded_ways, crowded, exits, True)):
        if sorted(a for a, _ in own) != members:
            return False
        for k, (a, other) in enumerate(own):
            if other == -1 and a in starts:
                continue
            if other not in [one for one, _ in own[:k]]:
                return False
            if (other if turn else a) not in ends[a if turn else other]:
                return False
    if len(walks) != len(blocks):
        return False
    for walk, block in zip(walks, blocks):
        if len(block) == 1:
            if walk != block:
                return False
        elif not walk or walk[0] != walk[-1] or set(walk) != set(block):
            return False
        elif not all(b in ends[a] for a, b in zip(walk, walk[1:])):
            return False
    return True


class TestParts(unittest.TestCase):
    def test_told(self):
        model = (["a", "b", "c"], [
            ("sized", 1, 0, [("s", 0, 0), ("t", 0, 1)], ""), ("exact", [(1, 0, 1), (-2, 0, 2)], "f"),
            ("exact", [(1, 0, 2)], "g")])
        self.assertEqual(fresh(self, parts, model), ([], [[1], [0], [2]], []))
        self.assertEqual(fresh(self, needs, model), [[], [0], []])
        self.assertEqual(fresh(self, own_laws, model), [([], 1), ([0], 0), ([], 1)])
        self.assertEqual(parts(CHAIN), ([4], [[0], [1], [2, 3]], [5]))
        self.assertEqual(needs(CHAIN), [[], [0], [0, 1]])
        self.assertEqual(own_laws(CHAIN), [([0], 0), ([1], 0), ([2, 3], 0)])

    def test_nothing(self):
        self.assertEqual(fresh(self, parts, ([], [])), ([], [], []))
        self.assertEqual(fresh(self, parts, (["a", "b"], [])), ([0, 1], [], []))
        self.assertEqual(fresh(self, parts, ([], [("exact", [], "f")])), ([], [], []))
        for model in (([], []), (["a", "b"], []), ([], [("exact", [], "f")])):
            self.assertEqual(fresh(self, needs, model), [])
            self.assertEqual(fresh(self, own_laws, model), [])
            self.assertIs(check_parts(model, parts(model), fresh(self, parts_paper, model)), True)

    def test_order_where_several_could_come_next(self):
        # c before a, e before b; d alone. c is the least one that needs nothing, then a is less than d.
        model = (["a", "b", "c", "d", "e"], [
            ("sized", 0, 0, [("s", 0, 2)], ""), ("sized", 0, 1, [("t", 0, 4)], ""), ("exact", [(1, 0, 2)], "f"),
            ("exact", [(1, 1, 3)], ""), ("exact", [(3, 0, 4)], "g")])
        self.assertEqual(parts(model), ([], [[2], [0], [3], [4], [1]], []))
        self.assertEqual(needs(model), [[], [0], [], [], [3]])
        # A block is told by its least quantity, also if that comes late.
        model = (["a", "b", "c", "d"], [
            ("sized", 0, 0, [("s", 0, 3), ("t", 0, 1)], ""), ("sized", 0, 3, [("u", 0, 0)], ""),
            ("exact", [(1, 0, 1)], ""), ("exact", [(1, 0, 2)], "")])
        self.assertEqual(parts(model), ([], [[1], [0, 3], [2]], []))

    def test_by_all_least_sets(self):
        kinds = set()
        models = small_models(160)
        for model in models + [beside(one, two) for one, two in zip(models[:25], models[25:])]:
            told, needed = slow_parts(model)
            self.assertEqual(fresh(self, parts, model), told)
            self.assertEqual(fresh(self, needs, model), needed)
            own = fresh(self, own_laws, model)
            slow = slow_own(model, told, needed)
            self.assertEqual([laws for laws, _ in own], [laws for laws, _ in slow])
            for (laws, number), (_, numbers), block in zip(own, slow, told[1]):
                self.assertEqual(numbers, {number})
                self.assertEqual(len(laws) + number, len(block))
            kinds.add((bool(told[0]), bool(told[2]), max([0] + [len(block) for block in told[1]]) > 1))
        self.assertEqual(len(kinds), 8)

    def test_needs_through_another_one(self):
        chain = ([f"q{k}" for k in range(6)], [("exact", [(1, 0, 5)], "")] + [
            ("sized", 0, k, [(f"s{k}", 0, k + 1)], "") for k in range(5)])
        self.assertEqual(parts(chain), ([], [[5], [4], [3], [2], [1], [0]], []))
        self.assertEqual(needs(chain), [list(range(k)) for k in range(6)])

    def test_is_least(self):
        for model in small_models(60):
            sets = slow_least_sets(model)
            for columns in subsets(range(len(model[0]))):
                self.assertIs(fresh(self, is_least, model, columns), columns in sets)
        for wrong in ([0, 0], [1, 0], [-1], [6], [4, 5, 6], [10 ** 30], [-(10 ** 30)], [4, 4], [0] * 1000,
                      list(range(1000))):
            self.assertIs(fresh(self, is_least, CHAIN, wrong), False)
        self.assertIs(is_least(CHAIN, [4]), True)
        self.assertIs(is_least(([], []), []), True)
        self.assertIs(is_least(([], []), [0]), False)

    def test_great_models(self):
        for seed, laws, exact, number in ((61, 30, 0.5, 9), (62, 26, 0.8, 1000000), (63, 36, 0.3, 5), (64, 30, 0, 1)):
            model = made_up(seed, 30, laws, exact, number, 3, 9)
            model = with_sums(seed, model, 3) if exact else model
            loose, blocks, crowded = told = parts(model)
            self.assertIs(check_parts(model, told, parts_paper(model)), True)
            smallest, greatest = least_sets(model)
            self.assertEqual(loose, smallest)
            self.assertEqual(sorted(loose + [j for block in blocks for j in block]), greatest)
            # What stands before a block, what it needs, and what needs nothing of it: these sets are least.
            needed = needs(model)
            whole = slow_value(model, greatest)
            for k in range(len(blocks) + 1):
                behind = sorted(loose + [j for block in blocks[k:] for j in block])
                self.assertEqual(slow_value(model, behind), whole)
            for k, block in enumerate(blocks):
                users = [m for m in range(len(blocks)) if m == k or k in needed[m]]
                least = sorted(loose + [j for m in users for j in blocks[m]])
                self.assertEqual(slow_value(model, least), whole)
                for j in block:
                    if len(block) > 1:
                        self.assertGreater(slow_value(model, [i for i in least if i != j]), whole)


class TestPapers(unittest.TestCase):
    def test_told(self):
        for model in small_models(120):
            told = parts(model)
            paper = fresh(self, parts_paper, model)
            self.assertIs(fresh(self, check_parts, model, told, paper), True)
            self.assertIs(slow_check(model, told, paper), True)

    def test_changed_papers(self):
        chance = random.Random(407)
        refused = accepted = 0
        for model in small_models(100):
            told, paper = parts(model), parts_paper(model)
            for _ in range(15):
                other, own = told, paper
                if chance.random() < 0.3:
                    other = mutated(chance, told, PART_FILLERS)
                else:
                    own = mutated(chance, paper, FILLERS)
                right = slow_check(model, other, own)
                self.assertIs(fresh(self, check_parts, model, other, own), right, (model, other, own))
                self.assertTrue(not right or sorted(other[1]) == sorted(told[1]))
                refused += not right
                accepted += right
        self.assertGreater(refused, 500)
        self.assertGreater(accepted, 50)

    def test_each_condition_alone(self):
        model = (["a", "b", "c", "d", "e", "f", "g"], CHAIN[1] + [("sized", 0, 6, [("y", 0, 4)], "")])
        told = ([4, 6], [[0], [1], [2, 3]], [5])
        good = ([4], [5], [(0, 0), (1, 1), (2, 2), (3, 3), (6, 6)], [(4, -1), (6, 4)], [(5, -1)], [[0], [1], [2, 3, 2]])
        self.assertEqual(parts(model), told)
        self.assertIs(fresh(self, check_parts, model, told, good), True)

        def check(told=told, **changes):
            names = ("rows", "columns", "pairs", "loose_ways", "crowded_ways", "walks")
            paper = tuple(changes.get(name, own) for name, own in zip(names, good))
            answer = fresh(self, check_parts, model, told, paper)
            self.assertIs(slow_check(model, told, paper), answer)
            return answer
        # Another assignment of the greatest size.
        other = dict(pairs=[(0, 0), (1, 1), (2, 3), (3, 2), (6, 4)], loose_ways=[(6, -1), (4, 6)], walks=[[0], [1], [3, 2, 3]])
        self.assertIs(check(**other), True)
        self.assertIs(check(pairs=other["pairs"]), False)
        for wrong in ([], [5], [4, 5], [0], [9], [-2], [4, 4]):
            self.assertIs(check(rows=wrong), False)
        for wrong in ([], [4], [6], [5, 6], [-2], [10 ** 30]):
            self.assertIs(check(columns=wrong), False)
        for wrong in ([], good[2][:-1], good[2][1:], good[2][::-1], good[2] + [(6, 4)], [(0, 9)], [(-9, 0)]):
            self.assertIs(check(pairs=wrong), False)
        for wrong in ([], [(4, -1)], [(6, 4), (4, -1)], [(4, -1), (6, -1)], [(4, 4), (6, 4)], [(4, -1), (6, 6)], [(4, -1), (6, 0)],
                      [(4, -1), (4, -1), (6, 4)], [(4, -1), (6, 4), (6, 4)], [(4, -1), (6, 4), (0, -1)], [(4, -1), (6, 9)],
                      [(4, -2), (6, 4)], [(4, -1), (6, 4), (9, 4)], [(4, -1), (6, 4), (-1, -1)], [(4, -1), (6, 10 ** 30)]):
            self.assertIs(check(loose_ways=wrong), False, wrong)
        for wrong in ([], [(5, 5)], [(5, -1), (5, -1)], [(5, -1), (0, -1)], [(4, -1)], [(5, 0)], [(5, -2)], [(9, -1)]):
            self.assertIs(check(crowded_ways=wrong), False, wrong)
        for wrong in ([], [[0], [1]], [[0], [1], [2, 3]], [[0], [1], [2]], [[0], [1], []], [[], [1], [2, 3, 2]],
                      [[0, 0], [1], [2, 3, 2]], [[0], [1], [2, 2, 3, 2]], [[0], [1], [2, 1, 3, 2]], [[0], [1], [2, 3, 2], []],
                      [[1], [0], [2, 3, 2]], [[0], [1], [3, 2]], [[0], [1], [2, 9, 2]], [[0], [1], [-5, 3, -5]],
                      [[9], [1], [2, 3, 2]], [[0], [0, 1, 0], [2, 3, 2]]):
            self.assertIs(check(walks=wrong), False, wrong)
        for right in ([[0], [1], [3, 2, 3]], [[0], [1], [2, 3, 2, 3, 2, 3, 2]]):
            self.assertIs(check(walks=right), True)
        # Blocks turned about, put together, parted; quantities that stand twice, are lacking, or are at the wrong place.
        for wrong in (([4, 6], [[1], [0], [2, 3]], [5]), ([4, 6], [[0], [2, 3], [1]], [5]), ([4, 6], [[0, 1], [2, 3]], [5]),
                      ([4, 6], [[0], [1], [2], [3]], [5]), ([6, 4], [[0], [1], [2, 3]], [5]), ([4, 6], [[0], [1], [3, 2]], [5]),
                      ([4, 6], [[0], [1], [2, 3], []], [5]), ([4, 6, 6], [[0], [1], [2, 3]], [5]), ([4], [[0], [1], [2, 3]], [5]),
                      ([4, 6], [[0], [1], [2, 3]], []), ([4, 6], [[0], [1], [2, 3]], [5, 5]), ([4, 6], [[0], [1], [2, 3], [5]], []),
                      ([4], [[0], [1], [2, 3], [6]], [5]), ([4, 5, 6], [[0], [1], [2, 3]], []), ([4, 6], [[0], [1]], [5]),
                      ([4, 6], [[1], [2, 3]], [0, 5]), ([4, 6, 7], [[0], [1], [2, 3]], [5]), ([-1, 4, 6], [[0], [1], [2, 3]], [5])):
            self.assertIs(check(told=wrong), False, wrong)
        # As many walks as blocks and right ones, but the parts are not.
        self.assertIs(check(([4, 6], [[1], [0], [2, 3]], [5]), walks=[[1], [0], [2, 3, 2]]), False)
        self.assertIs(check(([4, 6], [[0], [2, 3], [1]], [5]), walks=[[0], [2, 3, 2], [1]]), False)
        self.assertIs(check(([4, 6], [[0], [1], [2, 3], []], [5]), walks=good[5] + [[]]), False)
        self.assertIs(check(([4, 6], [[0], [1], [2, 3], [5]], []), walks=good[5] + [[5]], crowded_ways=[]), False)
        self.assertIs(check(([4, 6], [[1], [2, 3]], [0, 5]), walks=good[5][1:], crowded_ways=[(5, -1), (0, -1)]), False)
        self.assertIs(check(([4], [[0], [1], [2, 3], [6]], [5]), walks=good[5] + [[6]], loose_ways=[(4, -1)]), False)
        self.assertIs(check(([], [[0], [1], [2, 3], [6], [4]], [5]), walks=good[5] + [[6], [4]], loose_ways=[]), False)
        self.assertIs(check(([4, 6], [[0], [1], [2], [3]], [5]), walks=[[0], [1], [2], [3]]), False)

    def test_blocks_that_do_not_need_one_another_may_be_turned_about(self):
        model = (["a", "b"], [("exact", [(1, 0, 0)], ""), ("exact", [(1, 0, 1)], "")])
        paper = parts_paper(model)
        self.assertEqual(parts(model), ([], [[0], [1]], []))
        self.assertIs(check_parts(model, ([], [[1], [0]], []), paper[:5] + ([[1], [0]],)), True)
        self.assertIs(check_parts(model, ([], [[1], [0]], []), paper), False)

    def test_crowded_ways(self):
        # Three laws for a and b: c is crowded too, through b.
        model = (["a", "b", "c"], [
            ("exact", [(1, 0, 0)], ""), ("sized", 0, 0, [("s", 0, 1)], ""), ("sized", 0, 1, [("t", 0, 2)], ""),
            ("exact", [(1, 0, 2), (1, 1, 2)], "")])
        self.assertEqual(parts(model), ([], [], [0, 1, 2]))
        rows, columns, pairs = assignment(model)
        ends = slow_arcs(model, rows, columns, pairs)
        stops = slow_exits(model, columns, pairs)
        self.assertEqual(sorted(j for j in range(3) if reached([j], ends) & set(stops)), [0, 1, 2])
        paper = parts_paper(model)
        self.assertIs(check_parts(model, parts(model), paper), True)
        for k in range(len(paper[4])):
            wrong = paper[4][:k] + paper[4][k + 1:]
            self.assertIs(check_parts(model, parts(model), paper[:4] + (wrong,) + paper[5:]), False)
        self.assertIs(check_parts(model, parts(model), paper[:4] + (paper[4][::-1],) + paper[5:]), False)

    def test_no_block_leads_to_a_crowded_quantity(self):
        # b is an exit, and an arc leads to it from a: both are crowded.
        model = (["a", "b"], [
            ("sized", 0, 1, [("s", 0, 0)], ""), ("sized", 0, 1, [("t", 1, 1)], ""), ("sized", 0, 0, [("u", 1, 0)], "")])
        good = ([], [], [(0, 1), (2, 0)], [], [(1, -1), (0, 1)], [])
        self.assertIs(check_parts(model, ([], [], [0, 1]), good), True)
        self.assertIs(check_parts(model, ([], [[0]], [1]), ([], [], [(0, 1), (2, 0)], [], [(1, -1)], [[0]])), False)
        self.assertIs(slow_check(model, ([], [[0]], [1]), ([], [], [(0, 1), (2, 0)], [], [(1, -1)], [[0]])), False)
        two = (["a", "b", "c"], model[1] + [("exact", [(1, 0, 2)], "")])
        paper = ([3], [2], [(0, 1), (2, 0)], [], [(1, -1)], [[2], [0]])
        self.assertIs(check_parts(two, ([], [[2], [0]], [1]), paper), False)


if __name__ == "__main__":
    unittest.main()
