"""What several tests need: fresh answers, made-up models, and slow reckoning by the definitions alone."""

import random
from copy import deepcopy
from itertools import combinations, permutations

PRIME = 2 ** 521 - 1


def lists_in(value):
    """All lists and dicts in a value."""
    if isinstance(value, (list, tuple)):
        own = [value] if isinstance(value, list) else []
        return own + [one for item in value for one in lists_in(item)]
    if isinstance(value, dict):
        return [value] + [one for item in value.values() for one in lists_in(item)]
    return []


def spoil(value):
    for one in lists_in(value):
        if isinstance(one, list):
            one.append("spoilt")
        else:
            one["spoilt"] = True


def fresh(test, function, *args):
    """Calls a function and tests point 2: arguments stay, answers are new and the same each time."""
    before = deepcopy(args)
    first = function(*args)
    saved = deepcopy(first)
    test.assertEqual(args, before)
    ids = [id(one) for one in lists_in(first)]
    test.assertEqual(len(ids), len(set(ids)), "a list stands twice in an answer")
    test.assertFalse(set(ids) & {id(one) for one in lists_in(args)}, "a list of an argument is returned")
    spoil(first)
    test.assertEqual(args, before)
    second = function(*args)
    test.assertEqual(second, saved)
    return second


def fails(test, error, at, function, *args):
    """Tests that a call raises just this error, with this `at`, and leaves its arguments."""
    before = deepcopy(args)
    with test.assertRaises(error) as caught:
        function(*args)
    test.assertIs(type(caught.exception), error)
    test.assertEqual(caught.exception.at, at)
    test.assertEqual(args, before)


def subsets(numbers):
    numbers = list(numbers)
    for size in range(len(numbers) + 1):
        for chosen in combinations(numbers, size):
            yield list(chosen)


# Models that are made up.

def made_up(seed, quantities, laws, exact=0.5, number=3, terms=3, degrees=4, orders=3):
    """A model with about so many exact laws; their degrees add up to at most `degrees`."""
    chance = random.Random(seed)
    told = []
    sizes = 0
    left = degrees
    for _ in range(laws):
        source = chance.choice(["", "", "f", "g", "h.a"])
        if chance.random() < exact or quantities * (orders + 1) < 2:
            most = min(left, chance.choice([0, 0, 1, orders]))
            places = [(k, j) for k in range(most + 1) for j in range(quantities)]
            places = chance.sample(places, min(len(places), chance.randint(0, terms)))
            left -= max([0] + [k for k, _ in places])
            numbers = [chance.choice([-1, 1]) * chance.randint(1, number) for _ in places]
            told.append(("exact", [(c, k, j) for c, (k, j) in zip(numbers, places)], source))
        else:
            places = [(k, j) for k in range(orders + 1) for j in range(quantities)]
            places = chance.sample(places, chance.randint(2, min(terms + 1, len(places))))
            own = [(f"s{sizes + n}", k, j) for n, (k, j) in enumerate(places[1:])]
            sizes += len(own)
            told.append(("sized", places[0][0], places[0][1], own, source))
    return ([f"q{j}" for j in range(quantities)], told)


def with_sums(seed, model, many):
    """The model with further exact laws that are sums of multiples of its exact ones."""
    chance = random.Random(seed)
    quantities, laws = model
    laws = list(laws)
    table = [(i, told) for i, told in enumerate(laws) if told[0] == "exact" and told[1]]
    for _ in range(many):
        total = {}
        for i, told in chance.sample(table, min(len(table), 2)):
            factor = chance.choice([-2, -1, 1, 3])
            up = chance.choice([0, 0, 1])
            if max(k for _, k, _ in told[1]) + up > 3:
                up = 0
            for number, k, j in told[1]:
                total[k + up, j] = total.get((k + up, j), 0) + factor * number
        terms = [(number, k, j) for (k, j), number in sorted(total.items()) if number]
        laws.append(("exact", terms, chance.choice(["", "f"])))
    return (quantities, laws)


def small_models(many=60):
    """Small models of all kinds: with exact numbers that cancel, and with too few and too many laws."""
    chance = random.Random(17)
    found = [([], []), (["a"], []), ([], [("exact", [], "f")]), (["a", "b"], [("exact", [], "")])]
    for seed in range(many):
        n = chance.randint(1, 5)
        m = chance.randint(1, 5)
        model = made_up(seed, n, m, chance.choice([0, 0.4, 0.7, 1]), chance.choice([1, 2]), 3, 4, chance.choice([0, 1, 3]))
        if chance.random() < 0.4:
            model = with_sums(seed, model, chance.randint(1, 2))
        found.append(model)
    return found


def beside(one, two):
    """Two models side by side, with nothing in common."""
    many, laws = len(one[0]), list(one[1])
    for told in two[1]:
        if told[0] == "exact":
            laws.append(("exact", [(number, k, j + many) for number, k, j in told[1]], told[2]))
        else:
            terms = [(size + "b", k, j + many) for size, k, j in told[3]]
            laws.append(("sized", told[1], told[2] + many, terms, told[4]))
    return ([f"q{j}" for j in range(many + len(two[0]))], laws)


# Slow reckoning. Polynomials are dicts from exponents to numbers here.

def slow_entry(told, quantity):
    found = {}
    for number, k, j in told[1]:
        if j == quantity:
            found[k] = number
    return found


def slow_times(one, two):
    found = {}
    for k, number in one.items():
        for m, other in two.items():
            found[k + m] = found.get(k + m, 0) + number * other
    return {k: number for k, number in found.items() if number}


def slow_plus(one, two):
    found = dict(one)
    for k, number in two.items():
        found[k] = found.get(k, 0) + number
    return {k: number for k, number in found.items() if number}


def slow_determinant(rows):
    """The determinant of a square table of dicts, by its definition."""
    many = len(rows)
    total = {}
    for order in permutations(range(many)):
        sign = 1
        for i in range(many):
            for j in range(i):
                if order[j] > order[i]:
                    sign = -sign
        product = {0: sign}
        for i in range(many):
            product = slow_times(product, rows[i][order[i]])
        total = slow_plus(total, product)
    return total


def prime_rank(rows):
    """The rank of a table of residues."""
    rows = [list(row) for row in rows]
    found = 0
    width = len(rows[0]) if rows else 0
    for column in range(width):
        at = next((k for k in range(found, len(rows)) if rows[k][column] % PRIME), None)
        if at is None:
            continue
        rows[found], rows[at] = rows[at], rows[found]
        inverse = pow(rows[found][column], -1, PRIME)
        for k in range(found + 1, len(rows)):
            factor = rows[k][column] * inverse % PRIME
            if factor:
                rows[k] = [(own - factor * other) % PRIME for own, other in zip(rows[k], rows[found])]
        found += 1
    return found


class Chosen:
    """A model with sizes and d chosen by chance: its ranks are those for nearly all sizes, as good as surely."""

    def __init__(self, model, seed=1):
        chance = random.Random(seed)
        point = chance.randrange(PRIME)
        quantities, laws = model
        self.exact = [i for i, told in enumerate(laws) if told[0] == "exact"]
        self.rows = []
        for told in laws:
            row = [0] * len(quantities)
            if told[0] == "exact":
                for number, k, j in told[1]:
                    row[j] += number * pow(point, k, PRIME)
            else:
                row[told[2]] += chance.randrange(PRIME) * pow(point, told[1], PRIME)
                for _, k, j in told[3]:
                    row[j] += chance.randrange(PRIME) * pow(point, k, PRIME)
            self.rows.append(row)

    def rank(self, laws, columns):
        return prime_rank([[self.rows[i][j] for j in columns] for i in laws])

    def exact_rank(self, columns):
        return self.rank(self.exact, columns)


def slow_touched(told):
    return {told[2]} | {j for _, _, j in told[3]}


def slow_value(model, columns, chosen=None, laws=None):
    """Point 306; in the model with some laws alone, if they are told."""
    chosen = chosen or Chosen(model)
    laws = range(len(model[1])) if laws is None else laws
    exact = [i for i in laws if model[1][i][0] == "exact"]
    sized = [i for i in laws if model[1][i][0] == "sized"]
    falling = [i for i in sized if slow_touched(model[1][i]) & set(columns)]
    return chosen.rank(exact, columns) + len(falling) - len(columns)


def slow_rank(model, laws=None, columns=None, chosen=None):
    chosen = chosen or Chosen(model)
    laws = range(len(model[1])) if laws is None else laws
    columns = range(len(model[0])) if columns is None else columns
    return chosen.rank(list(laws), list(columns))


# Values with one thing changed, which keep their form.

def places_in(value, way=()):
    """The ways to all lists and integers in a value."""
    if isinstance(value, int):
        return [way]
    own = [way] if isinstance(value, list) else []
    return own + [one for k, item in enumerate(value) for one in places_in(item, way + (k,))]


def replaced(value, way, change):
    if not way:
        return change(value)
    items = list(value)
    items[way[0]] = replaced(items[way[0]], way[1:], change)
    return items if isinstance(value, list) else tuple(items)


def changed_integer(chance, number):
    return chance.choice([number - 1, number + 1, number + 1, -number, 0, 1, -1, 2, 3, number + 7, 10 ** 30])


def changed_list(chance, items, filler):
    """A list with an element more, less or at another place; the filler is for empty ones."""
    items = list(items)
    what = chance.randrange(4)
    if what == 0 and items:
        del items[chance.randrange(len(items))]
    elif what == 1 and len(items) > 1:
        one, two = chance.sample(range(len(items)), 2)
        items[one], items[two] = items[two], items[one]
    elif items:
        items.insert(chance.randint(0, len(items)), deepcopy(chance.choice(items)))
    elif filler is not None:
        items.append(deepcopy(filler))
    return items


def mutated(chance, value, fillers=None):
    """A value with one thing changed.

    `fillers` tells what may be put into empty lists: for the first step of
    the way a list with an item for each depth.
    """
    way = chance.choice(places_in(value))
    known = (fillers or {}).get(way[0] if way else None, [])
    filler = known[len(way) - 1] if way and len(way) <= len(known) else None

    def change(one):
        if isinstance(one, int):
            return changed_integer(chance, one)
        return changed_list(chance, one, filler)
    return replaced(value, way, change)
