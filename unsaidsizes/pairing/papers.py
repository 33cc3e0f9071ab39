"""Papers of the pairing."""

from unsaidsizes.ranks.assign import is_assignment
from unsaidsizes.ranks.frames import frame_of
from unsaidsizes.ranks.growing import State, reached
from unsaidsizes.ranks.needs import by_wishes, first_not_new, is_set, need_order, need_wishes


class Corners:
    """The places of laws in an order and of quantities in wishes, and the corners of a list of pairs.

    Quantities are looked at from the least dear one on, so the last k of the
    wishes are those with places below k.
    """

    def __init__(self, model, order, wishes, pairs):
        self.order = order
        self.least = list(reversed(by_wishes(model, wishes)))
        self.order_place = {which: i for i, which in enumerate(order)}
        self.place = {j: k for k, j in enumerate(self.least)}
        self.counts = self.counted(pairs)

    def counted(self, pairs):
        """For each i and k how many pairs have one of the first i laws and the last k quantities."""
        place = {self.order_place[which]: self.place[j] for which, j in pairs}
        rows = [[0] * (len(self.least) + 1)]
        for i in range(len(self.order)):
            # Without a pair no k is greater than the place.
            own = place.get(i, len(self.least))
            rows.append([number + (1 if k > own else 0) for k, number in enumerate(rows[i])])
        return rows

    def is_told_by_next(self, i, k):
        """True if the count at a corner follows from one beside it, or from i or k."""
        own = self.counts[i][k]
        if own in (i, k) or own > self.counts[i - 1][k] or own > self.counts[i][k - 1]:
            return True
        if i < len(self.order) and self.counts[i + 1][k] == own:
            return True
        return k < len(self.least) and self.counts[i][k + 1] == own


def _first_states(model, order, least):
    """The pairing, the assignment of each pair, and the states behind each number of laws.

    Of these it keeps what is left out and the arcs.
    """
    state = State(frame_of(model))
    pairs, states = [], []
    graphs = [(state.left_out(), state.arcs())]
    for which in order:
        quantity = state.take(which, least)
        if quantity is not None:
            pairs.append((which, quantity))
            states.append(state.assignment())
        graphs.append((state.left_out(), state.arcs()))
    return pairs, states, graphs


def pairing_paper(model, order, wishes):
    need_order(model, order)
    need_wishes(model, wishes)
    pairs, states, graphs = _first_states(model, order, list(reversed(by_wishes(model, wishes))))
    corners = Corners(model, order, wishes, pairs)
    bounds = []
    for i, (left, arcs) in enumerate(graphs):
        for k in range(len(model[0]) + 1):
            if not corners.is_told_by_next(i, k):
                # From the last k quantities no way leads to a dearer one: it
                # would stand in no pair then.
                bounds.append((i, k, reached([j for j in left if corners.place[j] < k], arcs)))
    return (states, bounds)


def _are_pairs(model, order, pairs):
    """True if laws in their order stand with different quantities."""
    place = {which: i for i, which in enumerate(order)}
    if not all(which in place for which, _ in pairs):
        return False
    places = [place[which] for which, _ in pairs]
    if not all(places[k] < places[k + 1] for k in range(len(places) - 1)):
        return False
    return first_not_new([j for _, j in pairs], len(model[0])) is None


def _are_states(model, corners, pairs, states):
    """True if there is an assignment of the quantities so far for each pair, without later laws."""
    if len(states) != len(pairs):
        return False
    for k, (rows, columns, own) in enumerate(states):
        last = corners.order_place[pairs[k][0]]
        if sorted(columns + [j for _, j in own]) != sorted([j for _, j in pairs[:k + 1]]):
            return False
        if not is_assignment(model, rows, columns, own):
            return False
        used = rows + [which for which, _ in own]
        if any(corners.order_place[which] > last for which in used):
            return False
    return True


def _bound_of(model, frame, corners, triple):
    """The bound of a triple, or None if it has not the form."""
    i, k, poor = triple
    if not 0 <= i <= len(model[1]) or not 0 <= k <= len(model[0]):
        return None
    if not is_set(model, poor) or any(corners.place[j] >= k for j in poor):
        return None
    return k + frame.value(corners.order[:i], poor)


def _spread(row):
    """For each place the least of all bounds: further on one more at each step, further back the same."""
    least = list(row)
    for k in range(1, len(row)):
        least[k] = min(least[k], least[k - 1] + 1)
    for k in reversed(range(1, len(row))):
        least[k - 1] = min(least[k - 1], least[k])
    return least


def _are_bound(corners, bounds):
    """True if for each corner some bound is not greater than its count; `bounds` has (i, k, bound)."""
    laws, many = len(corners.order), len(corners.least)
    # More than any bound that counts; and each corner is bounded by its two numbers.
    known = [[laws + many] * (many + 1) for _ in range(laws + 1)]
    for i, k, bound in bounds + [(0, many, 0), (laws, 0, 0)]:
        known[i][k] = min(known[i][k], bound)
    across = [_spread(row) for row in known]
    down = [_spread([row[b] for row in across]) for b in range(many + 1)]
    return all(down[b][a] <= count for a, row in enumerate(corners.counts) for b, count in enumerate(row))


def check_pairing(model, order, wishes, pairs, paper):
    need_order(model, order)
    need_wishes(model, wishes)
    states, triples = paper
    if not _are_pairs(model, order, pairs):
        return False
    corners = Corners(model, order, wishes, pairs)
    if not _are_states(model, corners, pairs, states):
        return False
    frame = frame_of(model)
    bounds = []
    for triple in triples:
        bound = _bound_of(model, frame, corners, triple)
        if bound is None:
            return False
        bounds.append((triple[0], triple[1], bound))
    return _are_bound(corners, bounds)
