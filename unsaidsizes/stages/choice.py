"""The choice that leaves free what is wished, and its papers."""

from unsaidsizes.errors import BadWish
from unsaidsizes.marks.tight import shows_regular, tight_state
from unsaidsizes.ranks.growing import reached
from unsaidsizes.ranks.needs import first_not_rising
from unsaidsizes.stages.staged import staged


def _places(grid, wishes):
    """For each jet of the wishes its place."""
    found = {}
    for place, jet in enumerate(wishes):
        j, order = jet
        if not 0 <= j < len(grid) or order < 0 or jet in found:
            raise BadWish(place)
        found[jet] = place
    return found


def _order(found, places, k):
    """The columns of a stage, the dearest one first."""
    ranks = [(places.get((j, found.q[j] + k), len(places)), j) for j in found.columns_at(k)]
    return [j for _, j in sorted(ranks)]


class Picker:
    """Finds the told choice stage by stage, as it is the same at many stages."""

    def __init__(self, found, places):
        self.found = found
        self.places = places
        self.known = {}

    def order_at(self, k):
        return _order(self.found, self.places, k)

    def state_at(self, k):
        """The state of a stage whose columns are the least dear ones."""
        rows, order = self.found.rows_at(k), self.order_at(k)
        key = (len(rows), tuple(order))
        if key not in self.known:
            # Who takes what is least dear first leaves free what is dearest.
            self.known[key] = tight_state(self.found.frame, rows, list(reversed(order)))
        return self.known[key]

    def stages(self):
        return list(range(self.found.first, 0))


def _held(state):
    _, columns, pairs = state.assignment()
    return sorted(columns + [j for _, j in pairs])


def told_choice(grid, paper, wishes):
    found = staged(grid, paper)
    picker = Picker(found, _places(grid, wishes))
    return [_held(picker.state_at(k)) for k in picker.stages()]


def _shown(state, order):
    """The triple of a paper of a choice for a stage."""
    _, columns, pairs = state.assignment()
    arcs, held = state.arcs(), _held(state)
    sets = []
    for j in held:
        # No way leads from a free column to one that is dearer.
        behind = [other for other in order[order.index(j) + 1:] if other not in held]
        sets.append(reached(behind, arcs))
    return (columns, [j for _, j in pairs], sets)


def choice_paper(grid, paper, wishes):
    found = staged(grid, paper)
    picker = Picker(found, _places(grid, wishes))
    return [_shown(picker.state_at(k), picker.order_at(k)) for k in picker.stages()]


class Checker:
    """Tests the choice and the paper of each stage."""

    def __init__(self, found, places):
        self.found = found
        self.places = places
        self.known = {}

    def strength(self, rows, columns):
        """The rank of the tight numbers of some rows at a set, and the sized ones of them that are tight there."""
        # Stages with as many rows have the same ones.
        key = (len(rows), tuple(columns))
        if key not in self.known:
            frame = self.found.frame
            self.known[key] = frame.exact_rank(rows, columns) + len(frame.falling(rows, columns))
        return self.known[key]

    def is_regular(self, rows, chosen, columns, places):
        """True if columns and places show that the tight table of a stage is regular at the chosen columns."""
        if not all(j in chosen for j in columns + places):
            return False
        return shows_regular(self.found.frame, rows, columns, places)

    def is_bound(self, rows, rest, columns):
        """True if a set shows that too few columns can be chosen from the rest."""
        if first_not_rising(columns, len(self.found.q)) is not None or not all(j in rest for j in columns):
            return False
        return self.strength(rows, columns) + len(rest) - len(columns) < len(rows)

    def is_shown(self, k, chosen, triple):
        """True if a triple shows that the chosen columns of a stage are those of the told choice."""
        rows = self.found.rows_at(k)
        columns, places, sets = triple
        if not self.found.is_chosen(k, chosen) or not self.is_regular(rows, chosen, columns, places):
            return False
        if len(sets) != len(chosen):
            return False
        order = _order(self.found, self.places, k)
        for j, own in zip(chosen, sets):
            behind = order[order.index(j) + 1:]
            rest = [other for other in order if other != j and (other in chosen or other in behind)]
            if not self.is_bound(rows, rest, own):
                return False
        return True


def check_choice(grid, paper, wishes, choice, shown):
    found = staged(grid, paper)
    checker = Checker(found, _places(grid, wishes))
    if len(choice) != -found.first or len(shown) != -found.first:
        return False
    for at, triple in enumerate(shown):
        if not checker.is_shown(found.first + at, choice[at], triple):
            return False
    return True
