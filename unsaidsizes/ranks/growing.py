"""Assignments that grow law by law, and the arcs between their quantities."""

from unsaidsizes.base.residues import first_other


class State:
    """An assignment of a model.

    At each index `rows` has an exact law, `columns` a quantity, and `vectors`
    a sum of the rows of all these laws, times residues, that has 0 at all
    other columns of the assignment: the column can be exchanged for each
    quantity at which the vector is not 0. `paired` tells the sized law of each
    quantity that has one.
    """

    def __init__(self, frame):
        self.frame = frame
        self.rows = []
        self.columns = []
        self.vectors = []
        self.paired = {}

    def size(self):
        return len(self.columns) + len(self.paired)

    def assignment(self):
        """The tuple of point 305."""
        pairs = sorted([(which, j) for j, which in self.paired.items()])
        return (sorted(self.rows), sorted(self.columns), pairs)

    def left_out(self):
        return [j for j in range(self.frame.many) if j not in self.paired and j not in self.columns]

    def arcs_from(self, a):
        """The quantities to which arcs lead from a quantity, in no promised order."""
        found = [b for b, vector in zip(self.columns, self.vectors) if b != a and vector[a] != 0]
        touched = self.frame.touched
        return found + [b for b, which in self.paired.items() if b != a and a in touched[which]]

    def arcs(self):
        return [sorted(self.arcs_from(a)) for a in range(self.frame.many)]

    def reduced(self, which):
        """The residues of an exact law, made 0 at all columns."""
        vector = self.frame.rows[which]
        for column, pivot in zip(self.columns, self.vectors):
            if vector[column] != 0:
                vector = self.frame.cleared(vector, pivot, column)
        return vector

    def row_of(self, which):
        """The reduced vector of an exact law, None for a sized one."""
        return self.reduced(which) if which in self.frame.rows else None

    def exits_to(self, which, vector):
        """The quantities that could take a law that is not in the assignment, with its `row_of`."""
        if vector is None:
            return sorted(self.frame.touched[which])
        return [j for j, number in enumerate(vector) if number != 0]

    def exits(self):
        """The ascending list of the exits for all laws of the model."""
        used = {which: True for which in self.rows + list(self.paired.values())}
        found = {}
        for which in self.frame.laws():
            if which not in used:
                for j in self.exits_to(which, self.row_of(which)):
                    found[j] = True
        return sorted(found)

    def pivot(self, at, column):
        """The column takes the place of the one at an index."""
        self.columns[at] = column
        own = self.vectors[at]
        for k in range(len(self.vectors)):
            if k != at and self.vectors[k][column] != 0:
                self.vectors[k] = self.frame.cleared(self.vectors[k], own, column)

    def put_row(self, which, column, vector):
        """Takes in an exact law, whose reduced vector is not 0 at the column."""
        self.rows.append(which)
        self.columns.append(column)
        self.vectors.append(vector)
        self.pivot(len(self.columns) - 1, column)

    def exchange(self, way):
        """Each quantity of a way takes what the next one has; the last one has nothing then.

        The way has to be a shortest one: then no exchange spoils a later one.
        """
        for a, b in zip(way, way[1:]):
            if b in self.paired:
                self.paired[a] = self.paired.pop(b)
            else:
                self.pivot(self.columns.index(b), a)

    def take(self, which, candidates):
        """Takes in a law, if the assignment can become greater by one of the candidates.

        They are tried in their order. Returns the quantity that comes in, or None.
        """
        vector = self.row_of(which)
        exits = {j: True for j in self.exits_to(which, vector)}
        held = {j: True for j in self.columns + list(self.paired)}
        barred = {}
        for start in candidates:
            if exits and start not in held:
                before, last = self.search(start, exits, barred)
                if last is not None:
                    self.exchange(way_back(last, before))
                    self.put(which, last, vector)
                    return start
                barred.update(before)
        return None

    def put(self, which, quantity, vector):
        # The vector stays reduced by an exchange along a shortest way: it is
        # 0 at all quantities of the way but the last one.
        if vector is None:
            self.paired[quantity] = which
        else:
            self.put_row(which, quantity, vector)

    def search(self, start, exits, barred):
        """Looks for a shortest way to an exit, but not at barred quantities, which lead to none.

        Returns all quantities that it met, each with the one ahead of it, and the exit or None.
        """
        before = {start: None}
        queue = [start]
        at = 0
        while at < len(queue):
            a = queue[at]
            if a in exits:
                return before, a
            for b in self.arcs_from(a):
                if b not in before and b not in barred:
                    before[b] = a
                    queue.append(b)
            at += 1
        return before, None


def way_back(last, before):
    way = [last]
    while before[way[-1]] is not None:
        way.append(before[way[-1]])
    way.reverse()
    return way


def placed(frame, rows, columns):
    """The state of some exact laws and as many columns, or None if their determinant is nought."""
    state = State(frame)
    for which in rows:
        vector = state.reduced(which)
        at = first_other([vector[j] for j in columns])
        if at is None:
            return None
        state.put_row(which, columns[at], vector)
    return state


def grown(frame, order, candidates):
    """The state after taking in laws in an order, and the list of the pairs of a law and a quantity."""
    state = State(frame)
    pairs = []
    for which in order:
        quantity = state.take(which, candidates)
        if quantity is not None:
            pairs.append((which, quantity))
    return state, pairs


def reached(starts, arcs):
    """The ascending list of what can be reached along arcs."""
    found = {a: True for a in starts}
    queue = list(found)
    while queue:
        a = queue.pop()
        for b in arcs[a]:
            if b not in found:
                found[b] = True
                queue.append(b)
    return sorted(found)


def turned(arcs):
    """The arcs, each from its end to its start."""
    found = [[] for _ in arcs]
    for a, ends in enumerate(arcs):
        for b in ends:
            found[b].append(a)
    return found
