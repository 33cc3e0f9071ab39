"""Arcs with costs: potentials, and cycles of negative costs. An arc is a tuple (a, b, cost)."""


def potentials(many, arcs):
    """Integers w such that w[b] is at most w[a] plus the cost of each arc; None if there are none."""
    found = [0] * many
    for _ in range(many + 1):
        is_steady = True
        for a, b, cost in arcs:
            if found[a] + cost < found[b]:
                found[b] = found[a] + cost
                is_steady = False
        if is_steady:
            return found
    return None


def _longer(arcs, costs):
    """The least costs of ways with one arc more, and the node ahead of the last one on such a way."""
    found, before = {}, {}
    for a, b, cost in arcs:
        if a in costs and (b not in found or costs[a] + cost < found[b]):
            found[b] = costs[a] + cost
            before[b] = a
    return found, before


def least_cycle(many, arcs):
    """The nodes of a cycle of negative cost with as few arcs as there can be, in the direction of the arcs.

    There has to be one.
    """
    costs = [{a: 0} for a in range(many)]
    befores = [[] for _ in range(many)]
    while True:
        for start in range(many):
            costs[start], before = _longer(arcs, costs[start])
            befores[start].append(before)
            if costs[start].get(start, 0) < 0:
                return _cycle(start, befores[start])


def _cycle(start, befores):
    nodes = [start]
    for before in reversed(befores):
        nodes.append(before[nodes[-1]])
    nodes.pop()
    nodes.reverse()
    return nodes
