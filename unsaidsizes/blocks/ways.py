"""Shortest ways along arcs."""


def ways(starts, arcs):
    """Each quantity that can be reached, with the one ahead of it on a shortest way, -1 for a start.

    Each one stands behind the one ahead of it.
    """
    found = [(a, -1) for a in starts]
    seen = {a: True for a in starts}
    at = 0
    while at < len(found):
        a = found[at][0]
        for b in arcs[a]:
            if b not in seen:
                seen[b] = True
                found.append((b, a))
        at += 1
    return found


def way_to(starts, arcs, end):
    """A shortest way from one of the starts to a quantity that can be reached."""
    before = dict(ways(starts, arcs))
    way = [end]
    while before[way[-1]] != -1:
        way.append(before[way[-1]])
    way.reverse()
    return way


def are_ways(told, members, starts, arcs):
    """True if just the members stand, once each, with -1, a start, or an earlier one from which an arc leads to it."""
    seen = {}
    for a, other in told:
        if a in seen or a not in members:
            return False
        if other == -1:
            if a not in starts:
                return False
        elif other not in seen or a not in arcs[other]:
            return False
        seen[a] = True
    return len(seen) == len(members)


def is_way(way, arcs):
    """True if a list is not empty, has quantities alone, and arcs lead from each one to the next."""
    if way == [] or not all(0 <= a < len(arcs) for a in way):
        return False
    return all(b in arcs[a] for a, b in zip(way, way[1:]))


def is_closed(columns, arcs):
    """True if a set has with each of its quantities all those to which arcs lead from it."""
    own = {a: True for a in columns}
    return all(b in own for a in columns for b in arcs[a])
