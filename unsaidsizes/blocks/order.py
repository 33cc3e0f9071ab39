"""The parts of a model for an assignment of the greatest size, and papers of them."""

from unsaidsizes.blocks.ways import are_ways, is_way, way_to, ways
from unsaidsizes.ranks.growing import reached, turned
from unsaidsizes.ranks.needs import first_not_rising


class Order:
    """The parts of a model for a state of an assignment of the greatest size, and what leads to what."""

    def __init__(self, state):
        self.state = state
        self.forth = state.arcs()
        self.starts = state.left_out()
        self.stops = state.exits()
        self.turned_arcs = turned(self.forth)
        self.loose = reached(self.starts, self.forth)
        self.crowded = reached(self.stops, self.turned_arcs)
        barred = {j: True for j in self.loose + self.crowded}
        others = [j for j in range(len(self.forth)) if j not in barred]
        # A block needs those from which a way leads to it.
        self.sources = {j: reached([j], self.turned_arcs) for j in others}
        self.blocks = self.sorted_blocks(others)

    def sorted_blocks(self, others):
        left = self.unsorted_blocks(others)
        found = []
        while left:
            block = self.next_block(left)
            found.append(block)
            left = [other for other in left if other != block]
        return found

    def unsorted_blocks(self, others):
        """The blocks in ascending order of their least quantities."""
        found, seen = [], {}
        for a in others:
            if a not in seen:
                block = [b for b in self.sources[a] if b in self.sources and a in self.sources[b]]
                found.append(block)
                for b in block:
                    seen[b] = True
        return found

    def next_block(self, left):
        """The first of some blocks that needs no other one of them."""
        for block in left:
            if not any(self.leads(other, block) for other in left):
                return block
        return None

    def leads(self, other, block):
        """True if a block needs another one."""
        return other != block and other[0] in self.sources[block[0]]

    def told_parts(self):
        return (list(self.loose), [list(block) for block in self.blocks], list(self.crowded))

    def told_paper(self):
        """A paper that `shows_parts` accepts with the parts."""
        rows, columns, pairs = self.state.assignment()
        walks = [_walk(block, self.forth) for block in self.blocks]
        return (rows, columns, pairs, ways(self.starts, self.forth), ways(self.stops, self.turned_arcs), walks)


def _walk(block, arcs):
    """A way through all quantities of a block, and back to the first one."""
    walk = [block[0]]
    for b in block[1:]:
        if b not in walk:
            walk.extend(way_to([walk[-1]], arcs, b)[1:])
    return walk + way_to([walk[-1]], arcs, block[0])[1:]


def _are_parted(many, told):
    """True if the parts have each quantity just once, as sets, and no block is empty."""
    loose, blocks, crowded = told
    groups = [loose, crowded] + blocks
    if [] in blocks or any(first_not_rising(group, many) is not None for group in groups):
        return False
    return sorted([j for group in groups for j in group]) == list(range(many))


def _ranks_of(told):
    """A number for each quantity, such that no arc may lead to a lesser one: crowded ones, blocks, loose ones."""
    loose, blocks, crowded = told
    found = {j: -1 for j in crowded}
    for k, block in enumerate(blocks + [loose]):
        for j in block:
            found[j] = k
    return found


def _is_walk(walk, block, arcs):
    if len(block) == 1:
        return walk == block
    if not is_way(walk, arcs) or walk[0] != walk[-1]:
        return False
    return sorted({j for j in walk}) == block


def shows_parts(state, parts, paper):
    """True if a paper of parts, the assignment of which has this state or none, shows parts."""
    _, _, _, loose_ways, crowded_ways, walks = paper
    loose, blocks, crowded = parts
    if state is None or not _are_parted(state.frame.many, parts) or len(walks) != len(blocks):
        return False
    arcs, left, exits = state.arcs(), state.left_out(), state.exits()
    if not all(j in loose for j in left) or not all(j in crowded for j in exits):
        return False
    place = _ranks_of(parts)
    if any(place[b] < place[a] for a, ends in enumerate(arcs) for b in ends):
        return False
    if not are_ways(loose_ways, loose, left, arcs) or not are_ways(crowded_ways, crowded, exits, turned(arcs)):
        return False
    return all(_is_walk(walk, block, arcs) for walk, block in zip(walks, blocks))
