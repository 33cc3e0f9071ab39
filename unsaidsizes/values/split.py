"""Square full models, parted into their tight blocks."""

from unsaidsizes.begin.changing import relaxed
from unsaidsizes.begin.relax import paper_of
from unsaidsizes.blocks.order import Order
from unsaidsizes.errors import NotFull, OutOfRange, TooMany, WrongSize
from unsaidsizes.marks.grids import grid_of, with_exact
from unsaidsizes.marks.ranks import grid_rank
from unsaidsizes.models.model import sizes_of
from unsaidsizes.values.blocks import Block
from unsaidsizes.values.tight import Tight

MOST_SIZES = 8


class Groups:
    """The tight model of a model and its parts; `told` has for each group its sizes and the number of its block."""

    def __init__(self, model):
        grid = grid_of(model)
        found = relaxed(grid)
        if found is None:
            raise NotFull(grid_rank(grid))
        changing, p, q, state = found
        self.many = len(sizes_of(model))
        self.paper = paper_of(found)
        self.order = Order(state)
        self.tight = Tight(model, with_exact(grid, changing.changed()), p, q)
        self.told = self.tight.groups(self.order.blocks)

    def need_sizes(self, sizes):
        if len(sizes) != self.many:
            raise WrongSize(len(sizes))

    def need_size(self, size):
        if not 0 <= size < self.many:
            raise OutOfRange(size)

    def need_group(self, k):
        """Raises an error if there is no such group, or if it has too many sizes to tell its polynomial."""
        if not 0 <= k < len(self.told):
            raise OutOfRange(k)
        self.need_few(k)

    def need_few(self, k):
        many = len(self.told[k][0])
        if many > MOST_SIZES:
            raise TooMany(many)

    def group_of(self, size):
        """The number of the group of a size, None if it is idle."""
        for k, (sizes, _) in enumerate(self.told):
            if size in sizes:
                return k
        return None

    def group_blocks(self):
        """For each group its block."""
        blocks = self.order.blocks
        exact, own = self.tight.exact_parts(blocks), self.tight.own_rows(blocks)
        found = []
        for _, at in self.told:
            place = {j: m for m, j in enumerate(blocks[at])}
            rows = [self.tight.sizes[i] for i in own[at]]
            found.append(Block(exact[at], [{place[j]: row[j] for j in row if j in place} for row in rows]))
        return found
