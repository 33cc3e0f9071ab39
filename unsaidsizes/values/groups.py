"""Groups of sizes: those that act together when sizes are exceptional."""

from unsaidsizes.begin.relax import check_beginnings
from unsaidsizes.blocks.order import shows_parts
from unsaidsizes.errors import NotFull
from unsaidsizes.marks.grids import changed, grid_of
from unsaidsizes.marks.ranks import grid_rank
from unsaidsizes.ranks.assign import state_in
from unsaidsizes.values.split import Groups
from unsaidsizes.values.tight import Tight


def groups(model):
    return [list(sizes) for sizes, _ in Groups(model).told]


def idle(model):
    """The ascending list of the sizes that are in no group."""
    found = Groups(model)
    return [size for size in range(found.many) if found.group_of(size) is None]


def groups_paper(model):
    found = Groups(model)
    return (found.paper, found.order.told_parts(), found.order.told_paper())


def check_groups(model, groups, paper):
    grid = grid_of(model)
    if grid_rank(grid) < len(grid):
        raise NotFull(grid_rank(grid))
    beginning, parts, shown = paper
    changes, _, p, q, _, _ = beginning
    if not check_beginnings(grid, sum(q) - sum(p), beginning):
        return False
    tight = Tight(model, changed(grid, changes), p, q)
    loose, blocks, crowded = parts
    rows, columns, pairs, _, _, _ = shown
    if loose != [] or crowded != [] or not shows_parts(state_in(tight.frame, rows, columns, pairs), parts, shown):
        return False
    return [sizes for sizes, _ in tight.groups(blocks)] == groups


def faults(model, sizes):
    """The numbers of the groups whose simple polynomial is 0 at some sizes."""
    found = Groups(model)
    found.need_sizes(sizes)
    return [k for k, block in enumerate(found.group_blocks()) if block.value_at(sizes) == 0]
