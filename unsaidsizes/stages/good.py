"""Said sizes that are good for a paper of beginnings and a choice."""

from unsaidsizes.base.tables import determinant
from unsaidsizes.errors import NotAChoice
from unsaidsizes.marks.grids import grid_of
from unsaidsizes.models.laws import is_exact
from unsaidsizes.runs.ratios import common_below, whole
from unsaidsizes.stages.sizes import need_sizes, sizes_by_law
from unsaidsizes.stages.staged import staged


def _tight_row(told, own, touched, many):
    """The tight numbers of a sized law, own being the fractions of its sizes."""
    _, k, j, terms, _ = told
    numbers = {(k, j): (1, 1)}
    for (n, d), (_, k, j) in zip(own, terms):
        numbers[(k, j)] = (-n, d)
    row = [(0, 1) for _ in range(many)]
    for j in touched:
        # The tight one of several orders is the greatest one.
        row[j] = numbers[max([place for place in numbers if place[1] == j])]
    return row


def _tight_rows(model, found, sizes):
    laws, frame = model[1], found.frame
    table = []
    for i, own in enumerate(sizes_by_law(model, sizes)):
        if is_exact(laws[i]):
            table.append([(number, 1) for number in frame.rows[i]])
        else:
            table.append(_tight_row(laws[i], own, frame.touched[i], len(laws)))
    return table


def _staged_model(model, paper, sizes):
    grid = grid_of(model)
    need_sizes(model, sizes)
    return staged(grid, paper)


def tight_table(model, paper, sizes):
    """The tight numbers of all rows of the changed grid, as fractions."""
    return _tight_rows(model, _staged_model(model, paper, sizes), sizes)


def is_good(model, paper, choice, sizes):
    found = _staged_model(model, paper, sizes)
    if not found.is_choice(choice):
        raise NotAChoice(0)
    # Multiples of the rows by other integers than 0 do as well.
    table = [whole(row, common_below(row)) for row in _tight_rows(model, found, sizes)]
    tried = {}
    for at, chosen in enumerate(choice + [list(range(len(table)))]):
        key = tuple(chosen)
        if key not in tried:
            rows = found.rows_at(found.first + at)
            tried[key] = determinant([[table[i][j] for j in chosen] for i in rows]) != 0
    return all(tried[key] for key in tried)
