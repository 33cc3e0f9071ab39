"""Assignments, the values of sets, and the rank for nearly all sizes."""

from unsaidsizes.base.polys import trimmed
from unsaidsizes.base.residues import is_regular
from unsaidsizes.errors import NotExact
from unsaidsizes.models.laws import is_exact
from unsaidsizes.models.model import exact_laws, exact_table
from unsaidsizes.ranks.frames import frame_of, touches
from unsaidsizes.ranks.growing import grown, placed, reached, turned
from unsaidsizes.ranks.needs import first_not_rising, need_quantity, need_row, need_set


def entry(model, i, quantity):
    """The polynomial that stands with a quantity in an exact law."""
    need_row(model, i)
    need_quantity(model, quantity)
    told = model[1][i]
    if not is_exact(told):
        raise NotExact(i)
    one = [0] * (1 + max([0] + [k for _, k, _ in told[1]]))
    for number, k, j in told[1]:
        if j == quantity:
            one[k] = number
    return trimmed(one)


def exact_rank(model, columns):
    need_set(model, columns)
    frame = frame_of(model)
    return frame.exact_rank(frame.exact, columns)


def falling(model, columns):
    """The ascending list of the sized laws that touch a quantity of a set."""
    need_set(model, columns)
    frame = frame_of(model)
    return frame.falling(frame.sized, columns)


def value(model, columns):
    """The exact rank of a set plus the sized laws that fall on it, less its quantities."""
    need_set(model, columns)
    frame = frame_of(model)
    return frame.value(frame.laws(), columns)


def _are_pairs(touched, columns, pairs):
    """True if sized laws in ascending order have different quantities that they touch."""
    held = {j: True for j in columns}
    last = -1
    for which, j in pairs:
        if which <= last or which not in touched:
            return False
        if j not in touched[which] or j in held:
            return False
        held[j] = True
        last = which
    return True


def _has_form(many, exact, touched, told):
    """True if three lists are an assignment but for the determinant, which is not looked at.

    `exact` has the exact laws, and `touched` tells what the sized ones touch.
    """
    rows, columns, pairs = told
    if len(rows) != len(columns) or first_not_rising(columns, many) is not None:
        return False
    if not all(which in exact for which in rows) or not all(one < two for one, two in zip(rows, rows[1:])):
        return False
    return _are_pairs(touched, columns, pairs)


def is_assignment(model, rows, columns, pairs):
    table = {which: row for which, row in zip(exact_laws(model), exact_table(model))}
    if not _has_form(len(model[0]), table, touches(model), (rows, columns, pairs)):
        return False
    return is_regular([[table[which][j] for j in columns] for which in rows])


def state_of(model, rows, columns, pairs):
    """The state of an assignment, or None if the three lists are none."""
    return state_in(frame_of(model), rows, columns, pairs)


def state_in(frame, rows, columns, pairs):
    """As `state_of`, for what is known of a model."""
    if not _has_form(frame.many, frame.rows, frame.touched, (rows, columns, pairs)):
        return None
    state = placed(frame, rows, columns)
    if state is not None:
        for which, j in pairs:
            state.paired[j] = which
    return state


def greatest_state(model):
    """The state of an assignment of the greatest size."""
    frame = frame_of(model)
    # Exact laws come first, as they need no exchanges then.
    state, _ = grown(frame, frame.exact + frame.sized, list(range(frame.many)))
    return state


def assignment(model):
    """An assignment of the greatest size."""
    return greatest_state(model).assignment()


def rank(model):
    return greatest_state(model).size()


def least_sets(model):
    """The smallest and the greatest least set."""
    state = greatest_state(model)
    arcs = state.arcs()
    crowded = {j: True for j in reached(state.exits(), turned(arcs))}
    return (reached(state.left_out(), arcs), [j for j in range(len(arcs)) if j not in crowded])
