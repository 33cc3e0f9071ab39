"""Quantities that the laws tie for nearly all sizes, and those that stay loose."""

from unsaidsizes.blocks.givens import dearest_state
from unsaidsizes.errors import Loose, Tied
from unsaidsizes.ranks.assign import least_sets
from unsaidsizes.ranks.growing import reached
from unsaidsizes.ranks.needs import need_quantity
from unsaidsizes.ranks.papers import check_rank, rank_paper


def loose(model):
    smallest, _ = least_sets(model)
    return smallest


def tied(model):
    smallest, _ = least_sets(model)
    return [j for j in range(len(model[0])) if j not in smallest]


def tied_paper(model, quantity):
    """A paper of the rank whose least set lacks the quantity."""
    need_quantity(model, quantity)
    # Its set is the smallest least one: no other paper shows more to be tied.
    paper = rank_paper(model)
    if quantity in paper[3]:
        raise Loose(quantity)
    return paper


def loose_paper(model, quantity):
    """A paper of the rank whose assignment lacks the quantity."""
    need_quantity(model, quantity)
    # What is dearest is lacking if it can be.
    state = dearest_state(model, [quantity])
    given = state.left_out()
    if quantity not in given:
        raise Tied(quantity)
    rows, columns, pairs = state.assignment()
    return (rows, columns, pairs, reached(given, state.arcs()))


def _is_accepted(model, quantity, paper):
    _, columns, pairs, _ = paper
    if not 0 <= quantity < len(model[0]):
        return False
    return check_rank(model, len(columns) + len(pairs), paper)


def check_tied(model, quantity, paper):
    return _is_accepted(model, quantity, paper) and quantity not in paper[3]


def check_loose(model, quantity, paper):
    _, columns, pairs, _ = paper
    if not _is_accepted(model, quantity, paper):
        return False
    return quantity not in columns and quantity not in [j for _, j in pairs]
