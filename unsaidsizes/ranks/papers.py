"""Papers of the rank."""

from unsaidsizes.ranks.assign import greatest_state, is_assignment, value
from unsaidsizes.ranks.growing import reached
from unsaidsizes.ranks.needs import is_set


def rank_paper(model):
    state = greatest_state(model)
    rows, columns, pairs = state.assignment()
    return (rows, columns, pairs, reached(state.left_out(), state.arcs()))


def check_rank(model, number, paper):
    rows, columns, pairs, poor = paper
    if number != len(columns) + len(pairs) or not is_set(model, poor):
        return False
    return is_assignment(model, rows, columns, pairs) and number == len(model[0]) + value(model, poor)
