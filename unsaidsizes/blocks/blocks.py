"""The finest blocks of quantities, in the order in which a model can be solved."""

from unsaidsizes.blocks.order import Order, shows_parts
from unsaidsizes.ranks.assign import greatest_state, state_of
from unsaidsizes.ranks.frames import frame_of
from unsaidsizes.ranks.needs import is_set


def _order(model):
    return Order(greatest_state(model))


def parts(model):
    """The loose quantities, the blocks in their order, and the crowded quantities."""
    return _order(model).told_parts()


def needs(model):
    """For each block the ascending list of the numbers of the blocks that it needs."""
    order = _order(model)
    return [[k for k, other in enumerate(order.blocks) if order.leads(other, block)] for block in order.blocks]


def own_laws(model):
    """For each block its own sized laws, and how many exact laws are its own."""
    order = _order(model)
    frame = order.state.frame
    found = []
    for block in order.blocks:
        barred = order.loose + [j for other in order.blocks if order.leads(block, other) for j in other]
        own = [which for which in frame.falling(frame.sized, block) if not frame.falls(which, barred)]
        found.append((own, len(block) - len(own)))
    return found


def is_least(model, columns):
    """True if a list of integers is a least set."""
    if not is_set(model, columns):
        return False
    frame = frame_of(model)
    return len(model[0]) + frame.value(frame.laws(), columns) == greatest_state(model).size()


def parts_paper(model):
    return _order(model).told_paper()


def check_parts(model, parts, paper):
    rows, columns, pairs, _, _, _ = paper
    return shows_parts(state_of(model, rows, columns, pairs), parts, paper)
