"""Stages, choices and their beginnings."""

from unsaidsizes.errors import NotAChoice, OutOfRange
from unsaidsizes.stages.staged import staged


def first_stage(grid, paper):
    return staged(grid, paper).first


def stage(grid, paper, k):
    """The rows and the columns of a stage."""
    found = staged(grid, paper)
    if k < found.first:
        raise OutOfRange(k)
    return (found.rows_at(k), found.columns_at(k))


def is_choice(grid, paper, choice):
    return staged(grid, paper).is_choice(choice)


def beginnings_of(grid, paper, choice):
    """The jets that begin freely, stage by stage."""
    found = staged(grid, paper)
    if not found.is_choice(choice):
        raise NotAChoice(0)
    return found.beginnings(choice)
