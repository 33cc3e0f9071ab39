"""Edits of models."""

from unsaidsizes.errors import Needed, NoQuantity, NotModel, TooLarge
from unsaidsizes.models.laws import copied_law, places_of, with_quantities
from unsaidsizes.models.model import copied_model, exact_degrees, is_model
from unsaidsizes.ranks.needs import need_row
from unsaidsizes.runs.said import say

MOST_DEGREES = 12


def copied_edit(edit):
    """An edit that has nothing in common with the one that is passed in."""
    if edit[0] in ("add", "put"):
        return edit[:-1] + (copied_law(edit[-1]),)
    return ("say", {name: edit[1][name] for name in edit[1]}) if edit[0] == "say" else edit


def need_model(model):
    """Raises an error if a pair is no model, or is one with too great degrees."""
    if not is_model(model):
        raise NotModel(0)
    if exact_degrees(model) > MOST_DEGREES:
        raise TooLarge(exact_degrees(model))


def _leave(model, name):
    quantities, laws = model
    if name not in quantities:
        raise NoQuantity(0)
    at = quantities.index(name)
    for i, told in enumerate(laws):
        if any(j == at for _, j in places_of(told)):
            raise Needed(i)
    change = [j if j < at else j - 1 for j in range(len(quantities))]
    return (quantities[:at] + quantities[at + 1:], [with_quantities(told, change) for told in laws])


def _with_law(model, edit):
    """What an edit with a law gives."""
    quantities, laws = copied_model(model)
    if edit[0] == "add":
        return (quantities, laws + [copied_law(edit[1])])
    i = edit[1]
    need_row(model, i)
    between = [] if edit[0] == "drop" else [copied_law(edit[2])]
    return (quantities, laws[:i] + between + laws[i + 1:])


def _given(model, edit):
    """What an edit gives, which need not be a model."""
    if edit[0] in ("add", "drop", "put"):
        return _with_law(model, edit)
    if edit[0] == "quantity":
        quantities, laws = copied_model(model)
        return (quantities + [edit[1]], laws)
    return _leave(model, edit[1]) if edit[0] == "leave" else say(model, edit[1])


def edited(model, edit):
    """The model that an edit gives."""
    found = _given(model, edit)
    need_model(found)
    return found
