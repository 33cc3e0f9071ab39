"""Stores: models that are changed by edits under promises."""

from unsaidsizes.errors import NoPromise, NothingToUndo, Refused, TooMany
from unsaidsizes.models.model import copied_model
from unsaidsizes.store.edits import copied_edit, edited, need_model
from unsaidsizes.store.promises import copied_promise, holds, reason

MOST_PROMISES = 20


class Store:
    """A model under promises; `past` has each edit that can be taken back, with the model ahead of it."""

    def __init__(self, model):
        need_model(model)
        self.now = copied_model(model)
        self.promised = []
        self.past = []

    def edit(self, edit):
        found = edited(self.now, edit)
        self.need_promises(found)
        self.past.append((copied_edit(edit), self.now))
        self.now = found

    def back(self):
        """Takes the last edit back, and returns it."""
        if self.past == []:
            raise NothingToUndo(0)
        edit, before = self.past[-1]
        self.need_promises(before)
        self.past.pop()
        self.now = before
        return edit

    def need_promises(self, model):
        k = self.first_broken(model)
        if k is not None:
            raise Refused(k)

    def first_broken(self, model):
        """The index of the first promise that would not hold for a model, None if all would."""
        for k, promise in enumerate(self.promised):
            if not holds(model, promise):
                return k
        return None

    def promise(self, promise):
        """Takes a promise, and returns its index."""
        many = len(self.promised)
        if many >= MOST_PROMISES:
            raise TooMany(many)
        if not holds(self.now, promise):
            raise Refused(many)
        self.promised.append(copied_promise(promise))
        return many

    def free(self, k):
        """Gives a promise back, and returns it."""
        if not 0 <= k < len(self.promised):
            raise NoPromise(k)
        return self.promised.pop(k)

    def model(self):
        return copied_model(self.now)

    def promises(self):
        return [copied_promise(promise) for promise in self.promised]

    def edits(self):
        """The edits that can be taken back, the oldest one first."""
        return [copied_edit(edit) for edit, _ in self.past]

    def why(self, edit):
        """The first promise that would not hold after an edit, and its reason, or None."""
        found = edited(self.now, edit)
        k = self.first_broken(found)
        return None if k is None else (k, reason(found, self.promised[k]))

    def copy(self):
        other = Store(self.now)
        other.promised = self.promises()
        other.past = [(copied_edit(edit), copied_model(before)) for edit, before in self.past]
        return other
