"""Keepers: models and wishes that are changed step by step, and what has to be given then."""

from unsaidsizes.blocks.givens import dearest
from unsaidsizes.errors import NothingToUndo, OutOfRange
from unsaidsizes.models.laws import copied_law
from unsaidsizes.models.model import copied_model
from unsaidsizes.pairing.corners import pairing
from unsaidsizes.pairing.instead import chain, substitute
from unsaidsizes.ranks.needs import by_wishes, need_row, need_wishes
from unsaidsizes.store.edits import edited, need_model


def _exchanged(many, k):
    """The list with the elements k and k + 1 exchanged."""
    return many[:k] + [many[k + 1], many[k]] + many[k + 2:]


class Keeper:
    """A model, and wishes that name all its quantities; `past` has both as they were ahead of each change."""

    def __init__(self, model, wishes):
        need_model(model)
        need_wishes(model, wishes)
        self.now = copied_model(model)
        self.wished = by_wishes(model, wishes)
        self.past = []

    def all_laws(self):
        return list(range(len(self.now[1])))

    def change(self, model, wishes):
        """Goes on with another model and other wishes."""
        self.past.append((self.now, self.wished))
        self.now, self.wished = model, wishes

    def model(self):
        return copied_model(self.now)

    def wishes(self):
        return list(self.wished)

    def pairs(self):
        return pairing(self.now, self.all_laws(), self.wished)

    def given(self):
        return dearest(self.now, self.wished)

    def instead(self, i):
        return substitute(self.now, self.wished, i)

    def put(self, i, row):
        """Puts a law in with the index i, and returns its chain."""
        quantities, laws = self.now
        if i != len(laws):
            need_row(self.now, i)
        model = (quantities, laws[:i] + [copied_law(row)] + laws[i:])
        need_model(model)
        self.change(model, self.wished)
        return chain(self.now, self.all_laws(), self.wished, i)

    def drop(self, i):
        """Takes a law out, and returns the chain that it had."""
        model = edited(self.now, ("drop", i))
        told = chain(self.now, self.all_laws(), self.wished, i)
        self.change(model, self.wished)
        return told

    def exchange(self, i):
        """Exchanges two laws, and tells whether both keep their quantities."""
        quantities, laws = self.now
        need_row(self.now, i)
        need_row(self.now, i + 1)
        before = dict(self.pairs())
        self.change((quantities, _exchanged(laws, i)), self.wished)
        after = dict(self.pairs())
        return after.get(i) == before.get(i + 1) and after.get(i + 1) == before.get(i)

    def prefer(self, k):
        """Exchanges two quantities in the wishes, and tells whether both keep their laws."""
        if not 0 <= k < len(self.wished) - 1:
            raise OutOfRange(k)
        before = {j: which for which, j in self.pairs()}
        self.change(self.now, _exchanged(self.wished, k))
        after = {j: which for which, j in self.pairs()}
        return all(before.get(j) == after.get(j) for j in self.wished[k:k + 2])

    def more(self, name):
        """Puts in a further quantity."""
        model = edited(self.now, ("quantity", name))
        self.change(model, self.wished + [len(self.wished)])

    def back(self):
        """Takes the last change back."""
        if self.past == []:
            raise NothingToUndo(0)
        self.now, self.wished = self.past.pop()

    def copy(self):
        other = Keeper(self.now, self.wished)
        other.past = [(copied_model(model), list(wishes)) for model, wishes in self.past]
        return other
