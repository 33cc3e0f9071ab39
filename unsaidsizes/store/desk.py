"""Desks: drafts of books and a store, asked and changed by lines."""

from unsaidsizes.errors import ModelError, NoName, Refused, TooMany
from unsaidsizes.models.laws import places_of, with_quantities
from unsaidsizes.models.parts import flatten
from unsaidsizes.models.texts import read_book, read_law
from unsaidsizes.store.answers import answer
from unsaidsizes.store.store import Store
from unsaidsizes.store.words import read_words

MOST_LINES = 200


def _told_law(text, quantities):
    """The law of a line, in which quantities are told by their names."""
    told = read_law(text)
    place = {name: j for j, name in enumerate(quantities)}
    if not all(name in place for _, name in places_of(told)):
        raise NoName(0)
    return with_quantities(told, place)


def _edit_of(command, told, quantities):
    """The edit of a line, None if it is another one."""
    if command == "add":
        return ("add", _told_law(told[0], quantities))
    if command == "put":
        return ("put", told[0], _told_law(told[1], quantities))
    if command == "say":
        return ("say", {told[0]: told[1]})
    return (command, told[0]) if command in ("drop", "quantity", "leave") else None


class Desk:
    """A draft, `lines`, and the store that is `kept`, None at first."""

    def __init__(self):
        self.lines = []
        self.kept = None

    def do(self, line):
        """The answer to a line."""
        found = read_words(line)
        if found is None:
            return "?"
        command, told = found
        if self.kept is None and command not in ("+", "clear", "open"):
            return "no store"
        try:
            return self.done(command, told)
        except Refused as refusal:
            return f"refused {refusal.at}"
        except ModelError as fault:
            kind = str(fault).partition(" ")[0]
            return f"{kind} {fault.at}"

    def done(self, command, told):
        """Does what a line says, and answers."""
        if command == "open":
            return self.begin(told[0])
        if command in ("+", "clear"):
            self.write(command, told)
            return "ok"
        edit = _edit_of(command, told, self.kept.model()[0])
        if edit is not None:
            self.kept.edit(edit)
        elif command == "back":
            self.kept.back()
        elif command == "promise":
            self.kept.promise(told[0])
        elif command == "free":
            self.kept.free(told[0])
        else:
            return answer(self.kept.model(), command, told)
        return "ok"

    def write(self, command, told):
        """Changes the draft."""
        if command == "clear":
            self.lines = []
        elif len(self.lines) >= MOST_LINES:
            raise TooMany(len(self.lines))
        else:
            self.lines.append(told[0])

    def begin(self, name):
        """Opens a store of a part of the draft."""
        book = read_book("".join([line + "\n" for line in self.lines]))
        model = flatten(book, name)
        self.kept = Store(model)
        return f"{len(model[0])} quantities, {len(model[1])} laws"

    def draft(self):
        return list(self.lines)

    def store(self):
        """A copy of the store, or None."""
        return None if self.kept is None else self.kept.copy()

    def copy(self):
        other = Desk()
        other.lines = self.draft()
        other.kept = self.store()
        return other
