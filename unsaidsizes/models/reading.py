"""Reading the text of a book line by line."""

from unsaidsizes.errors import BadLine, NoName, NoPart, OutOfRange, SamePlace, TakenName, TooMany
from unsaidsizes.models.laws import has_twice, is_in_range, places_of, sizes_in
from unsaidsizes.models.lines import read_line
from unsaidsizes.models.parts import MOST_IN_PART, MOST_PARTS, own_quantities, port_texts

# The first words of lines in the order in which they stand in a part; those
# from 1 to 5 also tell which list of the part the line belongs to.
STAGES = {"part": 0, "port": 1, "inner": 2, "place": 3, "law": 4, "size": 4, "join": 5, "end": 6}


class Reader:
    """What has been read so far. The part that is being read is None between parts."""

    def __init__(self):
        self.parts = {}
        self.part = None
        self.stage = 0
        self.taken = {}

    def read(self, line, at):
        """Reads a line, without its newline, with the number `at`."""
        found = read_line(line)
        if found is None or not self.stands(STAGES[found[0]]):
            raise BadLine(at)
        stage, told = STAGES[found[0]], found[1]
        if stage == 0:
            self.begin(told, at)
        elif stage == 6:
            self.parts[self.part[0]] = self.part
            self.part = None
        else:
            self.put(stage, told, at)

    def stands(self, stage):
        """True if a line of this stage may stand here."""
        if self.part is None:
            return stage == 0
        return stage > 0 and stage >= self.stage

    def begin(self, name, at):
        if len(self.parts) >= MOST_PARTS:
            raise TooMany(at)
        if name in self.parts:
            raise TakenName(at)
        self.part = (name, [], [], [], [], [])
        self.stage = 0
        self.taken = {}

    def put(self, stage, told, at):
        """Puts what a line tells into the list of its stage."""
        if len(self.part[stage]) >= MOST_IN_PART[stage - 1]:
            raise TooMany(at)
        self.take_names(new_names(stage, told), at)
        if stage == 3 and told[1] not in self.parts:
            raise NoPart(at)
        if stage == 4:
            check_law(told, {text: True for text in own_quantities(self.part)}, at)
        if stage == 5:
            check_joint(told, {text: True for text in port_texts(self.part, self.parts)}, at)
        self.part[stage].append(told)
        self.stage = stage

    def take_names(self, names, at):
        for name in names:
            if name in self.taken:
                raise TakenName(at)
            self.taken[name] = True


def new_names(stage, told):
    """The names that a line takes."""
    if stage <= 2:
        return [told]
    if stage == 3:
        return [told[0]]
    return sizes_in(told) if stage == 4 else []


def check_law(told, known, at):
    if not all(j in known for _, j in places_of(told)):
        raise NoName(at)
    check_form(told, at)


def check_form(told, at):
    """Checks what can be said of a law without the names that there are."""
    if not is_in_range(told):
        raise OutOfRange(at)
    if has_twice(places_of(told)):
        raise SamePlace(at)


def check_joint(joint, known, at):
    if not all(text in known for text in joint):
        raise NoName(at)
    if has_twice(joint):
        raise SamePlace(at)
