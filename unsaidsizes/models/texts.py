"""The text of a book, and the book of a text."""

from unsaidsizes.errors import BadLine, TakenName
from unsaidsizes.models.laws import has_twice, sizes_in
from unsaidsizes.models.lines import line_of, read_told
from unsaidsizes.models.names import is_name
from unsaidsizes.models.reading import Reader, check_form


def law_text(told):
    """The line of a law of a part, without the newline."""
    return line_of(told)


def read_law(line):
    told = read_told(line, is_name)
    if told is None:
        raise BadLine(0)
    if has_twice(sizes_in(told)):
        raise TakenName(0)
    check_form(told, 0)
    return told


def _part_lines(part):
    name, ports, inner, places, laws, joints = part
    lines = [f"part {name}"]
    lines.extend([f"port {port}" for port in ports])
    lines.extend([f"inner {quantity}" for quantity in inner])
    lines.extend([f"place {own} {there}" for own, there in places])
    lines.extend([law_text(told) for told in laws])
    lines.extend([" ".join(["join"] + joint) for joint in joints])
    lines.append("end")
    return lines


def write_book(book):
    return "".join([line + "\n" for part in book for line in _part_lines(part)])


def read_book(text):
    reader = Reader()
    lines = text.split("\n")
    # What stands behind the last newline is a line without one, if it is not empty.
    last = lines.pop()
    for at, line in enumerate(lines):
        reader.read(line, at)
    if last != "" or reader.part is not None:
        raise BadLine(len(lines))
    return list(reader.parts.values())
