"""Lines of the text of a book, each for itself, without their newlines.

The functions answer None for a line that is not written as it has to be.
Whether names are taken or exist, and numbers are in range, is not asked here.
"""

from unsaidsizes.models.laws import is_exact, source_of, terms_of
from unsaidsizes.models.names import is_name, is_part_name

DIGITS = "0123456789"
MOST_DIGITS = 7
# Stands for all numbers of more digits: Python does not read very long ones.
TOO_GREAT = 10000000


def quantity_text(k, j):
    return j + "'" * k


def exact_line(told):
    words = []
    for number, k, j in terms_of(told):
        if words:
            words.append("-" if number < 0 else "+")
            words.append(f"{abs(number)}*{quantity_text(k, j)}")
        else:
            words.append(f"{number}*{quantity_text(k, j)}")
    if words == []:
        words.append("0")
    source = source_of(told)
    return " ".join(["law"] + words + ["=", "0" if source == "" else source])


def sized_line(told):
    _, k, j, terms, source = told
    summands = [f"{size}*{quantity_text(order, other)}" for size, order, other in terms]
    if source != "":
        summands.append(source)
    return f"size {quantity_text(k, j)} = " + " + ".join(summands)


def line_of(told):
    return exact_line(told) if is_exact(told) else sized_line(told)


def _read_quantity(word):
    """The pair of the order and the name."""
    name = word.rstrip("'")
    if not is_name(name):
        return None
    return (len(word) - len(name), name)


def _read_number(word):
    if word == "" or not all(sign in DIGITS for sign in word):
        return None
    if len(word) > 1 and word[0] == "0":
        return None
    return int(word) if len(word) <= MOST_DIGITS else TOO_GREAT


def _read_term(word, first):
    """A term; `first` is read from what stands in front of the star."""
    place = _read_quantity(word.partition("*")[2])
    if first is None or place is None:
        return None
    return (first, place[0], place[1])


def _read_exact_terms(words):
    """The terms of an exact law from its words up to the equals sign."""
    if words == ["0"]:
        return []
    if len(words) % 2 == 0:
        return None
    terms = []
    for at in range(0, len(words), 2):
        word = words[at]
        sign = words[at - 1] if at > 0 else "+"
        if at == 0 and word.startswith("-"):
            sign, word = "-", word[1:]
        term = _read_term(word, _read_number(word.partition("*")[0]))
        if term is None or sign not in ("+", "-"):
            return None
        terms.append((-term[0] if sign == "-" else term[0], term[1], term[2]))
    return terms


def _read_exact(words, is_size):
    if len(words) < 4 or words[-2] != "=":
        return None
    terms = _read_exact_terms(words[1:-2])
    source = words[-1]
    if terms is None or not (source == "0" or is_size(source)):
        return None
    return ("exact", terms, "" if source == "0" else source)


def _read_sized(words, is_size):
    if len(words) < 4 or words[2] != "=" or len(words) % 2 == 1:
        return None
    place = _read_quantity(words[1])
    summands = words[3::2]
    if place is None or not all(word == "+" for word in words[4::2]):
        return None
    source = ""
    if is_size(summands[-1]):
        source = summands.pop()
    terms = []
    for word in summands:
        size = word.partition("*")[0]
        terms.append(_read_term(word, size if is_size(size) else None))
    if terms == [] or None in terms:
        return None
    return ("sized", place[0], place[1], terms, source)


def read_told(line, is_size):
    """The law of a line; `is_size` tells which words can be sizes and sources."""
    words = line.split(" ")
    if words[0] == "law":
        return _read_exact(words, is_size)
    if words[0] == "size":
        return _read_sized(words, is_size)
    return None


def _read_place(words):
    if len(words) == 3 and is_part_name(words[1]) and is_part_name(words[2]):
        return ("place", (words[1], words[2]))
    return None


def _is_port_text(word):
    ends = word.split(".")
    return len(ends) <= 2 and all(is_part_name(end) for end in ends)


def _read_joint(words):
    if len(words) >= 3 and all(_is_port_text(word) for word in words[1:]):
        return ("join", words[1:])
    return None


def read_line(line):
    """The pair of the first word of a line of a book, and of what the line tells."""
    words = line.split(" ")
    first = words[0]
    if first in ("law", "size"):
        told = read_told(line, is_part_name)
        return None if told is None else (first, told)
    if first == "place":
        return _read_place(words)
    if first == "join":
        return _read_joint(words)
    if first in ("part", "port", "inner") and len(words) == 2 and is_part_name(words[1]):
        return (first, words[1])
    return (first, None) if words == ["end"] else None
