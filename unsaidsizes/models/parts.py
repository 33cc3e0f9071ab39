"""Parts with ports, joined to books, and made models."""

from unsaidsizes.errors import BadName, NoName, NoPart, OutOfRange, SamePlace, TakenName, TooMany
from unsaidsizes.models.laws import (
    has_twice, is_exact, is_in_range, places_of, sizes_in, source_of, terms_of, with_quantities)
from unsaidsizes.models.model import MOST_LAWS, MOST_QUANTITIES
from unsaidsizes.models.names import is_part_name

MOST_PARTS = 12
# Of ports, inner quantities, places, laws and joints.
MOST_IN_PART = (8, 12, 12, 20, 20)
MOST_COUNT = 200


def own_names(part):
    """The names that have to be different: of ports, inner quantities and places."""
    _, ports, inner, places, _, _ = part
    return ports + inner + [name for name, _ in places]


def part_sizes(part):
    return [size for told in part[4] for size in sizes_in(told)]


def own_quantities(part):
    """The texts of the quantities of a part, those of its places aside."""
    _, ports, inner, _, _, _ = part
    return [f"{port}.{end}" for port in ports for end in ("u", "i")] + inner


def port_texts(part, before):
    """The port texts of a part in their order; `before` has the parts at its places."""
    _, ports, _, places, _, _ = part
    return ports + [f"{name}.{port}" for name, there in places for port in before[there][1]]


def _is_named(part):
    name, _, _, places, laws, _ = part
    sources = [source_of(told) for told in laws if source_of(told) != ""]
    names = [name] + own_names(part) + [there for _, there in places] + part_sizes(part) + sources
    return all(is_part_name(word) for word in names)


def _is_too_long(part):
    return any(len(part[k + 1]) > most for k, most in enumerate(MOST_IN_PART))


def _has_taken_name(part, before):
    return part[0] in before or has_twice(own_names(part) + part_sizes(part))


def _has_unknown_name(part, before):
    known = {text: True for text in own_quantities(part)}
    if not all(j in known for told in part[4] for _, j in places_of(told)):
        return True
    texts = {text: True for text in port_texts(part, before)}
    return not all(text in texts for joint in part[5] for text in joint)


def _check_part(part, before, at):
    _, _, _, places, laws, joints = part
    if not _is_named(part):
        raise BadName(at)
    if at >= MOST_PARTS or _is_too_long(part):
        raise TooMany(at)
    if _has_taken_name(part, before):
        raise TakenName(at)
    if not all(there in before for _, there in places):
        raise NoPart(at)
    if _has_unknown_name(part, before):
        raise NoName(at)
    if not all(is_in_range(told) for told in laws) or any(len(joint) < 2 for joint in joints):
        raise OutOfRange(at)
    if any(has_twice(places_of(told)) for told in laws) or any(has_twice(joint) for joint in joints):
        raise SamePlace(at)


def check_book(book):
    before = {}
    for at, part in enumerate(book):
        _check_part(part, before, at)
        before[part[0]] = part


def _by_name(book, name):
    """The parts of a book by their names, among them one with this name."""
    found = {part[0]: part for part in book}
    if name not in found:
        raise NoPart(0)
    return found


def _groups(texts, joints):
    """For each port text the number of the first one that it is joined with."""
    group = {text: k for k, text in enumerate(texts)}
    for joint in joints:
        met = {group[text]: True for text in joint}
        least = min([group[text] for text in joint])
        for text in texts:
            if group[text] in met:
                group[text] = least
    return group


def _nodes_of(part, before):
    texts = port_texts(part, before)
    joints = part[5]
    joined = {text: True for joint in joints for text in joint}
    group = _groups(texts, joints)
    found = {}
    for k, text in enumerate(texts):
        # A port of the part itself that nothing is joined to is in no node.
        if text in joined or k >= len(part[1]):
            found.setdefault(group[text], []).append(text)
    return list(found.values())


def nodes(book, name):
    found = _by_name(book, name)
    return _nodes_of(found[name], found)


def _node_laws(node, ports):
    first = node[0]
    laws = [("exact", [(1, 0, f"{first}.u"), (-1, 0, f"{text}.u")], "") for text in node[1:]]
    terms = [(-1 if text in ports else 1, 0, f"{text}.i") for text in node]
    return laws + [("exact", terms, "")]


def _inside(told, name):
    """The law of the part at the place with this name."""
    terms = [(number if is_exact(told) else f"{name}.{number}", k, f"{name}.{j}")
             for number, k, j in terms_of(told)]
    source = source_of(told)
    if source != "":
        source = f"{name}.{source}"
    if is_exact(told):
        return ("exact", terms, source)
    return ("sized", told[1], f"{name}.{told[2]}", terms, source)


def _flat(part, before):
    """The names of the quantities and the laws, which tell quantities by their names."""
    quantities = own_quantities(part)
    laws = list(part[4])
    for node in _nodes_of(part, before):
        laws.extend(_node_laws(node, part[1]))
    for name, there in part[3]:
        inner, told = _flat(before[there], before)
        quantities.extend([f"{name}.{text}" for text in inner])
        laws.extend([_inside(one, name) for one in told])
    return quantities, laws


def _counts(book):
    """The counts of the parts; a part stands behind those at its places."""
    counts = {}
    for name, _, _, places, _, _ in book:
        counts[name] = 1 + sum([counts[there] for _, there in places])
    return counts


def flatten(book, name):
    found = _by_name(book, name)
    count = _counts(book)[name]
    if count > MOST_COUNT:
        raise TooMany(count)
    quantities, laws = _flat(found[name], found)
    if len(quantities) > MOST_QUANTITIES:
        raise TooMany(len(quantities))
    if len(laws) > MOST_LAWS:
        raise TooMany(len(laws))
    index = {text: j for j, text in enumerate(quantities)}
    return (quantities, [with_quantities(told, index) for told in laws])
