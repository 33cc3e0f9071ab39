"""Reading the lines of a desk."""

from unsaidsizes.models.laws import has_twice
from unsaidsizes.models.names import is_name
from unsaidsizes.runs.ratios import ratio

DIGITS = "0123456789"
MOST_DIGITS = 9
MOST_PART = 1000

# What stands behind each command: "n" is a name, "i" an integer, "s" any number of different names.
FORMS = {"clear": "", "open": "n", "drop": "i", "quantity": "n", "leave": "n", "back": "", "free": "i",
         "loose": "", "blocks": "", "begins": "", "index": "", "laws": "", "law": "i", "unsteered": "",
         "unwatched": "s", "factor": "", "groups": "", "sure": "i", "pairs": "", "instead": "i"}
PROMISES = {"tied": "n", "whole": "", "begins": "i", "index": "i", "ahead": "nn", "apart": "nn", "steered": "",
            "watched": "is", "sure": ""}


def _number(word):
    """The integer of a word, None if it is none."""
    if not 1 <= len(word) <= MOST_DIGITS or not all(sign in DIGITS for sign in word):
        return None
    return None if word[0] == "0" and word != "0" else int(word)


def _value(word, kind):
    if kind == "i":
        return _number(word)
    return word if is_name(word) else None


def _values(words, form):
    """What words tell that stand in a form, None if they do not."""
    if form.endswith("s"):
        many = len(form) - 1
        names = words[many:]
        if has_twice(names) or not all(is_name(name) for name in names):
            return None
        found = _values(words[:many], form[:many])
        return None if found is None else found + [names]
    if len(words) != len(form):
        return None
    found = [_value(word, kind) for word, kind in zip(words, form)]
    return None if None in found else found


def _promise(words):
    """The promise of the words behind `promise`, in a list."""
    if words == [] or words[0] not in PROMISES:
        return None
    found = _values(words[1:], PROMISES[words[0]])
    if found is None:
        return None
    if words[0] == "watched":
        return [("watched", found[1], found[0])]
    return [tuple([words[0]] + found)]


def _said(words):
    """The name and the fraction, in lowest terms, of the words behind `say`."""
    if len(words) != 3 or not is_name(words[0]):
        return None
    top = words[1]
    n, d = _number(top[1:] if top.startswith("-") else top), _number(words[2])
    if n is None or d is None or n > MOST_PART or not 1 <= d <= MOST_PART:
        return None
    return [words[0], ratio(-n if top.startswith("-") else n, d)]


def _with_text(command, rest):
    """What `+`, `add` and `put` tell."""
    if command != "put":
        return None if rest == "" else [rest]
    word, _, text = rest.partition(" ")
    return None if _number(word) is None or text == "" else [_number(word), text]


def read_words(line):
    """The pair of the command and the list of what it tells, None if a line is none of a desk."""
    command, _, rest = line.partition(" ")
    if command in ("+", "add", "put"):
        told = _with_text(command, rest)
    else:
        command, words = line.split(" ")[0], line.split(" ")[1:]
        if command == "promise":
            told = _promise(words)
        elif command == "say":
            told = _said(words)
        else:
            told = _values(words, FORMS[command]) if command in FORMS else None
    return None if told is None else (command, told)
