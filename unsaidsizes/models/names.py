"""Names: of quantities, sizes and sources, and the shorter ones of parts."""

LETTERS = "abcdefghijklmnopqrstuvwxyz"
SIGNS = "abcdefghijklmnopqrstuvwxyz0123456789"


def _is_word(text):
    return text != "" and text[0] in LETTERS and all(sign in SIGNS for sign in text)


def is_name(text):
    """True for a name of a model: words with dots between them."""
    if not 1 <= len(text) <= 200:
        return False
    return all(_is_word(word) for word in text.split("."))


def is_part_name(text):
    """True for a name in a book: one short word."""
    return len(text) <= 12 and _is_word(text)
