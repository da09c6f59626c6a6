"""The words of a text: numbers, names, keys and marks."""

from strokes.errors import InvalidText, NotText

KEYS = (
    "row", "col", "let", "if", "else", "while", "for", "to", "do", "def", "say", "stop",
    "rows", "cols", "black", "mod", "and", "or", "not",
)
MARKS = ("<=", "!=", "{", "}", "(", ")", "+", "-", "*", "/", "<", "=", ",")
FIGURES = "0123456789"
LETTERS = "abcdefghijklmnopqrstuvwxyz"
BLANKS = " \n"
MOST_SIGNS = 100000
MOST_FIGURES = 6
MOST_LETTERS = 12


def words(text):
    """Return the list of the pairs (kind, word) of a text."""
    return [(kind, word) for kind, word, place in placed_words(text)]


def placed_words(text):
    """Return the list of the triples (kind, word, place) of a text, the places counted from 1."""
    check_text(text)
    found = []
    at = 0
    while at < len(text):
        if text[at] in BLANKS:
            at += 1
        else:
            kind, word = word_at(text, at)
            found.append((kind, word, at + 1))
            at += len(word)
    return found


def check_text(value):
    """Raise an error if a value is no string or too long a one."""
    if not isinstance(value, str):
        raise NotText()
    if len(value) > MOST_SIGNS:
        raise InvalidText(MOST_SIGNS + 1)


def word_at(text, at):
    """Return the pair (kind, word) of the word that begins at an index."""
    word = signs_at(text, at)
    kind = kind_of(word)
    if kind is None:
        raise InvalidText(at + 1)
    return kind, word


def signs_at(text, at):
    """Return the figures, the letters, the mark or the sign that stands at an index."""
    for signs in (FIGURES, LETTERS):
        if text[at] in signs:
            return text[at:run_end(text, at, signs)]
    if text[at:at + 2] in MARKS:
        return text[at:at + 2]
    return text[at]


def run_end(text, at, signs):
    """Return the index behind the run of some signs that begins at an index."""
    while at < len(text) and text[at] in signs:
        at += 1
    return at


def kind_of(word):
    """Return the kind of a word, None for one that cannot stand."""
    if word in KEYS:
        return "key"
    if word in MARKS:
        return "mark"
    if word[0] in LETTERS and len(word) <= MOST_LETTERS:
        return "name"
    if is_number(word, MOST_FIGURES):
        return "number"
    return None


def is_number(signs, most):
    """Return whether signs are a number of at most so many figures without a leading 0."""
    if not 1 <= len(signs) <= most or not all(sign in FIGURES for sign in signs):
        return False
    return signs[0] != "0" or signs == "0"
