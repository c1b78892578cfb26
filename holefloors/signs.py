"""The words of a text, and the numbers among them."""

from holefloors.errors import BadText, Unfit
from holefloors.shapes import is_number

FIGURES = "0123456789"
WORD_SIGNS = "abcdefghijklmnopqrstuvwxyz0123456789-"
MOST_FIGURES = 12


def _has_only(text, signs):
    return all([sign in signs for sign in text])


def words(text):
    """The WORDS of the text: pairs (word, line)."""
    found = []
    for at, line in enumerate(text.split("\n")):
        for word in line.partition("#")[0].split(" "):
            if not _has_only(word, WORD_SIGNS):
                raise BadText(at)
            if word != "":
                found.append((word, at))
    return found


def _is_told_word(value):
    """Whether value is a pair of a word and a number from 0."""
    if not isinstance(value, (list, tuple)) or len(value) != 2:
        return False
    word, line = value
    if not isinstance(word, str) or word == "" or not _has_only(word, WORD_SIGNS):
        return False
    return is_number(line) and line >= 0


def _fit_words(value):
    """The WORDS that value is, as a list of tuples."""
    if not isinstance(value, (list, tuple)) or not all([_is_told_word(part) for part in value]):
        raise Unfit()
    lines = [part[1] for part in value]
    if lines != sorted(lines):
        raise Unfit()
    return [(part[0], part[1]) for part in value]


def text_of(words):
    """The text with each word in its line."""
    parts = []
    at = 0
    gap = ""
    for word, line in _fit_words(words):
        if line > at:
            parts.append("\n" * (line - at))
            gap = ""
        parts.append(gap + word)
        at = line
        gap = " "
    if parts:
        parts.append("\n")
    return "".join(parts)


def number_of(word):
    """The number that a number word tells, None if the word is none."""
    figures = word[1:] if word.startswith("-") else word
    if not 1 <= len(figures) <= MOST_FIGURES or not _has_only(figures, FIGURES):
        return None
    if figures.startswith("0") and word != "0":
        return None
    return int(word)


def word_of(number):
    """The number word of a number."""
    return str(number)
