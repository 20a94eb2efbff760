"""Reading of lines: words, numbers and statements (points 21, 22, 23 and 30)."""

from guestlives.errors import TextError
from guestlives.limits import ADDRESSES

DIGITS = "0123456789"


def wrong_space(text):
    """Return the column of the first wrong space of a line, or 0."""
    last = len(text) - 1
    for at, sign in enumerate(text):
        if sign == " " and (at == 0 or at == last or text[at - 1] == " "):
            return at + 1
    return 0


def split_words(text, line):
    """Return the words of a line, pairs (column, word)."""
    wrong = wrong_space(text)
    if wrong > 0:
        raise TextError(line, wrong)
    words = []
    if text == "":
        return words
    column = 1
    for word in text.split(" "):
        words.append((column, word))
        column = column + len(word) + 1
    return words


def read_number(word, line, column, most):
    """Return the number from 0 to `most` that a word writes."""
    if word == "" or any(sign not in DIGITS for sign in word):
        raise TextError(line, column)
    if len(word) > 1 and word[0] == "0":
        raise TextError(line, column)
    # The length decides first: Python refuses to convert very long words.
    if len(word) > len(str(most)) or int(word) > most:
        raise TextError(line, column)
    return int(word)


def read_numbers(words, line, limits):
    """Return the numbers of words in order, each from 0 to its limit."""
    return [read_number(word, line, column, most) for (column, word), most in zip(words, limits)]


def read_start(word, line, column):
    """Return the start address that a word names, None for `none`."""
    if word == "none":
        return None
    return read_number(word, line, column, ADDRESSES - 1)


def first_word(words):
    """Return the first word of a line, the empty string if it has none."""
    return words[0][1] if len(words) > 0 else ""


def check_count(words, line, least, most):
    """Raise the error of a line that has words, but too few or too many."""
    if len(words) < least:
        column, word = words[-1]
        raise TextError(line, column + len(word))
    if len(words) > most:
        raise TextError(line, words[most][0])


def statements(text):
    """Yield the pairs (line, words) of the statements of a program text."""
    for at, row in enumerate(text.split("\n")):
        if row != "" and row[0] != ";":
            yield (at + 1, split_words(row, at + 1))
