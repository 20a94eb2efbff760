"""The texts of instructions (points 23 and 24)."""

from guestlives.errors import TextError
from guestlives.ops import OPS, encode, operand_kinds, operand_limit
from guestlives.scan import check_count, first_word, read_number, split_words

REGISTER_WORDS = ("r0", "r1", "r2", "r3")


def is_instruction(name):
    """Tell whether a word is the name of an instruction."""
    return any(known == name for known, _ in OPS)


def operand_text(kind, operand):
    """Return the word of an operand."""
    if kind == "r":
        return REGISTER_WORDS[operand]
    return str(operand)


def read_operand(word, line, column, kind):
    """Return the operand that a word writes."""
    if kind != "r":
        return read_number(word, line, column, operand_limit(kind) - 1)
    if word not in REGISTER_WORDS:
        raise TextError(line, column)
    return REGISTER_WORDS.index(word)


def format_instruction(name, operands):
    """Return the text of an instruction."""
    # Encoding is asked for the errors alone.
    encode(name, operands)
    words = [operand_text(kind, operand) for kind, operand in zip(operand_kinds(name), operands)]
    return " ".join([name] + words)


def parse_instruction(text, line=1):
    """Return the instruction of a text."""
    words = split_words(text, line)
    name = first_word(words)
    if not is_instruction(name):
        raise TextError(line, 1)
    kinds = operand_kinds(name)
    check_count(words, line, 1 + len(kinds), 1 + len(kinds))
    operands = [read_operand(word, line, column, kind) for (column, word), kind in zip(words[1:], kinds)]
    return (name, tuple(operands))
