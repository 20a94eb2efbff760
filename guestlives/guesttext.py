"""The texts of guests (points 23, 28 and 29)."""

from guestlives.errors import TextError
from guestlives.guest import Guest
from guestlives.limits import CELLS
from guestlives.scan import check_count, first_word, read_number, read_numbers, read_start, split_words

# The first two words of the first lines; each later line is a device write.
HEADS = (
    ("page", 0),
    ("page", 1),
    ("page", 2),
    ("page", 3),
    ("start", 0),
    ("start", 1),
    ("handler", 0),
    ("handler", 1),
    ("frame", 0),
    ("frame", 1),
    ("frame", 2),
    ("frame", 3),
)
MOST_LINES = 76

LEAST_COUNTS = {"page": 4, "start": 3, "handler": 3, "frame": 2, "write": 4}
MOST_COUNTS = {"page": 4, "start": 3, "handler": 3, "frame": 18, "write": 4}


def row_text(head, numbers):
    """Return a line of a word and numbers."""
    return " ".join([head] + [str(number) for number in numbers])


def start_text(p, start):
    """Return the line of a start address."""
    return f"start {p} none" if start is None else f"start {p} {start}"


def frame_text(at, cells):
    """Return the line of a frame."""
    many = len(cells)
    while many > 0 and cells[many - 1] == 0:
        many = many - 1
    return row_text("frame", [at] + list(cells[:many]))


def format_guest(guest):
    """Return the text of a guest."""
    lines = [row_text("page", [at] + list(page)) for at, page in enumerate(guest.pages)]
    lines.extend([start_text(p, start) for p, start in enumerate(guest.starts)])
    lines.extend([row_text("handler", [p, address]) for p, address in enumerate(guest.handlers)])
    lines.extend([frame_text(at, cells) for at, cells in enumerate(guest.frames)])
    lines.extend([row_text("write", write) for write in guest.writes])
    return "\n".join(lines)


def read_page(words, line):
    """Return the pair (frame, rights) of a page's line."""
    return tuple(read_numbers(words[2:], line, (3, 7)))


def read_start_line(words, line):
    """Return the start address of a start's line, or None."""
    column, word = words[2]
    return read_start(word, line, column)


def read_handler(words, line):
    """Return the address of a handler's line."""
    column, word = words[2]
    return read_number(word, line, column, 63)


def read_frame(words, line):
    """Return the 16 cells of a frame's line."""
    cells = read_numbers(words[2:], line, (255,) * CELLS)
    if len(cells) > 0 and cells[-1] == 0:
        raise TextError(line, words[-1][0])
    return cells + [0] * (CELLS - len(cells))


def read_write(words, line):
    """Return the device write of a write's line."""
    return tuple(read_numbers(words[1:], line, (3, 15, 255)))


READERS = {
    "page": read_page,
    "start": read_start_line,
    "handler": read_handler,
    "frame": read_frame,
    "write": read_write,
}


def read_line(text, line):
    """Return what a line of a guest's text says."""
    if line > MOST_LINES:
        raise TextError(line, 1)
    words = split_words(text, line)
    head = HEADS[line - 1][0] if line <= len(HEADS) else "write"
    if first_word(words) != head:
        raise TextError(line, 1)
    check_count(words, line, LEAST_COUNTS[head], MOST_COUNTS[head])
    if line <= len(HEADS) and words[1][1] != str(HEADS[line - 1][1]):
        raise TextError(line, words[1][0])
    action = READERS[head]
    return action(words, line)


def parse_guest(text):
    """Return the guest of a text."""
    parts = [read_line(row, at + 1) for at, row in enumerate(text.split("\n"))]
    if len(parts) < len(HEADS):
        raise TextError(len(parts) + 1, 1)
    return Guest(parts[8:12], parts[0:4], parts[4:6], parts[6:8], parts[12:])
