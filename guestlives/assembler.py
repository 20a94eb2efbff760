"""Program texts: guests written as statements (points 23, 30 and 31)."""

from guestlives.errors import TextError
from guestlives.guest import PLAIN_PAGES, Guest
from guestlives.instructions import is_instruction, read_operand
from guestlives.limits import CELLS, FRAMES, MOST_WRITES
from guestlives.machine import next_address
from guestlives.ops import op_number, operand_kinds
from guestlives.scan import check_count, first_word, read_number, read_numbers, read_start, statements

LETTERS = "abcdefghijklmnopqrstuvwxyz"
MOST_LETTERS = 8

STATEMENT_COUNTS = {"page": 4, "start": 3, "handler": 3, "write": 4, "at": 2, "label": 2, "cell": 2}


class Draft:
    """What the statements of a program text have said so far."""

    def __init__(self, text):
        self.wanted = label_names(text)
        self.labels = {}
        self.address = 0
        self.cells = {}
        self.pages = {}
        self.starts = {}
        self.handlers = {}
        self.writes = []

    def lay(self, line, numbers):
        """Place numbers, or in place of a number the name of a label."""
        for number in numbers:
            page = self.address // CELLS
            frame = self.pages.get(page, PLAIN_PAGES[page])[0]
            cell = (frame, self.address - page * CELLS)
            if cell in self.cells:
                raise TextError(line, 1)
            self.cells[cell] = number
            self.address = next_address(self.address, 1)

    def number_in(self, cell):
        """Return the number of a cell, behind the last statement."""
        number = self.cells.get(cell, 0)
        # No number is the name of a label, so only names are replaced.
        return self.labels.get(number, number)

    def as_guest(self):
        """Return the guest, behind the last statement."""
        return Guest(
            [[self.number_in((frame, offset)) for offset in range(CELLS)] for frame in range(FRAMES)],
            [self.pages.get(page, PLAIN_PAGES[page]) for page in range(len(PLAIN_PAGES))],
            (self.starts.get(0, 0), self.starts.get(1, None)),
            (self.handlers.get(0, 60), self.handlers.get(1, 60)),
            self.writes,
        )


def is_label_name(word):
    """Tell whether a word can be the name of a label."""
    if len(word) < 1 or len(word) > MOST_LETTERS or is_instruction(word):
        return False
    return all(sign in LETTERS for sign in word)


def label_names(text):
    """Return a dict with the names that lines of a program text give to labels."""
    return {row[6:]: True for row in text.split("\n") if row.startswith("label ")}


def check_new(table, key, line, words):
    """Raise the error of a second statement of its kind."""
    if key in table:
        raise TextError(line, words[1][0])


def take_page(draft, line, words):
    """Take a page statement."""
    page, frame, rights = read_numbers(words[1:], line, (3, 3, 7))
    if len(draft.cells) > 0:
        raise TextError(line, 1)
    check_new(draft.pages, page, line, words)
    draft.pages[page] = (frame, rights)


def take_start(draft, line, words):
    """Take a start statement."""
    p = read_number(words[1][1], line, words[1][0], 1)
    start = read_start(words[2][1], line, words[2][0])
    check_new(draft.starts, p, line, words)
    draft.starts[p] = start


def take_handler(draft, line, words):
    """Take a handler statement."""
    p, address = read_numbers(words[1:], line, (1, 63))
    check_new(draft.handlers, p, line, words)
    draft.handlers[p] = address


def take_write(draft, line, words):
    """Take a write statement."""
    frame, offset, number = read_numbers(words[1:], line, (3, 15, 255))
    if len(draft.writes) >= MOST_WRITES:
        raise TextError(line, 1)
    draft.writes.append((frame, offset, number))


def take_at(draft, line, words):
    """Take an at statement."""
    draft.address = read_number(words[1][1], line, words[1][0], 63)


def take_label(draft, line, words):
    """Take a label statement."""
    column, name = words[1]
    if not is_label_name(name) or name in draft.labels:
        raise TextError(line, column)
    draft.labels[name] = draft.address


def take_cell(draft, line, words):
    """Take a cell statement."""
    draft.lay(line, read_numbers(words[1:], line, (255,)))


TAKERS = {
    "page": take_page,
    "start": take_start,
    "handler": take_handler,
    "write": take_write,
    "at": take_at,
    "label": take_label,
    "cell": take_cell,
}


def read_target(draft, word, line, column):
    """Return the number of an operand of kind a, or the name of the label that stands for it."""
    if not is_label_name(word):
        return read_operand(word, line, column, "a")
    if word not in draft.wanted:
        raise TextError(line, column)
    return word


def take_instruction(draft, line, words):
    """Take a statement that is the text of an instruction."""
    name = words[0][1]
    numbers = [op_number(name)]
    for (column, word), kind in zip(words[1:], operand_kinds(name)):
        if kind == "a":
            numbers.append(read_target(draft, word, line, column))
        else:
            numbers.append(read_operand(word, line, column, kind))
    draft.lay(line, numbers)


def take_statement(draft, line, words):
    """Take any statement."""
    name = first_word(words)
    if name in TAKERS:
        check_count(words, line, STATEMENT_COUNTS[name], STATEMENT_COUNTS[name])
        action = TAKERS[name]
        action(draft, line, words)
        return
    if not is_instruction(name):
        raise TextError(line, 1)
    count = 1 + len(operand_kinds(name))
    check_count(words, line, count, count)
    take_instruction(draft, line, words)


def assemble(text):
    """Return the guest that a program text describes."""
    draft = Draft(text)
    for line, words in statements(text):
        take_statement(draft, line, words)
    return draft.as_guest()
