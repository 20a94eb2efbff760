"""Debuggers saved as texts (points 135 and 136)."""

from guestlives.debugger import Debugger
from guestlives.errors import TextError
from guestlives.guesttext import format_guest, parse_guest
from guestlives.limits import MOST_HOT, MOST_LONGEST, MOST_SLOTS
from guestlives.plaintext import format_policy, format_schedule, parse_policy, parse_schedule
from guestlives.scan import check_count, read_number, split_words

POLICY_HEAD = "policy "
SETTINGS_HEAD = "settings "
SCHEDULE_HEAD = "schedule "

# The lines of the guest's text follow these three.
HEAD_LINES = 3


def save(debugger):
    """Return the text of a debugger."""
    hot = "none" if debugger.hot is None else str(debugger.hot)
    lines = [
        POLICY_HEAD + format_policy(debugger.policy),
        f"{SETTINGS_HEAD}{debugger.slots} {debugger.longest} {hot}",
        SCHEDULE_HEAD + format_schedule([action for action, _ in debugger.log]),
        format_guest(debugger.guest),
    ]
    return "\n".join(lines)


def read_behind(action, text, line, head):
    """Return what a function reads of a line behind its head, with the columns of the whole line."""
    if not text.startswith(head):
        raise TextError(line, 1)
    try:
        return action(text[len(head):], line)
    except TextError as error:
        raise TextError(line, len(head) + error.column) from None


def read_actions(text, line):
    """Return the schedule of a text that a host can do."""
    schedule = parse_schedule(text, line)
    for column, word in split_words(text, line):
        if word[0] == "t":
            raise TextError(line, column)
    return schedule


def read_from_one(word, line, column, most):
    """Return the number from 1 to `most` that a word writes."""
    number = read_number(word, line, column, most)
    if number == 0:
        raise TextError(line, column)
    return number


def read_settings(text, line):
    """Return the tuple (slots, longest, hot) of a line."""
    if not text.startswith(SETTINGS_HEAD):
        raise TextError(line, 1)
    words = split_words(text, line)
    check_count(words, line, 4, 4)
    slots = read_number(words[1][1], line, words[1][0], MOST_SLOTS)
    longest = read_from_one(words[2][1], line, words[2][0], MOST_LONGEST)
    column, word = words[3]
    return (slots, longest, None if word == "none" else read_from_one(word, line, column, MOST_HOT))


def read_guest(text):
    """Return the guest of a text that begins behind the first lines of another text."""
    try:
        return parse_guest(text)
    except TextError as error:
        raise TextError(HEAD_LINES + error.line, error.column) from None


def load(text):
    """Return a new debugger for the text of a saved one."""
    rows = text.split("\n") + [""] * HEAD_LINES
    policy = read_behind(parse_policy, rows[0], 1, POLICY_HEAD)
    slots, longest, hot = read_settings(rows[1], 2)
    schedule = read_behind(read_actions, rows[2], 3, SCHEDULE_HEAD)
    guest = read_guest("\n".join(text.split("\n")[HEAD_LINES:]))
    debugger = Debugger(guest, policy, slots=slots, longest=longest, hot=hot)
    debugger.run(schedule)
    return debugger
