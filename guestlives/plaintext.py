"""The texts of policies, schedules and events (points 23, 25, 26 and 27)."""

from guestlives.errors import SettingError, TextError
from guestlives.limits import MOST_ACTIONS
from guestlives.policy import RULES, Policy
from guestlives.scan import check_count, first_word, read_number, split_words
from guestlives.trial import ACTIONS, check_action

TRAP_KINDS = ("execute", "invalid", "level", "read", "write", "call", "interrupt")

# For each name the parts behind it: a letter for a word (k a kind, else a number),
# several letters for a tuple of as many numbers.
EVENT_PARTS = {
    "print": ("p", "n"),
    "halt": ("p",),
    "device": ("f", "o", "n"),
    "trap": ("p", "k", "a", "rrrr", "zz"),
    "inspect": ("p", "a", "rrrr", "zz", "l"),
}
MOST_NUMBERS = {"p": 1, "n": 255, "f": 3, "o": 15, "a": 63, "r": 255, "z": 1, "l": 1}


def format_policy(policy):
    """Return the text of a policy."""
    return " ".join(policy.names) if len(policy.names) > 0 else "none"


def parse_policy(text, line=1):
    """Return the policy of a text."""
    words = split_words(text, line)
    if len(words) == 0:
        raise TextError(line, 1)
    if text == "none":
        return Policy.empty()
    place = -1
    for column, word in words:
        if word not in RULES or RULES.index(word) <= place:
            raise TextError(line, column)
        place = RULES.index(word)
    return Policy([word for _, word in words])


def repeat_text(action, many):
    """Return the word of a row of equal actions."""
    return action if many == 1 else f"{action}*{many}"


def format_schedule(schedule):
    """Return the text of a schedule."""
    for action in schedule:
        check_action(action)
    if len(schedule) > MOST_ACTIONS:
        raise SettingError("schedule")
    words = []
    first = 0
    for at, action in enumerate(schedule):
        if at + 1 == len(schedule) or schedule[at + 1] != action:
            words.append(repeat_text(action, at + 1 - first))
            first = at + 1
    return " ".join(words) if len(words) > 0 else "none"


def read_row(word, line, column):
    """Return the pair (action, length of the row) of a word."""
    action, star, count = word.partition("*")
    if action not in ACTIONS:
        raise TextError(line, column)
    if star == "":
        return (action, 1)
    many = read_number(count, line, column, MOST_ACTIONS)
    if many < 2:
        raise TextError(line, column)
    return (action, many)


def parse_schedule(text, line=1):
    """Return the schedule of a text as a list."""
    words = split_words(text, line)
    if len(words) == 0:
        raise TextError(line, 1)
    schedule = []
    if text == "none":
        return schedule
    for column, word in words:
        action, many = read_row(word, line, column)
        if len(schedule) > 0 and schedule[-1] == action:
            raise TextError(line, column)
        if len(schedule) + many > MOST_ACTIONS:
            raise TextError(line, column)
        schedule.extend([action] * many)
    return schedule


def flat_parts(event, parts):
    """Return the list of an event's words behind its name, not yet as texts."""
    if len(event) != 1 + len(parts):
        raise SettingError("event")
    words = []
    for value, letters in zip(event[1:], parts):
        if len(letters) == 1:
            words.append(value)
        elif len(value) != len(letters):
            raise SettingError("event")
        else:
            words.extend(value)
    return words


def check_value(value, letter):
    """Raise the error of an event's value that is out of range."""
    if letter == "k":
        if value not in TRAP_KINDS:
            raise SettingError("event")
    elif value < 0 or value > MOST_NUMBERS[letter]:
        raise SettingError("event")


def format_event(event):
    """Return the text of an event."""
    if len(event) == 0 or event[0] not in EVENT_PARTS:
        raise SettingError("event")
    parts = EVENT_PARTS[event[0]]
    values = flat_parts(event, parts)
    for value, letter in zip(values, "".join(parts)):
        check_value(value, letter)
    return " ".join([event[0]] + [str(value) for value in values])


def read_value(word, line, column, letter):
    """Return the value of a word of an event's text."""
    if letter != "k":
        return read_number(word, line, column, MOST_NUMBERS[letter])
    if word not in TRAP_KINDS:
        raise TextError(line, column)
    return word


def parse_event(text, line=1):
    """Return the event of a text."""
    words = split_words(text, line)
    name = first_word(words)
    if name not in EVENT_PARTS:
        raise TextError(line, 1)
    parts = EVENT_PARTS[name]
    flat = "".join(parts)
    check_count(words, line, 1 + len(flat), 1 + len(flat))
    values = [read_value(word, line, column, letter) for (column, word), letter in zip(words[1:], flat)]
    event = [name]
    at = 0
    for letters in parts:
        many = len(letters)
        event.append(values[at] if many == 1 else tuple(values[at:at + many]))
        at = at + many
    return tuple(event)
