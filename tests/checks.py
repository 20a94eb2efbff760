"""What the tests share: a base class that asks for exact errors, and small guests."""

import unittest

from guestlives.against import agrees, run_trial
from guestlives.explore import can_output
from guestlives.guest import Guest, build_guest
from guestlives.instructions import parse_instruction
from guestlives.machine import Machine


class Checks(unittest.TestCase):
    def refuses(self, error, told, call, *args, **named):
        """The call raises exactly this class of error, with exactly these attributes."""
        with self.assertRaises(error) as caught:
            call(*args, **named)
        self.assertIs(type(caught.exception), error)
        self.assertEqual(vars(caught.exception), told)

    def same_kind(self, value, wanted):
        """The value is equal to the wanted one, with the same kinds all the way down."""
        self.assertIs(type(value), type(wanted), (value, wanted))
        if isinstance(wanted, (list, tuple)):
            self.assertEqual(len(value), len(wanted), (value, wanted))
            for part, other in zip(value, wanted):
                self.same_kind(part, other)
        else:
            self.assertEqual(value, wanted)

    def shows(self, policy, trial, known):
        """The host of the trial tells events that its guest cannot output; known results are kept in a dict."""
        host = run_trial(trial, policy)
        self.assertFalse(agrees(host), policy.names)
        key = (trial.guest.key(), tuple(host.events))
        if key not in known:
            known[key] = can_output(trial.guest, host.events)
        self.assertFalse(known[key], policy.names)


def blank_frames():
    return [[0] * 16 for _ in range(4)]


def guest_of(*instructions, at=0, **named):
    return build_guest([(at, list(instructions))], **named)


def machine_of(*instructions, at=0, **named):
    return Machine(guest_of(*instructions, at=at, **named))


def guest_of_texts(programs, **named):
    """A guest of programs (address, texts of instructions with semicolons and spaces between them)."""
    rows = [(address, [parse_instruction(row) for row in text.split("; ")]) for address, text in programs]
    return build_guest(rows, **named)


def guest_with(numbers, at=0, **named):
    """A guest with numbers in its cells from an address on, each page in its own frame."""
    frames = blank_frames()
    for place, number in enumerate(numbers):
        address = (at + place) % 64
        frames[address // 16][address % 16] = number
    return Guest(frames, **named)


def host_state(host):
    """All that a host is, as one value to compare."""
    prepared = [None if block is None else block.key() for block in host.prepared]
    return (host.machine.key(), host.store.key(), list(host.seats), list(host.came), prepared,
            [list(buffer) for buffer in host.buffers], list(host.events), list(host.schedule), list(host.matching),
            dict(host.counts))
