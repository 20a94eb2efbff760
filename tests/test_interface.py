"""The interface: each name, argument, default and method stands where the document lists it."""

import importlib
import inspect
import unittest

PLAIN_PAGES = ((0, 7), (1, 7), (2, 7), (3, 7))
GUEST_DEFAULTS = "pages=((0, 7), (1, 7), (2, 7), (3, 7)), starts=(0, None), handlers=(60, 60), writes=()"

FUNCTIONS = {
    "ops": ("op_number(name)", "operand_kinds(name)", "size_of(name)", "operand_limit(kind)", "decode(numbers)",
            "encode(name, operands)", "values_read(name, operands)", "value_made(name, operands)",
            "is_supervisor(name)", "ends_block(name)", "is_linkable(name)", "is_jump(name)"),
    "guest": (f"build_guest(programs, *, {GUEST_DEFAULTS})",),
    "machine": ("next_address(address, size)",),
    "trial": ("check_action(action)", "check_settings(slots, longest)"),
    "scan": ("split_words(text, line)", "read_number(word, line, column, most)", "statements(text)"),
    "instructions": ("format_instruction(name, operands)", "parse_instruction(text, line=1)"),
    "assembler": ("assemble(text)",),
    "listing": ("list_page(guest, page)",),
    "guesttext": ("format_guest(guest)", "parse_guest(text)"),
    "plaintext": ("format_policy(policy)", "parse_policy(text, line=1)", "format_schedule(schedule)",
                  "parse_schedule(text, line=1)", "format_event(event)", "parse_event(text, line=1)"),
    "fetch": ("fetch_at(machine, address)",),
    "execute": ("trap_kind(machine, p, name, operands, level)", "trap(machine, p, kind, address)",
                "deed(machine, p, name, operands, address)", "step(machine, p)", "can_take(machine, p)",
                "take(machine, p)", "device_write(machine)", "inspect_event(machine, p)"),
    "plain": ("plain_events(guest, schedule)",),
    "explore": ("can_output(guest, events, *, interrupts=False)", "all_outputs(guest, length)"),
}
CLASSES = {
    "errors": ("TextError(line, column)", "InstructionError(name)", "GuestError(field)", "PolicyError(name)",
               "ActionError(action)", "SettingError(name)", "DebuggerError(reason)"),
    "policy": ("Policy(names=())",),
    "guest": (f"Guest(frames, {GUEST_DEFAULTS})",),
    "machine": ("Processor(start)", "Machine(guest)"),
    "trial": ("Trial(guest, slots, longest, schedule)",),
    "plain": ("PlainRun(guest)",),
}
METHODS = {
    "policy.Policy": ("has(self, name)", "__contains__(self, name)", "__iter__(self)", "__or__(self, other)",
                      "__sub__(self, other)", "static empty()", "static full()"),
    "guest.Guest": ("key(self)", "fits(self, *, other=True, device=True)", "static blank()"),
    "machine.Processor": ("key(self)", "copy(self)"),
    "machine.Machine": ("key(self)", "copy(self)", "place(self, address)", "number_at(self, address)",
                        "rights_at(self, address)"),
    "trial.Trial": ("key(self)",),
    "plain.PlainRun": ("do(self, action)", "run(self, schedule)", "class replay(cls, guest, schedule)"),
}
VALUES = ("ops.OPS", "policy.RULES", "guest.PLAIN_PAGES", "trial.ACTIONS", "plaintext.TRAP_KINDS",
          "explore.MOST_LENGTH")


def module_named(name):
    return importlib.import_module(f"guestlives.{name}")


class TestInterface(unittest.TestCase):
    def test_functions_and_classes(self):
        for table, is_kind in ((FUNCTIONS, inspect.isfunction), (CLASSES, inspect.isclass)):
            for name, rows in table.items():
                for row in rows:
                    word = row.partition("(")[0]
                    found = getattr(module_named(name), word)
                    self.assertTrue(is_kind(found), row)
                    self.assertEqual(found.__module__, f"guestlives.{name}")
                    self.assertEqual(word + str(inspect.signature(found)), row)

    def test_methods(self):
        for place, rows in METHODS.items():
            name, _, word = place.partition(".")
            members = vars(getattr(module_named(name), word))
            for row in rows:
                kind, _, rest = row.rpartition(" ") if row.endswith("()") else ("", "", row)
                if rest.startswith("class "):
                    kind, rest = "class", rest[6:]
                found = members[rest.partition("(")[0]]
                wanted = {"": inspect.isfunction, "static": lambda it: isinstance(it, staticmethod),
                          "class": lambda it: isinstance(it, classmethod)}
                self.assertTrue(wanted[kind](found), row)
                plain = found.__func__ if kind else found
                self.assertEqual(plain.__name__ + str(inspect.signature(plain)), rest)

    def test_values(self):
        for place in VALUES:
            name, _, word = place.partition(".")
            self.assertTrue(hasattr(module_named(name), word), place)
        self.assertEqual(module_named("guest").PLAIN_PAGES, PLAIN_PAGES)

    def test_the_base_class_of_all_errors(self):
        self.assertEqual(module_named("errors").GuestlivesError.__bases__, (ValueError,))


if __name__ == "__main__":
    unittest.main()
