"""The interface: each name, argument, default and method stands where the document lists it."""

import importlib
import inspect
import unittest

PLAIN_PAGES = ((0, 7), (1, 7), (2, 7), (3, 7))
ENVIRONMENT = "*, other=True, device=True"
GUEST_DEFAULTS = "pages=((0, 7), (1, 7), (2, 7), (3, 7)), starts=(0, None), handlers=(60, 60), writes=()"

FUNCTIONS = {
    "ops": ("op_number(name)", "operand_kinds(name)", "size_of(name)", "operand_limit(kind)", "decode(numbers)",
            "encode(name, operands)", "values_read(name, operands)", "value_made(name, operands)",
            "is_supervisor(name)", "ends_block(name)", "is_linkable(name)", "is_jump(name)"),
    "guest": (f"build_guest(programs, *, {GUEST_DEFAULTS})",),
    "machine": ("next_address(address, size)",),
    "trial": ("check_action(action)", "check_settings(slots, longest)"),
    "scan": ("split_words(text, line)", "read_number(word, line, column, most)", "statements(text)"),
    "instructions": ("format_instruction(name, operands)", "parse_instruction(text, line=1)"),
    "assembler": ("assemble(text)",),
    "listing": ("list_page(guest, page)",),
    "guesttext": ("format_guest(guest)", "parse_guest(text)"),
    "plaintext": ("format_policy(policy)", "parse_policy(text, line=1)", "format_schedule(schedule)",
                  "parse_schedule(text, line=1)", "format_event(event)", "parse_event(text, line=1)"),
    "fetch": ("fetch_at(machine, address)",),
    "execute": ("trap_kind(machine, p, name, operands, level)", "trap(machine, p, kind, address)",
                "deed(machine, p, name, operands, address)", "step(machine, p)", "can_take(machine, p)",
                "take(machine, p)", "device_write(machine)", "inspect_event(machine, p)"),
    "plain": ("plain_events(guest, schedule)",),
    "explore": ("can_output(guest, events, *, interrupts=False)", "all_outputs(guest, length)"),
    "flush": ("sources(maker)", "flush(processor, deferred)", "flushed(processor, deferred)"),
    "defer": ("translate(instructions, level, policy)",),
    "making": ("capture_at(machine, address)", "build_block(entry, level, parts, policy)",
               "make_block(machine, entry, level, policy, longest)", "is_same(machine, block, pc, level)"),
    "notice": ("tracked(block, policy)", "is_hit(block, change, policy)"),
    "policies": ("describe(name)", "policy_number(policy)", "policy_numbered(number)"),
    "perform": ("has_part(block, index)", "deferred_at(block, index)", "newest(buffer, frame, offset)",
                "drain(machine, buffer)", "perform(machine, p, block, index, policy, buffer)"),
    "against": ("run_trial(trial, policy)", "agrees(host)", "first_difference(trial, policy)"),
    "cellscenario": ("targets_of(policy)", f"cell_scenario(policy, {ENVIRONMENT})"),
    "cellwitness": ("cell_witness(policy, target, scenario)",),
    "valuescenario": ("value_scenario(policy)", f"can_leave(policy, {ENVIRONMENT})",
                      f"leave_scenario(policy, {ENVIRONMENT})"),
    "valuewitness": (f"value_witness(scenario, {ENVIRONMENT})",),
    "conditions": ("value_condition(policy)", f"leave_condition(policy, {ENVIRONMENT})",
                   f"code_condition(policy, {ENVIRONMENT})"),
    "verdict": (f"verdict(policy, {ENVIRONMENT})", f"is_right(policy, {ENVIRONMENT})",
                f"witness(policy, {ENVIRONMENT})", "sort_policies(*policies, other=True, device=True)"),
    "least": (f"least_policies({ENVIRONMENT})", f"repairs(policy, {ENVIRONMENT})",
              f"redundant(policy, {ENVIRONMENT})", f"shrink(policy, {ENVIRONMENT})"),
    "prices": ("price_of(policy, prices)", f"cheapest(prices, {ENVIRONMENT})"),
    "polling": ("is_polled(policy, entry, target)", "always_polled(policy)"),
    "graph": ("block_graph(machine, level, policy, longest)",),
    "rings": ("unpolled_targets(graph, policy, entry)", "unpolled_edges(graph, policy)",
              "unpolled_rings(graph, policy)", "greatest_delay(graph, policy)"),
    "delays": ("delays(schedule, p)",),
    "handshake": ("stuck_scenario(waiting_counts)",),
    "joining": ("join_addresses(a, index, b)", "make_joined(machine, addresses, level, policy, most)"),
    "makers": ("printer_guest(numbers)", "stamper_guest(numbers)"),
    "house": ("house_guest(name, number)", "house_matching(name, number)", "house_schedule(name, number)",
              "house_events(name, number)"),
    "journal": ("journal_line(number, action, events)", "journal(debugger)", "cost_lines(counts)",
                "bill(counts, prices)"),
    "saved": ("save(debugger)", "load(text)"),
    "advice": ("environment_of(guest)", "is_safe(guest, policy)", "advise(guest, policy)", "warn(guest, policy)"),
}
GENERATORS = ("scan.statements", "parts.Block.captured_cells", "least.shrink", "rings.unpolled_edges",
              "debugger.Debugger.find")
CLASSES = {
    "errors": ("TextError(line, column)", "InstructionError(name)", "GuestError(field)", "PolicyError(name)",
               "ActionError(action)", "SettingError(name)", "DebuggerError(reason)"),
    "policy": ("Policy(names=())",),
    "guest": (f"Guest(frames, {GUEST_DEFAULTS})",),
    "machine": ("Processor(start)", "Machine(guest)"),
    "trial": ("Trial(guest, slots, longest, schedule)",),
    "plain": ("PlainRun(guest)",),
    "parts": ("Part(address, name, operands, size, captured, *, before=(), done=True, after=(), start_map=(), "
              "deed_map=())", "Block(entry, level, parts)"),
    "store": ("BlockStore(count)",),
    "host": ("Host(guest, policy, *, slots=4, longest=4)",),
    "search": ("Table(first='start', rows=())",),
    "celltable": (f"CellTable(policy, target, {ENVIRONMENT})",),
    "valuetable": ("ValueTable(policy, target, *, leaving)",),
    "handshake": ("Handshake(waiting_counts)",),
    "hothost": ("HotHost(guest, policy, *, slots=4, longest=4, hot=2)",),
    "stops": ("Stop()", "AddressStop(p, address)", "CellStop(frame, offset, number)", "EventStop(name)"),
    "debugger": ("Debugger(guest, policy, *, slots=4, longest=4, hot=None)",),
}
METHODS = {
    "policy.Policy": ("has(self, name)", "__contains__(self, name)", "__iter__(self)", "__or__(self, other)",
                      "__sub__(self, other)", "static empty()", "static full()"),
    "guest.Guest": ("key(self)", "fits(self, *, other=True, device=True)", "static blank()"),
    "machine.Processor": ("key(self)", "copy(self)"),
    "machine.Machine": ("key(self)", "copy(self)", "place(self, address)", "number_at(self, address)",
                        "rights_at(self, address)"),
    "trial.Trial": ("key(self)",),
    "plain.PlainRun": ("do(self, action)", "run(self, schedule)", "class replay(cls, guest, schedule)"),
    "parts.Part": ("address_after(self, taken)", "key(self)"),
    "parts.Block": ("__iter__(self)", "captured_cells(self)", "exits(self)", "exit_address(self, way)", "key(self)"),
    "store.BlockStore": ("lookup(self, entry, level, policy)", "candidate(self, seats, policy)",
                         "put(self, block, slot, policy)", "hits(self, change, policy)",
                         "invalidate(self, slot, policy)", "holds(self, came)", "link_of(self, came)",
                         "set_link(self, came, slot)", "drop_link(self, came)", "all_links(self)", "key(self)"),
    "host.Host": ("do(self, action)", "run(self, schedule)", "view(self)"),
    "search.Table": ("start(self)", "moves(self, state)", "scenario(self)", "states(self)"),
    "celltable.CellTable": ("start(self)", "moves(self, state)"),
    "valuetable.ValueTable": ("start(self)", "moves(self, state)"),
    "handshake.Handshake": ("start(self)", "moves(self, state)"),
    "stops.Stop": ("__call__(self, machine, events)",),
    "stops.AddressStop": ("__call__(self, machine, events)",),
    "stops.CellStop": ("__call__(self, machine, events)",),
    "stops.EventStop": ("__call__(self, machine, events)",),
    "debugger.Debugger": ("do(self, action)", "run(self, schedule)", "state(self, p)", "cell(self, frame, offset)",
                          "agrees(self)", "find(self, name)", "until(self, stop, p, *, limit=64)",
                          "back(self, count=1)", "forward(self, count=1)", "detour(self)",
                          "rehearse(self, *schedules)", "foresee(self, stop, p, *, limit=64)"),
}
BASES = {
    "celltable.CellTable": "search.Table",
    "valuetable.ValueTable": "search.Table",
    "handshake.Handshake": "search.Table",
    "hothost.HotHost": "host.Host",
    "stops.AddressStop": "stops.Stop",
    "stops.CellStop": "stops.Stop",
    "stops.EventStop": "stops.Stop",
}
PROPERTIES = ("plain.PlainRun.finished", "parts.Part.fall_through", "debugger.Debugger.position")
VALUES = ("ops.OPS", "policy.RULES", "guest.PLAIN_PAGES", "trial.ACTIONS", "plaintext.TRAP_KINDS",
          "explore.MOST_LENGTH", "policies.CODE_RULES", "policies.VALUE_RULES", "policies.POLL_RULES",
          "search.BAD", "celltable.MOVES", "celltable.TARGETS", "valuetable.VALUE_TARGETS",
          "valuetable.REGISTER_MOVES", "prices.MOST_PRICE", "house.HOUSE")


def module_named(name):
    return importlib.import_module(f"guestlives.{name}")


class TestInterface(unittest.TestCase):
    def test_functions_and_classes(self):
        for table, is_kind in ((FUNCTIONS, inspect.isfunction), (CLASSES, inspect.isclass)):
            for name, rows in table.items():
                for row in rows:
                    word = row.partition("(")[0]
                    found = getattr(module_named(name), word)
                    self.assertTrue(is_kind(found), row)
                    self.assertEqual(found.__module__, f"guestlives.{name}")
                    self.assertEqual(word + str(inspect.signature(found)), row)

    def test_methods(self):
        for place, rows in METHODS.items():
            name, _, word = place.partition(".")
            members = vars(getattr(module_named(name), word))
            for row in rows:
                kind, _, rest = row.rpartition(" ") if row.endswith("()") else ("", "", row)
                if rest.startswith("class "):
                    kind, rest = "class", rest[6:]
                found = members[rest.partition("(")[0]]
                wanted = {"": inspect.isfunction, "static": lambda it: isinstance(it, staticmethod),
                          "class": lambda it: isinstance(it, classmethod)}
                self.assertTrue(wanted[kind](found), row)
                plain = found.__func__ if kind else found
                self.assertEqual(plain.__name__ + str(inspect.signature(plain)), rest)

    def test_properties(self):
        for place in PROPERTIES:
            name, word, last = place.split(".")
            self.assertIsInstance(vars(getattr(module_named(name), word))[last], property)

    def test_generators(self):
        for place in GENERATORS:
            name, *words = place.split(".")
            found = module_named(name)
            for word in words:
                found = vars(found)[word]
            self.assertTrue(inspect.isgeneratorfunction(found), place)

    def test_base_classes(self):
        for place, base in BASES.items():
            (name, _, word), (other, _, above) = place.partition("."), base.partition(".")
            self.assertEqual(getattr(module_named(name), word).__bases__, (getattr(module_named(other), above),))

    def test_values(self):
        for place in VALUES:
            name, _, word = place.partition(".")
            self.assertTrue(hasattr(module_named(name), word), place)
        self.assertEqual(module_named("guest").PLAIN_PAGES, PLAIN_PAGES)

    def test_the_base_class_of_all_errors(self):
        self.assertEqual(module_named("errors").GuestlivesError.__bases__, (ValueError,))


if __name__ == "__main__":
    unittest.main()
