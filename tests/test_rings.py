"""Points 108 to 111."""

import unittest
from random import Random

from checks import Checks
from guestlives.delays import delays
from guestlives.errors import SettingError
from guestlives.graph import block_graph
from guestlives.guest import Guest
from guestlives.host import Host
from guestlives.least import least_policies
from guestlives.machine import Machine
from guestlives.ops import encode
from guestlives.policies import CODE_RULES, VALUE_RULES
from guestlives.policy import RULES, Policy
from guestlives.rings import greatest_delay, unpolled_edges, unpolled_rings, unpolled_targets

NONE = Policy.empty()
BACKWARD = Policy(["poll_backward"])
UNPOLLING = (Policy(["poll_entry"]), Policy(["no_links"]), Policy(["poll_entry", "poll_backward", "no_links"]))

# 4 and 20 form a ring, 9 one alone; 30 leads to both, 40 is no entry, 50 leads nowhere.
GRAPH = {4: (2, (20,)), 9: (1, (9, 50)), 20: (3, (4, 40)), 30: (5, (4, 9)), 50: (7, ())}
# No rings; the longest way is 0, 8, 16, 32.
LINE = {0: (1, (8, 16)), 8: (2, (16,)), 16: (4, (32,)), 24: (6, (32,)), 32: (1, ())}


def any_graph(random):
    entries = random.sample(range(64), random.randrange(9))
    found = {}
    for entry in entries:
        targets = {random.choice(entries + [0, 63]) for _ in range(random.randrange(3))}
        found[entry] = (random.randrange(1, 9), tuple(sorted(targets)))
    return found


def edges_by_words(graph, policy):
    found = []
    for entry, (_, targets) in graph.items():
        for target in targets:
            polls = "poll_entry" in policy or ("poll_backward" in policy and target <= entry)
            if target in graph and "no_links" not in policy and not polls:
                found.append((entry, target))
    return sorted(found)


class TestUnpolledTargets(Checks):
    def test_targets(self):
        for entry, wanted in ((4, [20]), (9, [9, 50]), (20, [4]), (30, [4, 9]), (50, [])):
            self.same_kind(unpolled_targets(GRAPH, NONE, entry), wanted)
        for entry, wanted in ((4, [20]), (9, [50]), (20, []), (30, []), (50, [])):
            self.same_kind(unpolled_targets(GRAPH, BACKWARD, entry), wanted)
        for policy in UNPOLLING:
            for entry in GRAPH:
                self.same_kind(unpolled_targets(GRAPH, policy, entry), [])

    def test_an_address_that_is_no_entry(self):
        for policy in (NONE, BACKWARD) + UNPOLLING:
            for entry in (0, 40, 63, -1, 64):
                self.refuses(SettingError, {"name": "entry"}, unpolled_targets, GRAPH, policy, entry)
        self.refuses(SettingError, {"name": "entry"}, unpolled_targets, {}, NONE, 0)

    def test_nothing_is_changed(self):
        graph = dict(GRAPH)
        unpolled_targets(graph, NONE, 9).append(3)
        unpolled_rings(graph, NONE).append(3)
        greatest_delay(graph, NONE)
        self.assertEqual(graph, GRAPH)


class TestUnpolledEdges(Checks):
    def test_edges(self):
        self.same_kind(list(unpolled_edges(GRAPH, NONE)), [(4, 20), (9, 9), (9, 50), (20, 4), (30, 4), (30, 9)])
        self.same_kind(list(unpolled_edges(GRAPH, BACKWARD)), [(4, 20), (9, 50)])
        self.assertEqual(list(unpolled_edges({}, NONE)), [])
        for policy in UNPOLLING:
            self.assertEqual(list(unpolled_edges(GRAPH, policy)), [])

    def test_in_ascending_order_whatever_the_order_of_the_graph(self):
        graph = {entry: GRAPH[entry] for entry in (30, 9, 50, 4, 20)}
        self.assertEqual(list(unpolled_edges(graph, NONE)), list(unpolled_edges(GRAPH, NONE)))
        self.assertEqual(unpolled_rings(graph, NONE), [4, 9, 20])

    def test_a_generator(self):
        found = unpolled_edges(GRAPH, NONE)
        self.assertIs(iter(found), found)
        self.assertEqual(next(found), (4, 20))

    def test_by_the_words_of_the_document(self):
        random = Random(18)
        for _ in range(200):
            graph = any_graph(random)
            for policy in (NONE, BACKWARD) + UNPOLLING:
                self.assertEqual(list(unpolled_edges(graph, policy)), edges_by_words(graph, policy))


class TestUnpolledRings(Checks):
    def test_rings(self):
        self.same_kind(unpolled_rings(GRAPH, NONE), [4, 9, 20])
        self.same_kind(unpolled_rings(LINE, NONE), [])
        self.same_kind(unpolled_rings({}, NONE), [])
        self.same_kind(unpolled_rings({7: (1, (7,))}, NONE), [7])
        self.same_kind(unpolled_rings({7: (1, (8,))}, NONE), [])
        self.same_kind(unpolled_rings({0: (1, (1,)), 1: (1, (2,)), 2: (1, (0,)), 3: (1, (0,))}, NONE), [0, 1, 2])

    def test_polled_rings(self):
        for policy in (BACKWARD,) + UNPOLLING:
            self.same_kind(unpolled_rings(GRAPH, policy), [])
        # A ring that is entered from another one, and one that two entries share.
        graph = {1: (1, (2, 3)), 2: (1, (1,)), 3: (1, (4,)), 4: (1, (3, 5)), 5: (1, (6,)), 6: (1, ())}
        self.same_kind(unpolled_rings(graph, NONE), [1, 2, 3, 4])

    def test_by_rows_of_edges(self):
        random = Random(19)
        for _ in range(200):
            graph = any_graph(random)
            for policy in (NONE, BACKWARD):
                edges = edges_by_words(graph, policy)
                joined = set(edges)
                for _ in graph:
                    joined |= {(first, last) for first, middle in joined for other, last in edges if middle == other}
                wanted = sorted([entry for entry in graph if (entry, entry) in joined])
                self.assertEqual(unpolled_rings(graph, policy), wanted)


class TestGreatestDelay(Checks):
    def test_rings(self):
        self.assertIsNone(greatest_delay(GRAPH, NONE))
        self.assertIsNone(greatest_delay({7: (1, (7,))}, NONE))
        self.assertIsNone(greatest_delay({0: (8, ()), 7: (1, (7,))}, NONE))

    def test_no_entries(self):
        for policy in (NONE, BACKWARD) + UNPOLLING:
            self.same_kind(greatest_delay({}, policy), 0)

    def test_ways(self):
        self.same_kind(greatest_delay(LINE, NONE), 7)
        self.same_kind(greatest_delay(LINE, BACKWARD), 7)
        self.same_kind(greatest_delay({0: (1, ())}, NONE), 0)
        self.same_kind(greatest_delay({0: (8, (1,))}, NONE), 7)
        self.same_kind(greatest_delay({5: (3, (2,)), 2: (4, (1,)), 1: (1, ())}, NONE), 7)
        for policy in UNPOLLING:
            self.same_kind(greatest_delay(LINE, policy), 5)
            self.same_kind(greatest_delay(GRAPH, policy), 6)
        self.same_kind(greatest_delay(GRAPH, BACKWARD), 7)
        self.same_kind(greatest_delay({entry: (8, (entry + 1,)) for entry in range(64)}, NONE), 8 * 64 - 1)
        self.same_kind(greatest_delay({entry: (8, (entry - 1,)) for entry in range(64)}, NONE), 8 * 64 - 1)

    def test_by_all_ways(self):
        random = Random(20)
        for _ in range(300):
            graph = any_graph(random)
            for policy in (NONE, BACKWARD) + UNPOLLING[:1]:
                edges = edges_by_words(graph, policy)
                ways = [[entry] for entry in graph]
                lengths = [0]
                for _ in range(len(graph) + 1):
                    lengths.extend([sum([graph[entry][0] for entry in way]) - 1 for way in ways])
                    ways = [way + [last] for way in ways for first, last in edges if first == way[-1]]
                self.assertEqual(greatest_delay(graph, policy), None if ways else max(lengths))


class TestTheBound(Checks):
    def any_guest(self, random):
        """A guest that begins with `enable` and, unless it jumps into an operand, changes no cell and no page."""
        names = ("print", "show", "set", "move", "add", "compare", "load", "jump", "jumpz", "jumpl", "halt")
        limits = {"r": 4, "n": 256, "a": 64}
        kinds = {"print": "n", "show": "r", "set": "rn", "move": "rr", "add": "rr", "compare": "rr", "load": "ra"}
        cells = [15]
        while len(cells) < 64:
            name = random.choices(names, (3, 2, 3, 2, 3, 3, 2, 3, 3, 3, 1))[0]
            told = kinds.get(name, "" if name == "halt" else "a")
            cells.extend(encode(name, [random.randrange(limits[kind]) for kind in told]))
        return Guest([cells[16 * frame:16 * frame + 16] for frame in range(4)], handlers=(0, 0))

    def right_policies(self, random):
        for policy in least_policies():
            yield policy | Policy(random.choice(((), ("poll_entry",), ("poll_backward",), ("no_links",))))
        for names in (RULES, CODE_RULES + VALUE_RULES, CODE_RULES + VALUE_RULES + ("poll_backward",)):
            yield Policy([name for name in names if name not in ("single", "check_entry", "no_links")])

    def stays(self, host):
        """Level, pages and cells are as at the start, and interrupts are enabled while one waits."""
        view, processor = host.view(), host.machine.processors[0]
        start = Machine(host.machine.guest)
        return ((view.frames, view.pages, processor.level) == (start.frames, start.pages, 1)
                and (processor.enabled or not processor.pending))

    def run_with_raises(self, random, host):
        """Let the host go and raise now and then; the result is False if point 111 does not speak of the run."""
        for _ in range(60):
            host.do("g0")
            if not self.stays(host):
                return False
            processor = host.machine.processors[0]
            if processor.enabled and not processor.pending and random.randrange(4) == 0:
                host.do("r0")
        return True

    def test_no_interrupt_waits_longer(self):
        random = Random(21)
        seen = []
        for policy in list(self.right_policies(random)) * 6:
            guest, longest = self.any_guest(random), random.randrange(1, 9)
            bound = greatest_delay(block_graph(Machine(guest), 1, policy, longest), policy)
            host = Host(guest, policy, slots=random.randrange(9), longest=longest)
            if self.run_with_raises(random, host) and bound is not None:
                waited = delays(host.matching, 0)
                seen.extend([bound - many for many in waited])
                self.assertTrue(all(many <= bound for many in waited), (policy.names, waited, bound))
        self.assertGreater(len(seen), 300)
        # The bound is reached, too.
        self.assertIn(0, seen)


if __name__ == "__main__":
    unittest.main()
