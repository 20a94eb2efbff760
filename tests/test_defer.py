"""Points 7 and 51 to 54."""

import unittest

from checks import Checks
from guestlives.defer import translate
from guestlives.errors import InstructionError
from guestlives.ops import OPS
from guestlives.policy import Policy

# Without a rule, but so that nothing is dropped.
KEEP = ("keep_dropped",)


def steps_of(*instructions, rules=KEEP, level=1):
    return translate(list(instructions), level, Policy(rules))


def row(before=(), done=True, after=(), start=None, deed=None):
    """The small steps; the map at the deed is that at the start without what is flushed before."""
    start = start or {}
    if deed is None:
        flushed = [value for value, _ in before]
        deed = {value: maker for value, maker in start.items() if value not in flushed}
    return (tuple(before), done, tuple(after), start, deed)


class TestTranslate(Checks):
    def test_the_example_of_the_document(self):
        steps = steps_of(("set", (0, 5)), ("move", (1, 0)), ("add", (1, 2)), ("show", (1,)),
                         rules=("flush_exit", "flush_source", "keep_dropped"))
        five = ("set", 5)
        self.same_kind(steps, [
            ((), False, (), {}, {}), ((), False, (), {0: five}, {0: five}),
            (((1, five),), True, (), {0: five, 1: five}, {0: five}), ((), True, ((0, five),), {0: five}, {0: five}),
        ])

    def test_no_instructions(self):
        for rules in ((), ("eager",), ("flush_exit",)):
            self.same_kind(steps_of(rules=rules), [])

    def test_eager(self):
        instructions = [("set", (0, 5)), ("set", (0, 6)), ("compare", (0, 0)), ("jumpz", (9,))]
        for rules in (("eager",), Policy.full()):
            steps = translate(instructions, 1, Policy(rules))
            self.same_kind(steps, [((), True, (), {}, {})] * 4)
            maps = [table for step in steps for table in step[3:]]
            self.assertEqual(len({id(table) for table in maps}), 8)

    def test_wrong_instructions(self):
        for wrong, name in (
            ([("halt", ()), ("nothing", ()), ("other", ())], "nothing"), ([("set", (4, 0)), ("nothing", ())], "set"),
            ([("set", (0, 256))], "set"), ([("jump", ())], "jump"), ([("print", (1,)), ("halt", (0,))], "halt"),
            ([("show", (-1,))], "show"),
        ):
            for rules in ((), ("eager",), Policy.full()):
                self.refuses(InstructionError, {"name": name}, translate, wrong, 1, Policy(rules))

    def test_arguments_stay_and_results_are_new(self):
        instructions = (("set", (0, 5)), ("set", (1, 5)), ("halt", ()))
        first = translate(instructions, 1, Policy())
        first[1][3][3] = "x"
        first[1][4][3] = "y"
        self.assertEqual(translate(instructions, 1, Policy())[1:],
                         [row(done=False, start={0: ("set", 5)}), row(start={0: ("set", 5), 1: ("set", 5)})])
        self.assertEqual(first[2][3], {0: ("set", 5), 1: ("set", 5)})


class TestMakers(Checks):
    def maker(self, *instructions, value, rules=KEEP):
        """The maker that is pending for a value behind the instructions."""
        return steps_of(*instructions, ("halt", ()), rules=rules)[-1][3].get(value)

    def test_set(self):
        self.same_kind(steps_of(("set", (2, 7)), ("halt", ())), [row(done=False), row(start={2: ("set", 7)})])
        self.assertEqual(self.maker(("set", (2, 7)), ("set", (2, 8)), value=2), ("set", 8))

    def test_move(self):
        self.assertEqual(self.maker(("move", (1, 3)), value=1), ("move", 3))
        self.assertEqual(self.maker(("set", (3, 9)), ("move", (1, 3)), value=1), ("set", 9))
        self.assertEqual(self.maker(("move", (1, 1)), value=1), ("move", 1))

    def test_compare(self):
        self.assertEqual(self.maker(("compare", (1, 3)), value=4), ("compare", 1, 3))
        self.assertEqual(self.maker(("set", (1, 9)), ("compare", (1, 3)), value=4), ("compare", 1, 3))
        self.assertEqual(self.maker(("set", (3, 9)), ("compare", (1, 3)), value=4), ("compare", 1, 3))
        for number, flags in ((8, (0, 1)), (9, (1, 0)), (10, (0, 0))):
            maker = self.maker(("set", (1, number)), ("set", (3, 9)), ("compare", (1, 3)), value=4)
            self.same_kind(maker, ("flags",) + flags)
        self.assertEqual(self.maker(("set", (1, 9)), ("compare", (1, 1)), value=4), ("flags", 1, 0))

    def test_add(self):
        self.assertIsNone(self.maker(("add", (1, 3)), value=1))
        self.assertIsNone(self.maker(("set", (1, 9)), ("add", (1, 3)), value=1))
        self.assertIsNone(self.maker(("set", (3, 9)), ("add", (1, 3)), value=1))
        for number, wanted in ((5, 14), (246, 255), (247, 0), (255, 8)):
            maker = self.maker(("set", (1, number)), ("set", (3, 9)), ("add", (1, 3)), value=1)
            self.assertEqual(maker, ("set", wanted))
        self.assertEqual(self.maker(("set", (1, 130)), ("add", (1, 1)), value=1), ("set", 4))

    def test_load(self):
        self.assertIsNone(self.maker(("load", (1, 3)), value=1))
        self.assertIsNone(self.maker(("set", (1, 9)), ("load", (1, 3)), value=1))
        self.assertEqual(self.maker(("set", (1, 9)), ("load", (1, 3)), ("move", (2, 1)), value=2), ("move", 1))

    def test_what_is_known(self):
        # A folded result is known too; what a load, an add or a move of something unknown makes is not.
        self.assertEqual(self.maker(("set", (0, 1)), ("move", (1, 0)), ("add", (1, 0)), ("move", (2, 1)), value=2),
                         ("set", 2))
        self.assertEqual(self.maker(("set", (1, 1)), ("add", (1, 0)), ("move", (2, 1)), value=2), ("move", 1))
        self.assertEqual(self.maker(("set", (1, 1)), ("move", (1, 0)), ("move", (2, 1)), value=2), ("move", 1))
        self.assertEqual(self.maker(("set", (1, 1)), ("jump", (0,)), ("move", (2, 1)), value=2), ("set", 1))
        # The numbers known ahead of the instruction count.
        self.assertEqual(self.maker(("set", (1, 1)), ("move", (1, 1)), value=1), ("set", 1))

    def test_a_known_number_is_known_though_it_was_flushed(self):
        self.assertEqual(self.maker(("set", (1, 1)), ("show", (1,)), ("move", (2, 1)), value=2), ("set", 1))

    def test_done(self):
        for instruction, wanted in (
            (("set", (0, 1)), False), (("move", (0, 1)), False), (("compare", (0, 1)), False), (("add", (0, 1)), True),
            (("load", (0, 1)), True), (("store", (0, 1)), True), (("show", (0,)), True), (("print", (0,)), True),
            (("jump", (0,)), True), (("jumpz", (0,)), True), (("halt", ()), True), (("map", (0, 0)), True),
        ):
            self.assertIs(steps_of(instruction)[0][1], wanted)
        self.assertIs(steps_of(("set", (0, 1)), ("set", (1, 1)), ("add", (0, 1)))[2][1], False)


class TestBefore(Checks):
    FIVE = ("set", 5)

    def before(self, *instructions, rules=KEEP, level=1):
        return steps_of(*instructions, rules=rules, level=level)[-1][0]

    def test_what_is_read_is_flushed(self):
        steps = steps_of(("set", (0, 5)), ("set", (1, 5)), ("show", (0,)), ("show", (0,)))
        both = {0: self.FIVE, 1: self.FIVE}
        self.same_kind(steps[2:], [row([(0, self.FIVE)], start=both), row(start={1: self.FIVE})])

    def test_each_reader(self):
        for instruction, wanted in (
            (("show", (0,)), [0]), (("show", (1,)), [1]), (("store", (9, 1)), [1]), (("load", (0, 9)), []),
            (("print", (0,)), []), (("jump", (9,)), []), (("add", (0, 3)), [0]), (("add", (3, 0)), [0]),
            (("compare", (3, 1)), [1]), (("compare", (2, 0)), [0]), (("map", (0, 1)), []), (("set", (2, 1)), []),
        ):
            found = self.before(("set", (0, 5)), ("set", (1, 5)), instruction)
            self.same_kind(found, tuple([(value, self.FIVE) for value in wanted]))

    def test_flags(self):
        maker = ("compare", 0, 1)
        for name, wanted in (("jumpz", ((4, maker),)), ("jumpl", ((4, maker),)), ("jump", ())):
            self.same_kind(self.before(("compare", (0, 1)), (name, (9,))), wanted)

    def test_several_in_ascending_order(self):
        for reader in (("add", (3, 1)), ("compare", (3, 1)), ("compare", (1, 3))):
            found = self.before(("move", (3, 0)), ("move", (1, 0)), reader)
            self.same_kind(found, ((1, ("move", 0)), (3, ("move", 0))))
        self.assertEqual(self.before(("move", (2, 0)), ("move", (1, 2))), ((2, ("move", 0)),))

    def test_what_a_folded_instruction_reads_is_not_flushed(self):
        for reader in (("move", (2, 0)), ("add", (2, 0)), ("compare", (2, 0))):
            self.assertEqual(self.before(("set", (0, 5)), ("set", (2, 1)), reader), ())

    def test_what_a_dropped_instruction_reads_is_not_flushed(self):
        steps = steps_of(("move", (0, 3)), ("move", (1, 0)), ("load", (1, 9)), rules=())
        self.same_kind(steps, [row(done=False), row(done=False, start={0: ("move", 3)}), row(start={0: ("move", 3)})])

    def test_flush_source(self):
        rules = ("keep_dropped", "flush_source")
        for maker, value in ((("move", (1, 0)), 1), (("compare", (0, 1)), 4), (("compare", (1, 0)), 4)):
            told = ("move", 0) if value == 1 else ("compare",) + maker[1]
            for made in (("set", (0, 1)), ("move", (0, 2)), ("add", (0, 2)), ("load", (0, 9))):
                self.assertEqual(self.before(maker, made, rules=rules), ((value, told),))
                self.assertEqual(self.before(maker, made), ())
            self.assertEqual(self.before(maker, ("set", (3, 1)), rules=rules), ())
        self.assertEqual(self.before(("set", (0, 5)), ("set", (0, 6)), rules=rules), ())
        self.assertEqual(self.before(("move", (1, 0)), ("compare", (0, 2)), rules=rules), ())

    def test_flush_source_before_a_folded_and_a_dropped_instruction(self):
        folded = (("set", (2, 1)), ("move", (1, 0)), ("move", (0, 2)))
        self.assertEqual(self.before(*folded, rules=("keep_dropped", "flush_source")), ((1, ("move", 0)),))
        steps = steps_of(("move", (1, 0)), ("set", (0, 2)), ("set", (0, 3)), rules=("flush_source",))
        self.same_kind(steps, [row(done=False), row([(1, ("move", 0))], done=False, start={1: ("move", 0)}),
                               row(done=False)])

    def test_a_value_that_is_its_own_source(self):
        rules = ("keep_dropped", "flush_source")
        self.assertEqual(self.before(("move", (1, 1)), ("set", (1, 2)), rules=rules), ((1, ("move", 1)),))
        self.assertEqual(self.before(("move", (1, 1)), ("set", (1, 2))), ())

    def test_flush_fault(self):
        supervisor = (("map", (0, 0)), ("right", (0, 7)), ("enable", ()), ("disable", ()), ("resume", ()))
        others = (("halt", ()), ("print", (0,)), ("show", (3,)), ("set", (3, 0)), ("move", (3, 2)), ("add", (3, 2)),
                  ("compare", (2, 2)), ("jump", (0,)), ("jumpz", (0,)), ("jumpl", (0,)), ("lower", ()))
        always = (("load", (3, 0)), ("store", (0, 3)), ("call", ()))
        self.assertEqual(len(supervisor + others + always), len(OPS))
        both = ((0, ("set", 5)), (1, ("move", 2)))
        for level in (0, 1):
            for instruction in supervisor + others + always:
                wanted = both if instruction in always or (instruction in supervisor and level == 0) else ()
                made = (("move", (1, 2)), ("set", (0, 5)), instruction)
                self.same_kind(self.before(*made, rules=("keep_dropped", "flush_fault"), level=level), wanted)
                self.same_kind(self.before(*made, level=level), ())

    def test_flush_exit_before_jumps(self):
        for name in ("jump", "jumpz", "jumpl"):
            made = (("compare", (0, 1)), ("set", (0, 5)), (name, (9,)))
            steps = steps_of(*made, rules=("keep_dropped", "flush_exit"))
            pairs = [(0, ("set", 5)), (4, ("compare", 0, 1))]
            self.same_kind(steps[2], row(pairs, start=dict(pairs)))
        for name, operands in (("print", (0,)), ("load", (3, 0)), ("call", ()), ("lower", ()), ("halt", ())):
            self.assertEqual(self.before(("set", (0, 5)), (name, operands), rules=("keep_dropped", "flush_exit")), ())

    def test_maps(self):
        steps = steps_of(("set", (0, 5)), ("move", (1, 2)), ("show", (1,)), ("halt", ()))
        both = {0: self.FIVE, 1: ("move", 2)}
        self.same_kind(steps[2], (((1, ("move", 2)),), True, (), both, {0: self.FIVE}))
        self.same_kind(steps[3], ((), True, (), {0: self.FIVE}, {0: self.FIVE}))

    def test_the_value_that_is_made_stays_in_the_map_of_its_deed(self):
        steps = steps_of(("set", (0, 5)), ("load", (0, 9)), ("halt", ()))
        self.same_kind(steps[1:], [row(start={0: self.FIVE}), row()])


class TestAfter(Checks):
    def test_flush_exit(self):
        rules = ("keep_dropped", "flush_exit")
        for last in (("set", (0, 6)), ("print", (1,)), ("halt", ()), ("lower", ())):
            steps = steps_of(("move", (3, 1)), ("set", (0, 5)), last, rules=rules)
            number = 6 if last[0] == "set" else 5
            self.assertEqual([step[2] for step in steps], [(), (), ((0, ("set", number)), (3, ("move", 1)))])
            self.assertEqual([step[2] for step in steps_of(("set", (0, 5)), last)], [(), ()])
        self.assertEqual(steps_of(("compare", (0, 1)), rules=rules), [row(done=False, after=[(4, ("compare", 0, 1))])])

    def test_nothing_is_left_behind_a_jump(self):
        self.assertEqual(steps_of(("set", (0, 5)), ("jump", (0,)), rules=("flush_exit",))[1][2], ())

    def test_what_the_last_instruction_makes_itself(self):
        steps = steps_of(("set", (0, 5)), ("add", (0, 1)), rules=("keep_dropped", "flush_exit"))
        self.same_kind(steps[1], row([(0, ("set", 5))], start={0: ("set", 5)}))


class TestDropped(Checks):
    def dropped(self, *instructions, rules=()):
        """Whether the first instruction leaves nothing pending behind it and is not done."""
        steps = steps_of(*instructions, rules=rules)
        value = {"compare": 4}.get(instructions[0][0], instructions[0][1][0])
        return steps[0][1] is False and value not in steps[1][3]

    def test_each_instruction_that_can_be_dropped(self):
        for first in (("set", (1, 5)), ("move", (1, 2)), ("add", (1, 2))):
            for later in (("set", (1, 6)), ("move", (1, 3)), ("load", (1, 9))):
                self.assertTrue(self.dropped(first, later))
                self.assertTrue(self.dropped(first, ("print", (0,)), ("call", ()), ("lower", ()), later))
                self.assertFalse(self.dropped(first, later, rules=KEEP))
        self.assertTrue(self.dropped(("compare", (1, 2)), ("compare", (1, 3))))
        self.assertFalse(self.dropped(("compare", (1, 2)), ("compare", (1, 3)), rules=KEEP))
        self.assertFalse(self.dropped(("load", (1, 2)), ("set", (1, 6))))

    def test_an_add_that_is_dropped_is_not_done(self):
        steps = steps_of(("add", (1, 2)), ("set", (1, 5)), rules=())
        self.same_kind(steps, [row(done=False), row(done=False)])
        self.assertIs(steps_of(("add", (1, 2)), ("set", (1, 5)))[0][1], True)

    def test_a_reader_keeps_it(self):
        for reader in (("show", (1,)), ("store", (9, 1)), ("move", (2, 1)), ("add", (2, 1)), ("compare", (1, 2))):
            self.assertFalse(self.dropped(("set", (1, 5)), reader, ("set", (1, 6))))
        for later in (("move", (1, 1)), ("add", (1, 2))):
            self.assertFalse(self.dropped(("set", (1, 5)), later))
            self.assertFalse(self.dropped(("set", (1, 5)), later, ("set", (1, 6))))
        self.assertFalse(self.dropped(("compare", (1, 2)), ("jumpz", (9,)), ("compare", (1, 3))))

    def test_a_folded_reader_keeps_it_too(self):
        steps = steps_of(("set", (1, 5)), ("move", (2, 1)), ("set", (1, 6)), ("halt", ()), rules=())
        self.assertEqual(steps[1][3], {1: ("set", 5)})

    def test_jumps_in_between_keep_it(self):
        for name in ("jump", "jumpz", "jumpl"):
            self.assertFalse(self.dropped(("set", (1, 5)), (name, (9,)), ("set", (1, 6))))
        self.assertTrue(self.dropped(("set", (1, 5)), ("set", (1, 6)), ("jump", (9,))))

    def test_no_later_instruction_makes_it(self):
        for later in (("set", (2, 6)), ("load", (2, 6)), ("compare", (2, 3)), ("print", (1,))):
            self.assertFalse(self.dropped(("set", (1, 5)), later))
        self.assertFalse(self.dropped(("compare", (1, 2)), ("set", (1, 3))))

    def test_a_dropped_move_makes_its_register_unknown(self):
        steps = steps_of(("set", (1, 5)), ("show", (1,)), ("move", (1, 3)), ("load", (1, 9)), ("move", (2, 1)),
                         ("halt", ()), rules=())
        self.assertEqual(steps[5][3], {2: ("move", 1)})
        self.assertEqual(steps[3][3], {})

    def test_what_was_pending_is_gone_behind_a_dropped_instruction(self):
        steps = steps_of(("set", (1, 5)), ("jump", (3,)), ("move", (1, 3)), ("load", (1, 9)), rules=())
        self.same_kind(steps, [row(done=False), row(start={1: ("set", 5)}), row(done=False, start={1: ("set", 5)}),
                               row()])


if __name__ == "__main__":
    unittest.main()
