"""Point 50."""

import unittest

from checks import Checks
from guestlives.flush import flush, flushed, sources
from guestlives.machine import Processor


def processor_with(*regs):
    processor = Processor(7)
    processor.regs = list(regs)
    processor.zero, processor.less, processor.enabled = 1, 0, True
    return processor


class TestSources(Checks):
    def test_sources(self):
        for maker, wanted in (
            (("set", 2), ()), (("move", 2), (2,)), (("move", 0), (0,)), (("compare", 3, 1), (1, 3)),
            (("compare", 0, 2), (0, 2)), (("compare", 1, 1), (1,)), (("flags", 1, 0), ()),
        ):
            self.same_kind(sources(maker), wanted)


class TestFlush(Checks):
    def test_each_maker(self):
        for value, maker, regs, flags in (
            (0, ("set", 255), [255, 6, 7, 8], (1, 0)), (3, ("move", 1), [5, 6, 7, 6], (1, 0)),
            (4, ("compare", 0, 1), [5, 6, 7, 8], (0, 1)), (4, ("compare", 1, 0), [5, 6, 7, 8], (0, 0)),
            (4, ("compare", 2, 2), [5, 6, 7, 8], (1, 0)), (4, ("flags", 0, 1), [5, 6, 7, 8], (0, 1)),
        ):
            processor = processor_with(5, 6, 7, 8)
            self.assertIsNone(flush(processor, {value: maker}))
            self.same_kind(processor.regs, regs)
            self.same_kind((processor.zero, processor.less), flags)

    def test_in_ascending_order_by_the_registers_of_then(self):
        deferred = [(4, ("compare", 0, 1)), (1, ("move", 0)), (2, ("move", 3)), (0, ("set", 9)), (3, ("move", 2))]
        for given in (deferred, tuple(deferred[::-1]), dict(deferred)):
            processor = processor_with(1, 2, 3, 4)
            flush(processor, given)
            self.assertEqual((processor.regs, processor.zero, processor.less), ([9, 9, 4, 4], 1, 0))
        self.assertEqual(deferred[0], (4, ("compare", 0, 1)))

    def test_nothing_else_changes(self):
        processor = processor_with(1, 2, 3, 4)
        before = processor.key()
        flush(processor, {})
        flush(processor, ())
        self.assertEqual(processor.key(), before)
        flush(processor, {2: ("set", 3)})
        self.assertEqual(processor.key(), before)


class TestFlushed(Checks):
    def test_a_copy(self):
        processor = processor_with(1, 2, 3, 4)
        before = processor.key()
        deferred = {1: ("move", 0), 4: ("flags", 0, 0)}
        made = flushed(processor, deferred)
        self.assertIsInstance(made, Processor)
        self.same_kind(made.key(), (7, (1, 1, 3, 4), (0, 0), 1, True, False, (0, 1, False), False))
        self.assertEqual((processor.key(), deferred), (before, {1: ("move", 0), 4: ("flags", 0, 0)}))
        self.assertEqual(flushed(processor, []).key(), before)
        self.assertIsNot(flushed(processor, []), processor)


if __name__ == "__main__":
    unittest.main()
