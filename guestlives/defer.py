"""Deferring: the small steps of the instructions of a block (points 51 to 54)."""

from guestlives.execute import compared
from guestlives.flush import sources
from guestlives.limits import NUMBERS
from guestlives.ops import encode, is_jump, is_supervisor, value_made, values_read
from guestlives.parts import pairs_of

DROPPABLE_NAMES = ("set", "move", "add", "compare")


def is_folded(name, operands, known):
    """Tell whether the number that an instruction makes follows from what is known."""
    if name == "move":
        return operands[1] in known
    if name in ("add", "compare"):
        return operands[0] in known and operands[1] in known
    return False


def is_dropped(instructions, index, policy):
    """Tell whether an instruction is dropped because its value is made again."""
    name, operands = instructions[index]
    if "keep_dropped" in policy or name not in DROPPABLE_NAMES:
        return False
    made = value_made(name, operands)
    for other, numbers in instructions[index + 1:]:
        if made in values_read(other, numbers):
            return False
        if value_made(other, numbers) == made:
            return True
        if is_jump(other):
            return False
    return False


def new_maker(name, operands, known):
    """Return the maker of the value that an instruction makes, or None."""
    if name == "set":
        return ("set", operands[1])
    if is_folded(name, operands, known):
        if name == "move":
            return ("set", known[operands[1]])
        first, second = known[operands[0]], known[operands[1]]
        if name == "add":
            return ("set", (first + second) % NUMBERS)
        zero, less = compared(first, second)
        return ("flags", zero, less)
    if name == "move":
        return ("move", operands[1])
    if name == "compare":
        return ("compare", operands[0], operands[1])
    return None


def flushes_all(name, level, policy):
    """Tell whether all pending values are flushed before an instruction."""
    if is_jump(name):
        return "flush_exit" in policy
    can_trap = name in ("load", "store", "call") or (level == 0 and is_supervisor(name))
    return can_trap and "flush_fault" in policy


class Translation:
    """The pending values and the known registers on the way through a row of instructions."""

    def __init__(self, level, policy):
        self.level = level
        self.policy = policy
        self.pending = {}
        self.known = {}

    def flushed_before(self, name, operands, dropped):
        """Return the pairs of the values that are flushed before an instruction, which are pending no more."""
        needed = values_read(name, operands)
        if dropped or is_folded(name, operands, self.known):
            needed = ()
        made = value_made(name, operands)
        everything = flushes_all(name, self.level, self.policy)
        pairs = []
        for value, maker in pairs_of(self.pending):
            clobbered = "flush_source" in self.policy and made in sources(maker)
            if everything or clobbered or value in needed:
                pairs.append((value, maker))
        for value, _ in pairs:
            del self.pending[value]
        return tuple(pairs)

    def remake(self, value, maker, dropped):
        """Forget what was said of a value that is made now, and keep its new maker."""
        self.pending.pop(value, None)
        self.known.pop(value, None)
        if maker is None:
            return
        if maker[0] == "set":
            self.known[value] = maker[1]
        if not dropped:
            self.pending[value] = maker

    def small_steps(self, name, operands, dropped, last):
        """Return the small steps of the next instruction of the row."""
        start_map = dict(self.pending)
        before = self.flushed_before(name, operands, dropped)
        deed_map = dict(self.pending)
        maker = new_maker(name, operands, self.known)
        value = value_made(name, operands)
        if value is not None:
            self.remake(value, maker, dropped)
        after = pairs_of(self.pending) if last and "flush_exit" in self.policy else ()
        return (before, maker is None and not dropped, after, start_map, deed_map)


def translate(instructions, level, policy):
    """Return the list of the small steps (before, done, after, start_map, deed_map) of a row of instructions."""
    for name, operands in instructions:
        encode(name, operands)
    if "eager" in policy:
        return [((), True, (), {}, {}) for _ in instructions]
    translation = Translation(level, policy)
    steps = []
    for index, (name, operands) in enumerate(instructions):
        dropped = is_dropped(instructions, index, policy)
        last = index == len(instructions) - 1
        steps.append(translation.small_steps(name, operands, dropped, last))
    return steps
