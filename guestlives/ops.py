"""The instructions: their cells, their kinds of operands and what they read and make (points 5 to 7)."""

from guestlives.errors import InstructionError
from guestlives.limits import FLAGS

OPS = (
    ("halt", ""),
    ("print", "n"),
    ("show", "r"),
    ("set", "rn"),
    ("move", "rr"),
    ("add", "rr"),
    ("compare", "rr"),
    ("load", "ra"),
    ("store", "ar"),
    ("jump", "a"),
    ("jumpz", "a"),
    ("jumpl", "a"),
    ("call", ""),
    ("map", "gf"),
    ("right", "gk"),
    ("enable", ""),
    ("disable", ""),
    ("resume", ""),
    ("lower", ""),
)

OPERAND_LIMITS = {"r": 4, "n": 256, "a": 64, "g": 4, "f": 4, "k": 8}

SUPERVISOR_NAMES = ("map", "right", "enable", "disable", "resume")
JUMP_NAMES = ("jump", "jumpz", "jumpl")
UNLINKABLE_NAMES = ("halt", "call", "lower")


def op_number(name):
    """Return the place of an instruction in OPS."""
    for number, (known, _) in enumerate(OPS):
        if known == name:
            return number
    raise InstructionError(name)


def operand_kinds(name):
    """Return the string of the kinds of an instruction's operands."""
    return OPS[op_number(name)][1]


def size_of(name):
    """Return the number of cells that an instruction takes."""
    return 1 + len(operand_kinds(name))


def operand_limit(kind):
    """Return how many numbers a kind of operand has."""
    return OPERAND_LIMITS[kind]


def decode(numbers):
    """Return the instruction at the beginning of a list of cell numbers, or None."""
    if len(numbers) == 0 or numbers[0] >= len(OPS):
        return None
    name, kinds = OPS[numbers[0]]
    if len(numbers) <= len(kinds):
        return None
    return (name, tuple([number % operand_limit(kind) for number, kind in zip(numbers[1:], kinds)]))


def encode(name, operands):
    """Return the list of the cell numbers of an instruction."""
    number = op_number(name)
    kinds = OPS[number][1]
    if len(operands) != len(kinds):
        raise InstructionError(name)
    for operand, kind in zip(operands, kinds):
        if operand < 0 or operand >= operand_limit(kind):
            raise InstructionError(name)
    return [number] + list(operands)


def values_read(name, operands):
    """Return the values that an instruction reads, ascending and without duplicates."""
    op_number(name)
    if name == "show":
        return (operands[0],)
    if name in ("move", "store"):
        return (operands[1],)
    if name in ("add", "compare"):
        return tuple(sorted(set(operands)))
    if name in ("jumpz", "jumpl"):
        return (FLAGS,)
    return ()


def value_made(name, operands):
    """Return the value that an instruction makes, or None."""
    op_number(name)
    if name in ("set", "move", "add", "load"):
        return operands[0]
    if name == "compare":
        return FLAGS
    return None


def is_supervisor(name):
    """Tell whether an instruction is a supervisor instruction."""
    op_number(name)
    return name in SUPERVISOR_NAMES


def is_jump(name):
    """Tell whether an instruction is a jump."""
    op_number(name)
    return name in JUMP_NAMES


def is_linkable(name):
    """Tell whether an instruction is linkable."""
    return not is_supervisor(name) and name not in UNLINKABLE_NAMES


def ends_block(name):
    """Tell whether an instruction ends a block."""
    return is_jump(name) or not is_linkable(name)
