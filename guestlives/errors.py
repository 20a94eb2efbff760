"""The errors of the package (point 17)."""


class GuestlivesError(ValueError):
    """The base class of all errors of the package."""


class TextError(GuestlivesError):
    """A text is wrong at a line and a column, both counted from 1."""

    def __init__(self, line, column):
        super().__init__(f"the text is wrong in line {line} at column {column}")
        self.line = line
        self.column = column


class InstructionError(GuestlivesError):
    """The name is no instruction, or the operands do not fit it."""

    def __init__(self, name):
        super().__init__(f"there is no such instruction: {name}")
        self.name = name


class GuestError(GuestlivesError):
    """A field of a guest has a wrong length or a number out of range."""

    def __init__(self, field):
        super().__init__(f"the guest is wrong in its {field}")
        self.field = field


class PolicyError(GuestlivesError):
    """The name is no rule, or it was named before."""

    def __init__(self, name):
        super().__init__(f"the rule cannot be named here: {name}")
        self.name = name


class ActionError(GuestlivesError):
    """The string is no action."""

    def __init__(self, action):
        super().__init__(f"this is no action: {action}")
        self.action = action


class SettingError(GuestlivesError):
    """The setting of this name is out of range."""

    def __init__(self, name):
        super().__init__(f"the setting is out of range: {name}")
        self.name = name


class DebuggerError(GuestlivesError):
    """A debugger cannot do what it was asked for."""

    def __init__(self, reason):
        super().__init__(f"the debugger stopped at its {reason}")
        self.reason = reason
