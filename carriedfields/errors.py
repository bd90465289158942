"""The errors of the package: one class for each way in which something can be wrong."""


class CarriedError(ValueError):
    """What every error of the package is."""


class BadName(CarriedError):
    """A name is no word, or repeats an earlier one."""

    def __init__(self, name):
        super().__init__("a name is no word, or it repeats an earlier one")
        self.name = name


class BadRow(CarriedError):
    """The row with this index has no form that may stand there; -1: the rows are no tuple."""

    def __init__(self, at):
        super().__init__(f"row {at} has no form that may stand there")
        self.at = at


class BadMethod(CarriedError):
    """A part of a method is wrong."""

    def __init__(self, part):
        super().__init__(f"a method with wrong {part}")
        self.part = part


class BadCarry(CarriedError):
    """A part of a carry is wrong."""

    def __init__(self, part):
        super().__init__(f"a carry with wrong {part}")
        self.part = part


class BadKind(CarriedError):
    """A part of a kind is wrong."""

    def __init__(self, part):
        super().__init__(f"a kind with wrong {part}")
        self.part = part


class BadLibrary(CarriedError):
    """The kind with this index has a fault; -1: the library as a whole has it."""

    def __init__(self, at, part):
        super().__init__(f"a library with wrong {part} at {at}")
        self.at = at
        self.part = part


class NoKind(CarriedError):
    """A library has no kind of this name."""

    def __init__(self, name):
        super().__init__("the library has no kind of this name")
        self.name = name


class BadText(CarriedError):
    """The line with this index is wrong; -1: the text is no string."""

    def __init__(self, at):
        super().__init__(f"a text with a wrong line {at}")
        self.at = at


class NoMethod(CarriedError):
    """An object has no method of this name."""

    def __init__(self, name):
        super().__init__("the object has no method of this name")
        self.name = name


class BadCall(CarriedError):
    """A method is called with a wrong number of things."""

    def __init__(self, name):
        super().__init__("a call with a wrong number of things")
        self.name = name


class BadValue(CarriedError):
    """The thing with this index cannot be passed by a caller."""

    def __init__(self, at):
        super().__init__(f"a caller cannot pass value {at}")
        self.at = at


class NotNow(CarriedError):
    """What has this name is not possible at this moment."""

    def __init__(self, name):
        super().__init__("this is not possible now")
        self.name = name


class BadState(CarriedError):
    """What was given is no state, or no values, of the shape."""

    def __init__(self, given):
        super().__init__("this is no state of the shape")
        self.given = given


class BadPassage(CarriedError):
    """A part of a passage or of a route is wrong."""

    def __init__(self, part):
        super().__init__(f"a passage with wrong {part}")
        self.part = part


class BadSaved(CarriedError):
    """The entry with this index is wrong; -1: the whole is no saved state of the passage."""

    def __init__(self, at):
        super().__init__(f"a saved state with a wrong entry {at}")
        self.at = at


class NoField(CarriedError):
    """A saved state has no field of this name."""

    def __init__(self, name):
        super().__init__("the saved state has no field of this name")
        self.name = name


class BadCallers(CarriedError):
    """A part of a description of callers is wrong."""

    def __init__(self, part):
        super().__init__(f"callers with wrong {part}")
        self.part = part


class UnlikeFaces(CarriedError):
    """Two lives have different faces."""

    def __init__(self):
        super().__init__("the two lives have different faces")


class BadJoint(CarriedError):
    """What was given is no joint world of the two lives."""

    def __init__(self, given):
        super().__init__("this is no joint world of the two lives")
        self.given = given


class BadStep(CarriedError):
    """What was given is no step."""

    def __init__(self, given):
        super().__init__("this is no step")
        self.given = given


class TooMany(CarriedError):
    """There are more of these than the caller allows."""

    def __init__(self, what):
        super().__init__(f"there are too many {what}")
        self.what = what


class NoGood(CarriedError):
    """No set of fields is good."""

    def __init__(self):
        super().__init__("no set of fields is good")
