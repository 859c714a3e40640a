"""The errors of the package, each for one kind of failure."""


class DeskError(ValueError):
    """The base of all errors of the package."""


class NoDesks(DeskError):
    """Desks are not a tuple of distinct names, or two books have different ones."""


class NoKind(DeskError):
    """There is no such kind of fault."""


class NoPerson(DeskError):
    """This is not a name, or this person has no ticket."""


class NothingToUndo(DeskError):
    """Nothing was done that is not taken back."""


class NoRule(DeskError):
    """There is no rule with this index, or what stands there is not a rule."""

    def __init__(self, index):
        super().__init__("there is no such rule")
        self.index = index


class NoDeed(DeskError):
    """What stands at this index is not a deed."""

    def __init__(self, index):
        super().__init__("this is not a deed")
        self.index = index


class NoTicket(DeskError):
    """There is no ticket yet for the deed at this index."""

    def __init__(self, index):
        super().__init__("there is no ticket yet")
        self.index = index


class NoDesk(DeskError):
    """This is not one of the desks."""

    def __init__(self, name):
        super().__init__("there is no such desk")
        self.name = name


class NoText(DeskError):
    """This line is not as the package writes it."""

    def __init__(self, line):
        super().__init__("this line can not be read")
        self.line = line
