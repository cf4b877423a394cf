"""The errors of the package: each one keeps its arguments as attributes."""


class NormalError(ValueError):
    """What every error of this package stands under; it is never raised itself."""


class InvalidNumber(NormalError):
    """A value is not a number of the kind that is asked for."""

    def __init__(self, value):
        super().__init__("not a number that may stand here")
        self.value = value


class InvalidWord(NormalError):
    """A value is not a word over the letters."""

    def __init__(self, value):
        super().__init__("not a word over the letters")
        self.value = value


class InvalidMachine(NormalError):
    """A part of a machine is wrong, at a place."""

    def __init__(self, part, place):
        super().__init__(f"no machine has this: {part}, place {place}")
        self.part = part
        self.place = place


class InvalidTelling(NormalError):
    """A part of a telling is wrong, at a place."""

    def __init__(self, part, place):
        super().__init__(f"no telling has this: {part}, place {place}")
        self.part = part
        self.place = place


class InvalidTable(NormalError):
    """A value is not a table of a group."""

    def __init__(self, value):
        super().__init__("not a table of a group")
        self.value = value


class InvalidImages(NormalError):
    """A value does not give the images, or the makers, that are asked for."""

    def __init__(self, value):
        super().__init__("not images that may stand here")
        self.value = value


class InvalidRules(NormalError):
    """The rule at a place is none."""

    def __init__(self, place):
        super().__init__(f"not a rule: place {place}")
        self.place = place


class InvalidText(NormalError):
    """A text tells nothing; what is wrong begins at a place."""

    def __init__(self, text, at):
        super().__init__(f"wrong text from place {at} on")
        self.text = text
        self.at = at


class InvalidCommand(NormalError):
    """A command is none; what is wrong begins at a place."""

    def __init__(self, command, at):
        super().__init__(f"wrong command from place {at} on")
        self.command = command
        self.at = at


class Undefined(NormalError):
    """Something is asked for that is not there for these arguments."""

    def __init__(self, what):
        super().__init__(f"not defined here: {what}")
        self.what = what


class NothingToUndo(NormalError):
    """There is nothing that could be undone, or done again."""

    def __init__(self, word):
        super().__init__(f"nothing to {word}")
        self.word = word
