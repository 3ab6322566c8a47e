"""All refusals of the program."""


class NoValue(ValueError):
    """The text writes no value: so many first signs of it begin the writing of one, no more do."""

    def __init__(self, at):
        self.at = at


class BadStep(ValueError):
    """The step at this place doesn't fit, or fields are too many or none behind so many steps."""

    def __init__(self, at):
        self.at = at


class BadProjection(ValueError):
    """This part of what was told as a projection isn't as it must be: reads, cells or rules."""

    def __init__(self, part):
        self.part = part


class BadRule(ValueError):
    """What was told as a rule is none."""


class BadName(ValueError):
    """What was told as a name is none."""


class WrongEnd(ValueError):
    """The fields behind the steps aren't those that are wanted."""


class Backward(ValueError):
    """An upcast's end isn't later than its start."""


class Twice(ValueError):
    """There is an upcast from this version to that one already."""


class Known(ValueError):
    """A projection or a rule has this name already."""

    def __init__(self, name):
        self.name = name


class Strange(ValueError):
    """What was told as a form, as values of one or as a batch isn't one."""


class OtherCells(ValueError):
    """Two projections have unlike cells."""


class NoAsk(ValueError):
    """The desk takes no such row."""

    def __init__(self, row):
        self.row = row


class NoKind(KeyError):
    """There is no such kind."""

    def __init__(self, kind):
        self.kind = kind


class NoName(KeyError):
    """There is no projection or rule of this name."""

    def __init__(self, name):
        self.name = name


class NoVersion(IndexError):
    """The kind has no such version."""

    def __init__(self, kind, version):
        self.kind = kind
        self.version = version


class Beyond(IndexError):
    """The position is behind the end."""

    def __init__(self, position):
        self.position = position


class NoWay(LookupError):
    """No way leads from the early version to the late one."""

    def __init__(self, early, late):
        self.early = early
        self.late = late


class Gone(LookupError):
    """What stood at the position was let go."""

    def __init__(self, position):
        self.position = position


class NoSnapshot(LookupError):
    """There is no snapshot at the position that serves."""

    def __init__(self, position):
        self.position = position


class Unread(LookupError):
    """The event's version is later than that which is read of its kind."""

    def __init__(self, kind):
        self.kind = kind


class Unlike(ArithmeticError):
    """Two ways from the version to the late one make unlike things of the witness."""

    def __init__(self, version, late, witness):
        self.version = version
        self.late = late
        self.witness = witness


class Conflict(ArithmeticError):
    """The log hasn't the length that was expected."""

    def __init__(self, expected, found):
        self.expected = expected
        self.found = found


class Unnumbered(ArithmeticError):
    """The batch hasn't the number that its teller's next one has."""

    def __init__(self, wanted):
        self.wanted = wanted


class Busy(RuntimeError):
    """A deed goes on."""


class Fell(RuntimeError):
    """The store fell at this step."""

    def __init__(self, step):
        self.step = step


class Flipped(RuntimeError):
    """The row of this number, from 0 on, isn't as it was written."""

    def __init__(self, row):
        self.row = row


class Stale(RuntimeError):
    """The projection or rule of this name reads the kind in an elder version."""

    def __init__(self, name):
        self.name = name


class Needs(RuntimeError):
    """The event at the position can't be read."""

    def __init__(self, position):
        self.position = position


class Needed(RuntimeError):
    """The rule of this name has an effect at the position that isn't marked as sent."""

    def __init__(self, name, position):
        self.name = name
        self.position = position


class Pending(RuntimeError):
    """The rule has an intent at the position that isn't marked as sent."""

    def __init__(self, position):
        self.position = position
