"""The errors of the package, one class for each kind of failure."""


class PlanError(ValueError):
    """The base of all errors of this package."""


class BadName(PlanError):
    """A string stands in the place of a name and is none."""

    def __init__(self, name):
        super().__init__(f"{name!r} is no name")
        self.name = name


class NameInUse(PlanError):
    """A name is given to a second thing."""

    def __init__(self, name):
        super().__init__(f"the name {name!r} is in use already")
        self.name = name


class UnknownName(PlanError):
    """A name is none that may stand in this place."""

    def __init__(self, name):
        super().__init__(f"there is no {name!r} here")
        self.name = name


class BadChange(PlanError):
    """A change is none, or does not fit to the name that it changes."""

    def __init__(self, name, change):
        super().__init__(f"{change!r} is no change of {name!r}")
        self.name = name
        self.change = change


class ChangedTwice(PlanError):
    """An amount is added to a change, or taken from one, that is there already."""

    def __init__(self, operand):
        super().__init__(f"there is a change already: {operand!r}")
        self.operand = operand


class NoOutcome(PlanError):
    """An action has no outcome with this index."""

    def __init__(self, index):
        super().__init__(f"there is no outcome {index!r}")
        self.index = index


class NoFreeOutcome(PlanError):
    """Every outcome of an action takes from a reserve."""

    def __init__(self, name):
        super().__init__(f"every outcome of {name!r} takes from a reserve")
        self.name = name


class UnknownAction(PlanError):
    """There is no action with this name."""

    def __init__(self, action):
        super().__init__(f"there is no action {action!r}")
        self.action = action


class NotPossible(PlanError):
    """An action is not possible in a state."""

    def __init__(self, state, action):
        super().__init__(f"{action!r} is not possible in {state!r}")
        self.state = state
        self.action = action


class NoState(PlanError):
    """Some names do not make a state."""

    def __init__(self, state):
        super().__init__(f"{state!r} is no state")
        self.state = state


class BadNumber(PlanError):
    """A number of things is below 0."""

    def __init__(self, number):
        super().__init__(f"{number!r} is below 0")
        self.number = number


class Short(PlanError):
    """There is less than what is to be taken away."""

    def __init__(self, name):
        super().__init__(f"there is not enough of {name!r}")
        self.name = name


class BadAmount(PlanError):
    """The amount of a counter is missing, does not fit or is not asked for."""

    def __init__(self, name):
        super().__init__(f"the amount of {name!r} does not fit")
        self.name = name


class NoRow(PlanError):
    """A table has no row for a state."""

    def __init__(self, state):
        super().__init__(f"there is no row for {state!r}")
        self.state = state


class BadRow(PlanError):
    """A value has not the form of a row of a measure."""

    def __init__(self, row):
        super().__init__(f"{row!r} has not the form of a row")
        self.row = row


class OtherWorld(PlanError):
    """Two things belong to worlds that are not equal."""

    def __init__(self):
        super().__init__("the worlds are not equal")


class NoPosition(PlanError):
    """A counterplay has no such position."""

    def __init__(self, position):
        super().__init__(f"there is no position {position!r}")
        self.position = position


class BadCounterplay(PlanError):
    """A counterplay does not hold for a task."""

    def __init__(self, fault):
        super().__init__(f"the counterplay does not hold: {fault!r}")
        self.fault = fault


class NoPlace(PlanError):
    """A program has no such place."""

    def __init__(self, place):
        super().__init__(f"there is no place {place!r}")
        self.place = place


class Idle(PlanError):
    """A program goes round for ever without coming to a place."""

    def __init__(self, state):
        super().__init__(f"the program goes round for ever in {state!r}")
        self.state = state


class TwoActions(PlanError):
    """A program does different actions in one state."""

    def __init__(self, state, one, other):
        super().__init__(f"both {one!r} and {other!r} are done in {state!r}")
        self.state = state
        self.one = one
        self.other = other


class BadText(PlanError):
    """The text of a condition goes wrong at an index."""

    def __init__(self, at):
        super().__init__(f"the text goes wrong at {at!r}")
        self.at = at


class BadLine(PlanError):
    """A text goes wrong at a line, counted from 0."""

    def __init__(self, index):
        super().__init__(f"the text goes wrong at line {index!r}")
        self.index = index


class BadEdit(PlanError):
    """One edit of several, counted from 0, cannot be done."""

    def __init__(self, index):
        super().__init__(f"edit {index!r} cannot be done")
        self.index = index


class NothingToUndo(PlanError):
    """There is nothing that could be taken back."""

    def __init__(self):
        super().__init__("there is nothing to take back")


class NothingToRedo(PlanError):
    """There is nothing that could be done again."""

    def __init__(self):
        super().__init__("there is nothing to do again")
