"""The errors of the package."""


class DamError(ValueError):
    """The base class of all errors of the package."""


class BadDam(DamError):
    """The value is not a dam."""


class BadPlan(DamError):
    """The value is not a plan for the dam."""


class BadDemands(DamError):
    """The value is not a tuple of demands, one for each month."""


class BadInflows(DamError):
    """The value is not a tuple of inflows."""


class BadFlag(DamError):
    """The value is neither True nor False."""


class BadCapacity(DamError):
    """The value is not a capacity."""


class BadWorths(DamError):
    """The value is not worths for the dam; index is the first wrong month, or None."""

    def __init__(self, index):
        super().__init__(f"wrong worths, first wrong month: {index}")
        self.index = index


class BadMonth(DamError):
    """The value is not the index of a month."""


class BadNumbers(DamError):
    """The value is not a tuple of ratios that can be compared."""


class BadLoss(DamError):
    """The value is not a loss."""


class BadSize(DamError):
    """The value is not a size of releases."""


class BadHouse(DamError):
    """The value is not a pump house."""


class BadPrices(DamError):
    """The value is not a tuple of power prices."""


class BadRiver(DamError):
    """The value is not a river; index is the first wrong dam, or None."""

    def __init__(self, index):
        super().__init__(f"wrong river, first wrong dam: {index}")
        self.index = index


class BadRiverWorths(DamError):
    """The value is not worths for the river; index is the first wrong dam, or None."""

    def __init__(self, index):
        super().__init__(f"wrong river worths, first wrong dam: {index}")
        self.index = index


class BadFutures(DamError):
    """The value is not futures; index is the first wrong one, or None."""

    def __init__(self, index):
        super().__init__(f"wrong futures, first wrong one: {index}")
        self.index = index


class BadHolder(DamError):
    """The value is not a holder."""


class BadChances(DamError):
    """The value is not a tuple of chances."""


class BadPond(DamError):
    """The value is not a pond."""


class BadLevel(DamError):
    """The value is not a level."""


class BadMonths(DamError):
    """The value is not a number of months."""


class BadRound(DamError):
    """The value is not a tuple of chances for months that come again and again."""


class BadRelease(DamError):
    """The value is not a release."""


class BadShare(DamError):
    """The value is not a share."""


class Unsettled(DamError):
    """No inflow smaller than the release has a chance, so there is no settled state."""


class BadGate(DamError):
    """The value is not a gate."""


class BadSalts(DamError):
    """The value is not a tuple of the salts of the inflows."""


class BadSalt(DamError):
    """The value is not the salt of what is held at first."""


class BadUsers(DamError):
    """The value is not users of the dam; index is the first wrong one, or None."""

    def __init__(self, index):
        super().__init__(f"wrong users, first wrong one: {index}")
        self.index = index


class BadPair(DamError):
    """The second dam has another number of months than the first one."""


class BadStart(DamError):
    """The value is not what a book can begin with."""


class BadFlow(DamError):
    """The value is not an inflow or a release of a book."""


class TooLittle(DamError):
    """Less is there than shall be released."""


class NothingToUndo(DamError):
    """No month is left that could be taken back."""


class BadStore(DamError):
    """The value is not the capacity of a store."""


class BadPieces(DamError):
    """The value is not what the releases of a month are worth."""


class NoPlan(DamError):
    """There is no plan."""


class NotText(DamError):
    """The value is not a string."""


class InvalidText(DamError):
    """The text names nothing; place is the index of what is first wrong in it."""

    def __init__(self, place):
        super().__init__(f"wrong text, at place: {place}")
        self.place = place


class TooMany(DamError):
    """There is more than the function takes; most is how much it takes."""

    def __init__(self, most):
        super().__init__(f"more than the most that is taken: {most}")
        self.most = most
