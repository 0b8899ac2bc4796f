"""The errors of the package ([5]): each keeps what it was made of under the names of its parameters."""


class BodyError(ValueError):
    """What all errors of the package are."""


class BadNumber(BodyError):
    """A number that isn't an integer in the asked range."""

    def __init__(self, value):
        self.value = value


class BadDimension(BodyError):
    """A dimension that is neither 1, 3 nor 6."""


class TooGreat(BodyError):
    """Something is greater than the most that is allowed."""

    def __init__(self, most):
        self.most = most


class TooMany(BodyError):
    """There are more things than the most that are allowed."""

    def __init__(self, most):
        self.most = most


class BadFrame(BodyError):
    """A value that is no FRAME: the word and the place of its fault."""

    def __init__(self, word, place):
        self.word = word
        self.place = place


class BadBodies(BodyError):
    """A value that is no tuple of bodies of the asked form."""

    def __init__(self, value):
        self.value = value


class BadBody(BodyError):
    """A value that is no number of a body."""

    def __init__(self, value):
        self.value = value


class BadJoint(BodyError):
    """A value that is no number of a joint."""

    def __init__(self, value):
        self.value = value


class BadParting(BodyError):
    """A value that is no PARTING: the place of its fault."""

    def __init__(self, place):
        self.place = place


class BadPairs(BodyError):
    """A value that is no tuple of pairs of bodies."""

    def __init__(self, value):
        self.value = value


class BadPacking(BodyError):
    """A value that is no PACKING: the place of its fault."""

    def __init__(self, place):
        self.place = place


class BadRenaming(BodyError):
    """A value that is no RENAMING: the place of its fault."""

    def __init__(self, place):
        self.place = place


class BadText(BodyError):
    """A text of another kind: the line and the word of its first fault."""

    def __init__(self, line, word):
        self.line = line
        self.word = word


class BadExchange(BodyError):
    """A value that is no EXCHANGE: the word of its fault."""

    def __init__(self, word):
        self.word = word


class BadTally(BodyError):
    """A value that is no TALLY: the place of its fault."""

    def __init__(self, place):
        self.place = place


class NotGreatest(BodyError):
    """A TALLY that isn't greatest."""


class NoSpace(BodyError):
    """There are no places on the line."""


class BadWidth(BodyError):
    """A value that is no width of rows."""


class BadRows(BodyError):
    """A value that is no ROW LIST: the index of its fault."""

    def __init__(self, index):
        self.index = index


class BadRow(BodyError):
    """A value that is no such row: the index of its fault."""

    def __init__(self, index):
        self.index = index


class BadPlace(BodyError):
    """A value that is no PLACE: the index of its fault."""

    def __init__(self, index):
        self.index = index


class OnePlace(BodyError):
    """Two PLACES that should be unlike are one."""


class BadMap(BodyError):
    """A value that is no MAP."""


class BadPlacement(BodyError):
    """A value that is no PLACEMENT: the number of its fault."""

    def __init__(self, number):
        self.number = number


class BadLoad(BodyError):
    """A value that is no LOAD: the index of its fault."""

    def __init__(self, index):
        self.index = index


class BadCompliance(BodyError):
    """A value that isn't COMPLIANCES: the index of its fault."""

    def __init__(self, index):
        self.index = index


class Yields(BodyError):
    """A LOAD that is moved: the motion that it moves."""

    def __init__(self, motion):
        self.motion = motion


class NotOne(BodyError):
    """There isn't just one motion: how many there are."""

    def __init__(self, count):
        self.count = count


class BadLoss(BodyError):
    """A value that is no LOSS."""

    def __init__(self, value):
        self.value = value


class BadCosts(BodyError):
    """A value that isn't COSTS: the place of its fault."""

    def __init__(self, place):
        self.place = place


class BadBudget(BodyError):
    """A value that is no BUDGET."""

    def __init__(self, value):
        self.value = value


class BadOrder(BodyError):
    """A value that is no order of all joints."""

    def __init__(self, value):
        self.value = value


class NotBars(BodyError):
    """A FRAME with other joints than bars."""


class NotJust(BodyError):
    """A FRAME that isn't just stiff."""


class BadFilling(BodyError):
    """A value that is no filling: the word of its fault."""

    def __init__(self, word):
        self.word = word


class BadMenu(BodyError):
    """A value that is no MENU: the place of its fault."""

    def __init__(self, place):
        self.place = place


class BadSlide(BodyError):
    """A value that is no SLIDE: the word of its fault."""

    def __init__(self, word):
        self.word = word


class BadPlan(BodyError):
    """A value that is no PLAN: the word of its fault."""

    def __init__(self, word):
        self.word = word


class NotSquare(BodyError):
    """A FRAME that isn't SQUARE: how many rows it has, and how many are due."""

    def __init__(self, rows, due):
        self.rows = rows
        self.due = due


class NotBar(BodyError):
    """A joint of another kind than a bar."""

    def __init__(self, joint):
        self.joint = joint


class NotPlane(BodyError):
    """A dimension that isn't the plane's."""

    def __init__(self, dimension):
        self.dimension = dimension


class NotChord(BodyError):
    """A joint that is no chord."""

    def __init__(self, joint):
        self.joint = joint


class Apart(BodyError):
    """A FRAME in several pieces: which they are."""

    def __init__(self, pieces):
        self.pieces = pieces


class BadFan(BodyError):
    """A value that is no FAN: the place of its fault."""

    def __init__(self, place):
        self.place = place


class BadDeal(BodyError):
    """A value that is no DEAL: the place of its fault."""

    def __init__(self, place):
        self.place = place


class BadSupply(BodyError):
    """A value that is no SUPPLY: the place of its fault."""

    def __init__(self, place):
        self.place = place


class BadMix(BodyError):
    """A value that is no MIX: the place of its fault."""

    def __init__(self, place):
        self.place = place


class BadPrices(BodyError):
    """A value that isn't PRICES: the place of its fault."""

    def __init__(self, place):
        self.place = place


class BadWeb(BodyError):
    """A value that is no WEB: the place of its fault."""

    def __init__(self, place):
        self.place = place


class NotStiff(BodyError):
    """A FRAME that isn't stiff: how many motions are left."""

    def __init__(self, free):
        self.free = free


class BadEdit(BodyError):
    """A value that is no EDIT: the word and the place of its fault."""

    def __init__(self, word, place):
        self.word = word
        self.place = place


class BadEdits(BodyError):
    """A value that is no tuple of EDITS."""


class BadLog(BodyError):
    """A value that is no LOG: the entry and the word of its fault."""

    def __init__(self, entry, word):
        self.entry = entry
        self.word = word
