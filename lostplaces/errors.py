"""The errors of the package, each straight under PlaceError."""


class PlaceError(ValueError):
    """What all errors of this package are."""


class BadLetters(PlaceError):
    """The number of letters is none of 2, 3 and 4."""


class BadNumber(PlaceError):
    """What should be a whole number within bounds is none."""


class BadWord(PlaceError):
    """No word: -1 for the whole of it, else the index of the first bad letter."""

    def __init__(self, index):
        self.index = index


class BadText(PlaceError):
    """A text that is not as it should be, with the first place, from 0, that is wrong."""

    def __init__(self, place):
        self.place = place


class BadShape(PlaceError):
    """No shape: -1 for the whole of it, else the index of the first bad letter."""

    def __init__(self, index):
        self.index = index


class BadLengths(PlaceError):
    """No lengths of runs: -1 for the whole of them, else the index of the first bad one."""

    def __init__(self, index):
        self.index = index


class TooMany(PlaceError):
    """There would be more things than are gone through, with their number."""

    def __init__(self, count):
        self.count = count


class BadBook(PlaceError):
    """No book, with the word that tells what is wrong."""

    def __init__(self, what):
        self.what = what


class NoMember(PlaceError):
    """The word is no member of the book."""


class UnlikeBooks(PlaceError):
    """Two books differ in their letters or their length."""


class UnlikeWords(PlaceError):
    """Two words differ in their length."""


class BadMix(PlaceError):
    """No mix, with the word that tells what is wrong."""

    def __init__(self, what):
        self.what = what


class NotBorne(PlaceError):
    """The book does not bear this number."""

    def __init__(self, number):
        self.number = number


class BadModulus(PlaceError):
    """The modulus is no whole number within its bounds."""


class BadRest(PlaceError):
    """The rest is no whole number within its bounds."""


class BadAmount(PlaceError):
    """The amount is no whole number within its bounds."""


class NotPerfect(PlaceError):
    """The book is not full, or its modulus is not its length."""


class NotOneOff(PlaceError):
    """The word has another number of letters than is asked for."""


class NoNumber(PlaceError):
    """No member has this number."""


class BadTotal(PlaceError):
    """The total is no whole number within its bounds."""


class BadWeights(PlaceError):
    """No weights: -1 for the whole of them, else the index of the first bad one."""

    def __init__(self, index):
        self.index = index


class BadRow(PlaceError):
    """No row: -1 for the whole of it, else the index of the first bad member."""

    def __init__(self, index):
        self.index = index


class NoSuchRun(PlaceError):
    """The word has no run of this number."""


class TooShort(PlaceError):
    """The run has one letter only."""


class BadMark(PlaceError):
    """No mark for the units of this book."""


class BadLosses(PlaceError):
    """No losses: -1 for the whole of them, else the index of the first bad one."""

    def __init__(self, index):
        self.index = index


class NotTold(PlaceError):
    """The cuts of the units are not told."""


class BadLetter(PlaceError):
    """No letter of the book."""


class NoSuchRow(PlaceError):
    """No row of units begins so."""


class BadBits(PlaceError):
    """No bits: -1 for the whole of them, else the index of the first bad one."""

    def __init__(self, index):
        self.index = index


class BadEdit(PlaceError):
    """A wrong edit: its index, or -1 for all edits, and the word that tells what is wrong."""

    def __init__(self, index, what):
        self.index = index
        self.what = what


class BadGoal(PlaceError):
    """A wrong goal: its index, or -1 for the whole of it."""

    def __init__(self, index):
        self.index = index


class NothingDone(PlaceError):
    """There is no deed to take back."""
