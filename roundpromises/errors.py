"""The errors of this package: each kind of failure has a class of its own.

An error with an attribute is made with its value; the others are made with a message.
"""


class PromiseError(ValueError):
    """What all errors of this package are."""

    def kind(self):
        """The name of the error's class."""
        return self.__class__.__name__


class BadLength(PromiseError):
    """A value that is no length of a round."""


class BadSize(PromiseError):
    """A value that is no size of rows."""


class BadRow(PromiseError):
    """A value that is no row of the size and the length concerned."""


class BadPlaces(PromiseError):
    """A value that is no ascending tuple of indexes of a row."""


class BadMoment(PromiseError):
    """A value that is no time of the length concerned."""


class BadNames(PromiseError):
    """A value that is no list of different names."""


class BadTimes(PromiseError):
    """A value that is no times by names."""


class BadCondition(PromiseError):
    """A value that is no condition (None), or a name that the times do not have."""

    def __init__(self, name):
        self.name = name


class BadCases(PromiseError):
    """A value that is no cases."""


class BadInputs(PromiseError):
    """A value that is no ascending tuple of names of inputs."""


class BadPromise(PromiseError):
    """A value that is no promise for the inputs concerned."""


class BadPromises(PromiseError):
    """A value that is no list of promises (None), or has at an index what is none."""

    def __init__(self, at):
        self.at = at


class BadPanel(PromiseError):
    """A value that is no panel (None), or the part of one that is wrong."""

    def __init__(self, part):
        self.part = part


class BadEnvironment(PromiseError):
    """A value that is no environment of the panel concerned."""


class TooMany(PromiseError):
    """There is more than the most that is let."""

    def __init__(self, most):
        self.most = most


class BadTable(PromiseError):
    """A value that is no table (None), or the part of one that is wrong."""

    def __init__(self, part):
        self.part = part


class OtherTables(PromiseError):
    """Tables, or a table and a panel, of different sizes or lengths."""


class BadTask(PromiseError):
    """A value that is no task (None), or the part of one that is wrong."""

    def __init__(self, part):
        self.part = part


class BadQuarrel(PromiseError):
    """A value that is no quarrel of the task."""


class BadWindow(PromiseError):
    """A value that is no part of a window."""


class OtherPanels(PromiseError):
    """Panels with different inputs or lengths."""


class BadTranslator(PromiseError):
    """A value that is no translator of the two panels."""


class BadLetters(PromiseError):
    """A value that is no letters."""


class BadWord(PromiseError):
    """A value that is no word of the letters concerned."""


class BadForm(PromiseError):
    """A value that is no form of the letters concerned."""


class BadWorks(PromiseError):
    """A value that is no works (None), or the part of one that is wrong."""

    def __init__(self, part):
        self.part = part


class BadMode(PromiseError):
    """A value that is no number of a mode of the works."""


class BadName(PromiseError):
    """A value that is no name of what is asked for."""


class BadBarred(PromiseError):
    """A value that is no list of different letters to bar."""


class OtherWorks(PromiseError):
    """Works with different panels or cases."""


class BadMarks(PromiseError):
    """A value that is no marks of the letters."""


class BadGains(PromiseError):
    """A value that is no gains of the letters."""


class BadWeights(PromiseError):
    """A value that is no weights of the rows."""


class BadStock(PromiseError):
    """A value that is no stock."""


class BadRounds(PromiseError):
    """A value that is no number of rounds."""


class BadMachine(PromiseError):
    """A value that is no machine (None), or the part of one that is wrong."""

    def __init__(self, part):
        self.part = part


class OtherMachines(PromiseError):
    """Machines, or a machine and a works, that do not fit each other."""


class BadDelays(PromiseError):
    """A value that is no delays of the works."""


class BadGuess(PromiseError):
    """A value that is no guess of the works."""


class BadLedger(PromiseError):
    """A value that is no ledger of the works."""


class BadView(PromiseError):
    """A value that is no view of the works."""


class BadSplit(PromiseError):
    """A value that is no split of the letters."""


class BadWide(PromiseError):
    """A value that is no panel as wide as that of the works."""


class BadPlay(PromiseError):
    """A value that is no play of the works."""


class BadLot(PromiseError):
    """A value that is no lot of the works."""


class BadChanges(PromiseError):
    """A value that is no list of changes (None), or has at an index what is none."""

    def __init__(self, at):
        self.at = at


class Clash(PromiseError):
    """Two histories changed the rule of this name in different ways."""

    def __init__(self, name):
        self.name = name


class BadTries(PromiseError):
    """A value that is no list of tries (None), or has at an index what is none."""

    def __init__(self, at):
        self.at = at


class BadFaults(PromiseError):
    """A value that is no faults of the panel."""


class BadSeen(PromiseError):
    """A value that is no list of what was seen (None), or has at an index what is none."""

    def __init__(self, at):
        self.at = at


class NotNow(PromiseError):
    """A deed that cannot be done now; the word tells why."""

    def __init__(self, word):
        self.word = word


class NothingDone(PromiseError):
    """There is no deed to take back."""


class BadPlant(PromiseError):
    """A value that is no plant."""


class BadJournal(PromiseError):
    """A value that is no journal: the index of the first wrong item."""

    def __init__(self, at):
        self.at = at


class BadText(PromiseError):
    """A value that is no text: the number of the first wrong line."""

    def __init__(self, at):
        self.at = at
