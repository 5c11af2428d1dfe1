"""The errors of the package. Each one has its class name as its code."""


class FaultError(ValueError):
    """The base class of the errors about values that were passed."""


class InvalidTerm(FaultError):
    """A value is not a term, or not a long term where one is asked for."""

    def __init__(self):
        super().__init__("this is not a term")
        self.code = "InvalidTerm"


class InvalidLetter(FaultError):
    """A string is not a letter, or was passed before."""

    def __init__(self, letter):
        super().__init__(f"this is not a letter, or not a new one: {letter!r}")
        self.code = "InvalidLetter"
        self.letter = letter


class InvalidText(FaultError):
    """A text does not stand for what it is read as."""

    def __init__(self):
        super().__init__("this is not the text of such a value")
        self.code = "InvalidText"


class InvalidName(FaultError):
    """A string is not a name."""

    def __init__(self, name):
        super().__init__(f"this is not a name: {name!r}")
        self.code = "InvalidName"
        self.name = name


class InvalidRules(FaultError):
    """A rule list is too long, or wrong at an index."""

    def __init__(self, index):
        super().__init__(f"the rules are wrong at the index {index!r}")
        self.code = "InvalidRules"
        self.index = index


class InvalidGoal(FaultError):
    """A goal is not a pair of terms."""

    def __init__(self):
        super().__init__("the goal is not a pair of terms")
        self.code = "InvalidGoal"


class TooManyTerms(FaultError):
    """A vocabulary has more terms than are allowed."""

    def __init__(self, count):
        super().__init__(f"the vocabulary has too many terms: {count!r}")
        self.code = "TooManyTerms"
        self.count = count


class InvalidSteps(FaultError):
    """A list of steps is empty or has a step that is not allowed."""

    def __init__(self):
        super().__init__("these are not the steps of a derivation")
        self.code = "InvalidSteps"


class InvalidBoard(FaultError):
    """Rows or a size do not give a board."""

    def __init__(self):
        super().__init__("this is not a board")
        self.code = "InvalidBoard"


class InvalidPlace(FaultError):
    """A value is not a place of a board."""

    def __init__(self, place):
        super().__init__(f"this is not a place of the board: {place!r}")
        self.code = "InvalidPlace"
        self.place = place


class InvalidReading(FaultError):
    """A reading gives a letter no place of the board."""

    def __init__(self, letter):
        super().__init__(f"the reading has no place for the letter {letter!r}")
        self.code = "InvalidReading"
        self.letter = letter


class TooManyPlaces(FaultError):
    """A board would have more places than are allowed."""

    def __init__(self, limit):
        super().__init__(f"the board would have more than {limit!r} places")
        self.code = "TooManyPlaces"
        self.limit = limit


class InvalidCertificate(FaultError):
    """A certificate is not right for its rules and its goal."""

    def __init__(self):
        super().__init__("the certificate is not right for the rules and the goal")
        self.code = "InvalidCertificate"


class NameInUse(FaultError):
    """A new rule or question has the name of another one."""

    def __init__(self, name):
        super().__init__(f"this name is in use: {name!r}")
        self.code = "NameInUse"
        self.name = name


class CapacityReached(FaultError):
    """A store has no room for another rule or question."""

    def __init__(self, limit):
        super().__init__(f"there are {limit!r} already")
        self.code = "CapacityReached"
        self.limit = limit


class InvalidLimit(FaultError):
    """A limit is out of range or less than the number of rules."""

    def __init__(self, limit):
        super().__init__(f"this limit is not possible: {limit!r}")
        self.code = "InvalidLimit"
        self.limit = limit


class InvalidCommand(FaultError):
    """A tuple does not have the form of a command."""

    def __init__(self, word):
        super().__init__(f"there is no such command: {word!r}")
        self.code = "InvalidCommand"
        self.word = word


class Stopped(FaultError):
    """One of several commands failed, so none was done."""

    def __init__(self, index, cause):
        super().__init__(f"the command {index!r} failed: {cause!r}")
        self.code = "Stopped"
        self.index = index
        self.cause = cause


class InvalidDocument(FaultError):
    """A line of the text of a store is wrong."""

    def __init__(self, line):
        super().__init__(f"the text of the store is wrong in the line {line!r}")
        self.code = "InvalidDocument"
        self.line = line


class Missing(LookupError):
    """The base class of the errors about names that a store does not have."""


class UnknownRule(Missing):
    """There is no rule with a name."""

    def __init__(self, name):
        super().__init__(f"there is no rule with this name: {name!r}")
        self.code = "UnknownRule"
        self.name = name


class UnknownQuestion(Missing):
    """There is no question with a name."""

    def __init__(self, name):
        super().__init__(f"there is no question with this name: {name!r}")
        self.code = "UnknownQuestion"
        self.name = name


class NothingLeft(IndexError):
    """There is no step to undo or to redo."""

    def __init__(self):
        super().__init__("there is no step left")
        self.code = "NothingLeft"
