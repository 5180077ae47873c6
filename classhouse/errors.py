"""The errors that the functions of the package raise."""


class ClassError(ValueError):
    """The base class of all errors of the package."""


class BadClasses(ClassError):
    """Classes cannot make a house; index tells the first thing that is no class,
    None if there is no tuple of 1 to 8 things."""

    def __init__(self, index):
        super().__init__(f"classes cannot make a house: index {index}")
        self.index = index


class BadFields(ClassError):
    """The fields of a class cannot stand; index tells the class."""

    def __init__(self, index):
        super().__init__(f"the fields of a class cannot stand: index {index}")
        self.index = index


class BadMethods(ClassError):
    """The methods of a class cannot stand; index tells the class, place the first thing that is no method,
    None if there is no tuple."""

    def __init__(self, index, place):
        super().__init__(f"the methods of a class cannot stand: index {index}, place {place}")
        self.index = index
        self.place = place


class BadCode(ClassError):
    """The code of a method cannot stand; index tells the class, place the method,
    step the first thing that is no step there, None if there is no tuple."""

    def __init__(self, index, place, step):
        super().__init__(f"the code of a method cannot stand: index {index}, place {place}, step {step}")
        self.index = index
        self.place = place
        self.step = step


class BadHandlers(ClassError):
    """The handlers of a method cannot stand; index tells the class, place the method,
    row the first thing that is no handler, None if there is no tuple."""

    def __init__(self, index, place, row):
        super().__init__(f"the handlers of a method cannot stand: index {index}, place {place}, row {row}")
        self.index = index
        self.place = place
        self.row = row


class NoHouse(ClassError):
    """The value of house is no House."""


class BadName(ClassError):
    """A value is no class of the house."""


class BadKind(ClassError):
    """A value is no kind."""


class BadWord(ClassError):
    """A value is no word."""


class InvalidText(ClassError):
    """A text cannot be read; line tells the line, word the word of it, both counted from 1."""

    def __init__(self, line, word):
        super().__init__(f"a text cannot be read: line {line}, word {word}")
        self.line = line
        self.word = word


class NoText(ClassError):
    """The value of text is no string."""


class TooMany(ClassError):
    """There are too many; most tells how many there may be."""

    def __init__(self, most):
        super().__init__(f"there are too many: most {most}")
        self.most = most


class NotSeen(ClassError):
    """No method of the word is seen in the class."""


class BadIns(ClassError):
    """The ins do not go with the method."""


class BadCount(ClassError):
    """The value of many is no integer from 0 to 2000."""


class TooLong(ClassError):
    """A run does not end in time; most tells how many steps there may be."""

    def __init__(self, most):
        super().__init__(f"a run does not end in time: most {most}")
        self.most = most


class BadPlace(ClassError):
    """The value of place is the place of no method."""


class BadStep(ClassError):
    """The value of step is no step of the code."""


class BadFrame(ClassError):
    """The value of frame is no frame."""


class BadRoad(ClassError):
    """A road does not come where it should; index tells the first thing that is no turn there,
    None if there is no tuple."""

    def __init__(self, index):
        super().__init__(f"a road does not come where it should: index {index}")
        self.index = index


class BadTold(ClassError):
    """Told frames cannot stand; index tells the first thing that is none, None if there is no such tuple."""

    def __init__(self, index):
        super().__init__(f"told frames cannot stand: index {index}")
        self.index = index


class BadPool(ClassError):
    """A pool cannot stand; index tells the first thing that is none, None if there is no such tuple."""

    def __init__(self, index):
        super().__init__(f"a pool cannot stand: index {index}")
        self.index = index


class BadPooled(ClassError):
    """A code of entries cannot stand; step tells the first such step, None if there is no such tuple."""

    def __init__(self, step):
        super().__init__(f"a code of entries cannot stand: step {step}")
        self.step = step


class BadEntry(ClassError):
    """The value of entry is no entry of the house."""


class BadLoaded(ClassError):
    """The value of loaded is none that can be loaded so."""


class BadStock(ClassError):
    """The value of stock is no stock."""


class BadUses(ClassError):
    """Uses cannot stand; index tells the first thing that is none, None if there is no such tuple."""

    def __init__(self, index):
        super().__init__(f"uses cannot stand: index {index}")
        self.index = index


class NotGrown(ClassError):
    """The house does not grow into the other one."""


class BadSlot(ClassError):
    """The value of slot is no place of the row."""


class BadChoice(ClassError):
    """A choice cannot stand; index tells the first thing that is no option, None if there is no such tuple."""

    def __init__(self, index):
        super().__init__(f"a choice cannot stand: index {index}")
        self.index = index


class BadKinds(ClassError):
    """The values of kinds are no kinds in."""


class NotOwn(ClassError):
    """The class has no method of the word itself."""


class BadWords(ClassError):
    """The value of words is no lot of words."""


class BadNames(ClassError):
    """The value of names is no tuple of unlike classes."""


class BadSize(ClassError):
    """The value of size is no integer from 1 to 20."""


class BadNesting(ClassError):
    """The value of nesting is no nesting."""


class BadDeeds(ClassError):
    """The value of deeds is no deeds."""


class BadPile(ClassError):
    """A pile cannot stand; index tells the first thing that is no spot, None if there is no such tuple."""

    def __init__(self, index):
        super().__init__(f"a pile cannot stand: index {index}")
        self.index = index


class BadRows(ClassError):
    """Rows cannot stand; index tells the first thing that is none, None if there is no such tuple."""

    def __init__(self, index):
        super().__init__(f"rows cannot stand: index {index}")
        self.index = index


class NoMethod(ClassError):
    """No method of the word is seen in the class told."""


class NotPlain(ClassError):
    """The method is not plain."""


class BadHands(ClassError):
    """Hands cannot stand; hand tells the hand, None for no pair, place the first thing that is no act."""

    def __init__(self, hand, place):
        super().__init__(f"hands cannot stand: hand {hand}, place {place}")
        self.hand = hand
        self.place = place


class BadTurns(ClassError):
    """Turns cannot be done; index tells the first thing that is none, None if there is no tuple."""

    def __init__(self, index):
        super().__init__(f"turns cannot be done: index {index}")
        self.index = index


class BadBody(ClassError):
    """A body cannot stand; index tells the class, place the method."""

    def __init__(self, index, place):
        super().__init__(f"a body cannot stand: index {index}, place {place}")
        self.index = index
        self.place = place


class NoBook(ClassError):
    """The value of book is no Book."""


class BadValues(ClassError):
    """The values do not go with the method."""


class NotNumbers(ClassError):
    """The method takes others than numbers, or too many."""


class TooLarge(ClassError):
    """A method is too large to be compiled; index tells the class, place the method."""

    def __init__(self, index, place):
        super().__init__(f"a method is too large to be compiled: index {index}, place {place}")
        self.index = index
        self.place = place


class BadPass(ClassError):
    """The value of word is no pass."""


class BadRowOfNames(ClassError):
    """Names are no row of classes; index tells the first thing that is no such class,
    None if there is no list or tuple."""

    def __init__(self, index):
        super().__init__(f"names are no row of classes: index {index}")
        self.index = index


class BadHeap(ClassError):
    """A heap cannot stand; index tells the first thing that is none, None if there is no such tuple."""

    def __init__(self, index):
        super().__init__(f"a heap cannot stand: index {index}")
        self.index = index


class BadRoots(ClassError):
    """The value of roots is none of the heap."""


class BadLump(ClassError):
    """The value of lump is none of the heap."""


class BadLog(ClassError):
    """A log cannot stand; index tells the first thing that is none, None if there is no such tuple."""

    def __init__(self, index):
        super().__init__(f"a log cannot stand: index {index}")
        self.index = index


class BadSpot(ClassError):
    """The values are no class, place of one of its methods, and step of its code."""
