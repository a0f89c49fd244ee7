"""The refusals. Each stands straight under LackError.

No value goes into an error's words: a whole number of very many figures
can't be written out, and making the refusal would fail.
"""


class LackError(ValueError):
    pass


class NoWord(LackError):
    def __init__(self, word):
        LackError.__init__(self, "this is no word of these kinds, or has too many letters")
        self.word = word


class NoLength(LackError):
    def __init__(self, length):
        LackError.__init__(self, "this is no length of words of the strip")
        self.length = length


class NoPlace(LackError):
    def __init__(self, place):
        LackError.__init__(self, "this is no place of the strip")
        self.place = place


class NoRoom(LackError):
    def __init__(self, room):
        LackError.__init__(self, "this is no room of the machine")
        self.room = room


class NoRing(LackError):
    def __init__(self, thing):
        LackError.__init__(self, "this is no text of a ring")
        self.thing = thing


class NoList(LackError):
    def __init__(self, word):
        LackError.__init__(self, "this is no list of words over these kinds")
        self.word = word


class TooLong(LackError):
    def __init__(self, word):
        LackError.__init__(self, "a word with too many letters avoids the list")
        self.word = word


class Inside(LackError):
    def __init__(self, one, other):
        LackError.__init__(self, "one word of the list stands in another one")
        self.one = one
        self.other = other


class Split(LackError):
    def __init__(self, one, other):
        LackError.__init__(self, "two words avoid the list and stand together in no word that does")
        self.one = one
        self.other = other


class Endless(LackError):
    def __init__(self, head, lap):
        LackError.__init__(self, "words without end avoid the list")
        self.head = head
        self.lap = lap


class NoName(LackError):
    def __init__(self, name):
        LackError.__init__(self, "this is no name, or no strip has it")
        self.name = name


class NameThere(LackError):
    def __init__(self, name):
        LackError.__init__(self, "a strip has this name already")
        self.name = name


class NoKinds(LackError):
    pass


class Full(LackError):
    pass


class Bare(LackError):
    pass


class NoBack(LackError):
    pass


class Unlike(LackError):
    pass


class NoLine(LackError):
    pass
