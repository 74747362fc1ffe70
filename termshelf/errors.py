"""The refusals of this package: each is a class of its own, straight under one of three families."""


class TermError(ValueError):
    """The family of what is handed in and isn't what is asked for."""


class Absent(KeyError):
    """The family of what is looked for and isn't there."""


class Ended(LookupError):
    """The family of what can't go on."""


class NoName(TermError):
    def __init__(self, found):
        super().__init__("no name")
        self.found = found


class NoWords(TermError):
    def __init__(self, found):
        super().__init__("no words")
        self.found = found


class NoSigns(TermError):
    def __init__(self, found):
        super().__init__("no signs")
        self.found = found


class NoSign(TermError):
    def __init__(self, at):
        super().__init__("no sign")
        self.at = at


class NoWord(TermError):
    def __init__(self, found):
        super().__init__("no word")
        self.found = found


class Beyond(TermError):
    def __init__(self, at):
        super().__init__("behind the end of the term")
        self.at = at


class Unended(TermError):
    def __init__(self, many):
        super().__init__("the term doesn't end")
        self.many = many


class NoTerm(TermError):
    def __init__(self, found):
        super().__init__("no term")
        self.found = found


class NoTerms(TermError):
    def __init__(self, found):
        super().__init__("no terms")
        self.found = found


class NoLetter(TermError):
    def __init__(self, found):
        super().__init__("no letter")
        self.found = found


class NoPairs(TermError):
    def __init__(self, found):
        super().__init__("no pairs")
        self.found = found


class NoPutting(TermError):
    def __init__(self, found):
        super().__init__("no putting")
        self.found = found


class NoWay(TermError):
    def __init__(self, found):
        super().__init__("no way")
        self.found = found


class NoNumber(TermError):
    def __init__(self, found):
        super().__init__("no number")
        self.found = found


class NoTruth(TermError):
    def __init__(self, found):
        super().__init__("no truth")
        self.found = found


class NoNote(TermError):
    def __init__(self, found):
        super().__init__("no note")
        self.found = found


class NoList(TermError):
    def __init__(self, found):
        super().__init__("no list")
        self.found = found


class NoAsk(TermError):
    def __init__(self, found):
        super().__init__("no ask")
        self.found = found


class NoRule(TermError):
    def __init__(self, found):
        super().__init__("no rule")
        self.found = found


class NoRules(TermError):
    def __init__(self, found):
        super().__init__("no rules")
        self.found = found


class NoRow(TermError):
    def __init__(self, found):
        super().__init__("no row")
        self.found = found


class NoShelf(TermError):
    def __init__(self, found):
        super().__init__("no shelf")
        self.found = found


class NoDeed(TermError):
    def __init__(self, at):
        super().__init__("no deed")
        self.at = at


class NoText(TermError):
    def __init__(self, row):
        super().__init__("no text")
        self.row = row


class NoLine(TermError):
    def __init__(self, found):
        super().__init__("no line")
        self.found = found


class Unlike(TermError):
    def __init__(self, found):
        super().__init__("of other words")
        self.found = found


class Twice(TermError):
    def __init__(self, found):
        super().__init__("there already")
        self.found = found


class TooMany(TermError):
    def __init__(self, many):
        super().__init__("too many")
        self.many = many


class TooGreat(TermError):
    def __init__(self, many):
        super().__init__("too great")
        self.many = many


class NotThere(Absent):
    def __init__(self, found):
        super().__init__("not there")
        self.found = found


class NoSpot(Absent):
    def __init__(self, found):
        super().__init__("no spot")
        self.found = found


class NoMore(Ended):
    def __init__(self):
        super().__init__("no more")


class Changed(Ended):
    def __init__(self, many):
        super().__init__("changed meanwhile")
        self.many = many


class Endless(Ended):
    def __init__(self, many):
        super().__init__("no end so far")
        self.many = many
