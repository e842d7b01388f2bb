"""The errors of the package.

The messages leave out integers that may have any number of digits,
because Python refuses to write integers with thousands of digits.
"""


class WebError(ValueError):
    """The base class of all errors of the package."""


class UnfitWeb(WebError):
    """The base class of the errors of a function that does not accept a web."""


class NoResult(WebError):
    """The base class of the errors of a question that has no answer."""


class InvalidWeb(WebError):
    """The pair at the place does not fit the size; the place -1 stands for the size itself."""

    def __init__(self, place):
        super().__init__(f"no web has this size or the pair at place {place}")
        self.place = place


class InvalidRow(WebError):
    """The entry at the place does not fit; the place -1 stands for the length of the row."""

    def __init__(self, place):
        super().__init__(f"the row has a wrong length or a wrong entry at place {place}")
        self.place = place


class InvalidKind(WebError):
    """The string is not a kind."""

    def __init__(self, kind):
        super().__init__(f"not a kind: {kind}")
        self.kind = kind


class InvalidText(WebError):
    """The line with this number is wrong; lines count from 1."""

    def __init__(self, line):
        super().__init__(f"line {line} is wrong")
        self.line = line


class InvalidCode(WebError):
    """The integer is not a code of a web with so many nodes."""

    def __init__(self, code):
        super().__init__("the integer is not a code")
        self.code = code


class InvalidPoly(WebError):
    """The term at the place is invalid; places count from 0."""

    def __init__(self, place):
        super().__init__(f"the term at place {place} is invalid")
        self.place = place


class InvalidExpression(WebError):
    """The character at the position does not fit; positions count from 0."""

    def __init__(self, position):
        super().__init__(f"the text is not an expression from position {position} on")
        self.position = position


class InvalidName(WebError):
    """The string is not a name."""

    def __init__(self, name):
        super().__init__(f"not a name: {name}")
        self.name = name


class UnknownName(WebError):
    """The name has no value."""

    def __init__(self, name):
        super().__init__(f"the name {name} is unknown")
        self.name = name


class NameInUse(WebError):
    """Other names depend on the name."""

    def __init__(self, name, users):
        super().__init__(f"other names depend on the name {name}")
        self.name = name
        self.users = users


class Circular(WebError):
    """The formula of the name depends on the name itself."""

    def __init__(self, name):
        super().__init__(f"the name {name} depends on itself")
        self.name = name


class NothingToUndo(WebError):
    """There is no change to take back or to make again."""


class TooLarge(WebError):
    """The limit is exceeded."""

    def __init__(self, limit):
        super().__init__(f"the limit {limit} is exceeded")
        self.limit = limit


class HasLoops(UnfitWeb):
    """The node is the least one with a loop."""

    def __init__(self, node):
        super().__init__(f"the node {node} has a loop")
        self.node = node


class NotConnected(UnfitWeb):
    """The web has so many components, and not one."""

    def __init__(self, pieces):
        super().__init__(f"the web has {pieces} components")
        self.pieces = pieces


class NoOddRing(UnfitWeb):
    """The node is the least one of the first component without an odd ring."""

    def __init__(self, node):
        super().__init__(f"the component of the node {node} has no odd ring")
        self.node = node


class HasOddRing(UnfitWeb):
    """The web has the odd ring."""

    def __init__(self, ring):
        super().__init__("the web has an odd ring")
        self.ring = ring


class NotTwist(NoResult):
    """The row is not a twist, as the pair of nodes shows."""

    def __init__(self, pair):
        super().__init__("the row is not a twist")
        self.pair = pair


class NoBound(NoResult):
    """The number of answers has no bound."""


class NotDivisible(NoResult):
    """The division stops at the monomial."""

    def __init__(self, monomial):
        super().__init__("the polynomial is not divisible")
        self.monomial = monomial


class NoRoot(NoResult):
    """There is no root of the degree."""

    def __init__(self, degree):
        super().__init__("there is no root of this degree")
        self.degree = degree
