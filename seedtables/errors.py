"""The errors of this package, each with what was wrong.

Their texts tell nothing of the value, since a text of a value may fail: that of a very long number does.
"""


class SeedError(ValueError):
    """What all errors of this package stand under."""


class InvalidMarks(SeedError):
    """Told of what is no such number of marks as is asked for."""

    def __init__(self, given):
        super().__init__("no such number of marks as is asked for")
        self.given = given


class InvalidLot(SeedError):
    """Told of what is no such lot as is asked for."""

    def __init__(self, given):
        super().__init__("no such lot as is asked for")
        self.given = given


class InvalidKey(SeedError):
    """Told of what is no index of such a key as is asked for."""

    def __init__(self, given):
        super().__init__("no index of such a key as is asked for")
        self.given = given


class InvalidNumber(SeedError):
    """Told of what is no whole number within the bounds that are asked for."""

    def __init__(self, given):
        super().__init__("no whole number within the bounds that are asked for")
        self.given = given


class InvalidOrder(SeedError):
    """Told of what is no tuple of all marks, each once."""

    def __init__(self, given):
        super().__init__("no tuple of all marks, each once")
        self.given = given


class InvalidMap(SeedError):
    """Told of what is no map to fewer marks in which all of them come alike often."""

    def __init__(self, given):
        super().__init__("no map to fewer marks in which all of them come alike often")
        self.given = given


class InvalidPowers(SeedError):
    """Told of what are no such powers as are asked for."""

    def __init__(self, given):
        super().__init__("no such powers as are asked for")
        self.given = given


class InvalidFraction(SeedError):
    """Told of what is no such fraction as is asked for."""

    def __init__(self, given):
        super().__init__("no such fraction as is asked for")
        self.given = given


class TooMany(SeedError):
    """Told, with how many there are, where more things come than are let."""

    def __init__(self, given):
        super().__init__("more things than are let")
        self.given = given


class InvalidTable(SeedError):
    """Told of what is no table, with the index of the first row that is wrong."""

    def __init__(self, index):
        super().__init__("no table of these marks")
        self.index = index


class InvalidKeys(SeedError):
    """Told of what are no unlike keys, with the index of the first that is wrong."""

    def __init__(self, index):
        super().__init__("no tuple of unlike keys")
        self.index = index


class InvalidQuestion(SeedError):
    """Told of what is no question, with the index of the first element that is wrong."""

    def __init__(self, index):
        super().__init__("no question")
        self.index = index


class InvalidShares(SeedError):
    """Told of what are no shares, with the index of the first that is wrong."""

    def __init__(self, index):
        super().__init__("no shares")
        self.index = index


class InvalidVectors(SeedError):
    """Told of what are no vectors, with the index of the first that is wrong."""

    def __init__(self, index):
        super().__init__("no vectors for this prime")
        self.index = index


class InvalidPrices(SeedError):
    """Told of what are no row prices, with the index of the first that is wrong."""

    def __init__(self, index):
        super().__init__("no row prices")
        self.index = index


class InvalidSource(SeedError):
    """Told of what is no source, with the index of the first chance that is wrong."""

    def __init__(self, index):
        super().__init__("no source for the table's keys")
        self.index = index


class InvalidForgery(SeedError):
    """Told of what is no forgery, with the index of the first triple that is wrong."""

    def __init__(self, index):
        super().__init__("no forgery for this lot")
        self.index = index


class InvalidOrders(SeedError):
    """Told of what are no orders, with the index of the first that is wrong."""

    def __init__(self, index):
        super().__init__("no orders of the same keys")
        self.index = index


class UnlikeTables(SeedError):
    """Told of two tables that do not fit one another."""
