"""Every refusal of the program: one class for each kind, all of them under BakeError."""


class BakeError(ValueError):
    """Any refusal."""


class NoBakery(BakeError):
    """What was handed in is no bakery; good and day tell where, as far as that can be told."""

    def __init__(self, good, day):
        super().__init__(f"no bakery (good {good}, day {day})")
        self.good = good
        self.day = day


class NoDoughs(BakeError):
    """What was handed in are no doughs; day tells the first wrong one, as far as that can be told."""

    def __init__(self, day):
        super().__init__(f"no doughs (day {day})")
        self.day = day


class TooMuch(BakeError):
    """No plan fits; the stretch from first to last wants too much."""

    def __init__(self, first, last):
        super().__init__(f"days {first} to {last} want too much")
        self.first = first
        self.last = last


class NoText(BakeError):
    """A text can't be read; row tells the first wrong row."""

    def __init__(self, row):
        super().__init__(f"row {row} can't be read")
        self.row = row


class NoNumber(BakeError):
    """What was handed in is no number."""


class NoDay(BakeError):
    """What was handed in is no day, or there is no such day."""


class NoGood(BakeError):
    """There is no such good."""


class NoDays(BakeError):
    """What was handed in are no lit or dark days."""


class NoPart(BakeError):
    """A day has no such part."""


class NotPlain(BakeError):
    """The bakery has two goods, or a bound."""


class NotSteady(BakeError):
    """The bakery isn't steady."""


class NoBack(BakeError):
    """There is no deed to take back."""


class TooMany(BakeError):
    """There are, or would be, too many days."""


class NoRow(BakeError):
    """The desk knows no such row."""


class NoName(BakeError):
    """Nothing is kept by this name."""
