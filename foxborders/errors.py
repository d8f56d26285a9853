"""The errors of the package: all of them stand here."""


def _copied(value):
    """An equal value that shares no list and no dict with this one, however deep."""
    if isinstance(value, list):
        return [_copied(part) for part in value]
    if isinstance(value, tuple):
        return tuple([_copied(part) for part in value])
    if isinstance(value, dict):
        return {key: _copied(part) for key, part in value.items()}
    return value


class FoxError(ValueError):
    """What all errors of the package have above them."""


class BadText(FoxError):
    """A text that is not written as its reader asks, or no text: place tells how far it could be read."""

    def __init__(self, place):
        # The message is plain so that no caller's list is kept in it.
        super().__init__("the text cannot be read beyond its place")
        self.place = _copied(place)


class BadDeed(FoxError):
    """What is no deed for a board."""

    def __init__(self):
        super().__init__()


class NothingDone(FoxError):
    """No deed is there to be undone, or redone."""

    def __init__(self):
        super().__init__()
