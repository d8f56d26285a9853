"""Deeds and logs as texts, and these read again, in the way of foxborders.texts."""

from foxborders.texts import integer, one_of, past, want_end, want_text

_WORDS = ("length ", "join ", "shrink ")
_MOST_DIGITS = 60


def deed_text(deed):
    """The text of a deed."""
    return " ".join([str(part) for part in deed])


def log_text(deeds):
    """The text of some deeds, one a line."""
    return "\n".join([deed_text(deed) for deed in deeds])


def _deed(text, at):
    """The deed that stands at a place, and the place behind it."""
    word, at = one_of(text, at, _WORDS)
    e, at = integer(text, at, _MOST_DIGITS)
    if word != "length ":
        return (word.strip(), e), at
    m, at = integer(text, past(text, at, " "), _MOST_DIGITS)
    return ("length", e, m), at


def read_deed(text):
    """The deed that a text tells."""
    want_text(text)
    deed, at = _deed(text, 0)
    want_end(text, at)
    return deed


def read_log(text):
    """The tuple of the deeds that a text tells."""
    want_text(text)
    if text == "":
        return ()
    deed, at = _deed(text, 0)
    deeds = [deed]
    while at < len(text):
        deed, at = _deed(text, past(text, at, "\n"))
        deeds.append(deed)
    return tuple(deeds)
