"""Texts: histories and logs as words."""

from lateids.errors import InvalidText
from lateids.histories import MOST_EVENTS, check_history, first_wrong, is_event
from lateids.logs import check_log, is_log

LETTERS = {"commit": "c", "rollback": "r"}
WORDS = {"c": "commit", "r": "rollback"}
MOST_DIGITS = 31


def format_history(history):
    """Return the words of the events of a history."""
    check_history(history)
    return " ".join(["b" if event[0] == "begin" else f"{LETTERS[event[0]]}{event[1]}" for event in history])


def format_log(log):
    """Return the words of the lists of a log."""
    check_log(log)
    return " ".join([word_of(rows) for rows in log])


def parse_history(text):
    """Return the history with this text."""
    history = [event_of(word) for word in _words(text)]
    position = min(first_wrong(history), MOST_EVENTS)
    if position < len(history):
        raise InvalidText(position)
    return history


def parse_log(text):
    """Return the log with this text."""
    log = []
    for position, word in enumerate(_words(text)):
        log.append(_list_of(word))
        if not is_log(log):
            raise InvalidText(position)
    return log


# The console uses the functions below, too.


def word_of(rows):
    """Return the word of a list of ids."""
    return ",".join([str(row) for row in rows]) if rows else "-"


def event_of(word):
    """Return the event with this word, or None if it is no word of an event."""
    if word == "b":
        return ("begin",)
    if word[:1] not in WORDS:
        return None
    event = (WORDS[word[:1]], number_of(word[1:]))
    return event if is_event(event) else None


def number_of(word):
    """Return the number with this word, or None unless it has up to 31 digits and no leading zero."""
    if not word or len(word) > MOST_DIGITS or (word[0] == "0" and len(word) > 1):
        return None
    # The strings know digits of other scripts, too.
    return int(word) if all(["0" <= letter <= "9" for letter in word]) else None


def _list_of(word):
    """Return the list with this word; for a word of none, what cannot stand in a log."""
    return [] if word == "-" else [number_of(part) for part in word.split(",")]


def _words(text):
    """Return the words of a text."""
    if not isinstance(text, str):
        raise InvalidText(None)
    return text.split(" ") if text else []
