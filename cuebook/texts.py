"""Texts: plays and books written as rows, and read from rows again."""

from cuebook.books import is_entry
from cuebook.errors import NoPlay, NoText
from cuebook.plays import is_series, is_speech, play_of


def speech_row(speech):
    return " ".join(speech[0]) + ": " + " ".join(speech[1])


def play_rows(play):
    return tuple([speech_row(speech) for speech in play])


def entry_row(entry):
    return "".join([word + " " for word in entry[0]]) + "> " + speech_row(entry[1:])


def book_rows(entries):
    return tuple([entry_row(entry) for entry in entries])


def speech_in(row):
    # None stands for what isn't written as a speech. A sign or a blank that is lacking, doubled or at another place
    # leaves a part that is no name or no word, so that is_speech finds it.
    if not isinstance(row, str):
        return None
    parts = row.partition(": ")
    speech = (tuple(parts[0].split(" ")), tuple(parts[2].split(" ")))
    return speech if is_speech(speech) else None


def entry_in(row):
    # None stands for what isn't written as an entry; whether its cue is one of words is_entry tells.
    if not isinstance(row, str):
        return None
    parts = row.partition("> ")
    cue = parts[0].split(" ")
    speech = speech_in(parts[2])
    # Each word of the cue has a blank behind, so that nothing stands between the last blank and the sign.
    if speech is None or cue[-1] != "":
        return None
    return (tuple(cue[:-1]), speech[0], speech[1])


def read_play(rows):
    if not is_series(rows):
        raise NoText(0)
    try:
        return play_of([speech_in(row) for row in rows])
    except NoPlay as refusal:
        raise NoText(refusal.place) from None


def read_book(name, rows):
    if not is_series(rows) or len(rows) == 0:
        raise NoText(0)
    entries = []
    for number, row in enumerate(rows):
        entry = entry_in(row)
        if not is_entry(name, entry) or (number > 0 and len(entry[0]) == 0):
            raise NoText(number)
        entries.append(entry)
    return tuple(entries)
