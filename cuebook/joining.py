"""Plays put together from books: the one that is spoken from them, and all those that are cut into them."""

from cuebook.books import entry_at, is_book
from cuebook.errors import Apart, NoBooks
from cuebook.stage import performed

MOST_TOLD = 2


class Part:
    def __init__(self, speeches, spoken, heard):
        # A beginning of a play, and for each name how many entries it has spoken and the words it has heard since,
        # of which only as many as its next cue has are kept.
        self.speeches = speeches
        self.spoken = spoken
        self.heard = heard
        # Whether it has been gone on from, and how many plays had been found ahead of that.
        self.gone_on = False
        self.found_ahead = 0


def check_books(thing):
    if not isinstance(thing, dict) or not all([isinstance(key, str) for key in thing]):
        raise NoBooks(None)
    amiss = [name for name, entries in thing.items() if not is_book(name, entries)]
    if len(amiss) > 0:
        raise NoBooks(min(amiss))


def joined(books):
    check_books(books)
    told = performed(books)
    end = told[1]
    if end[0] != "done":
        raise Apart(end[0], end[1], end[2])
    return told[0]


def empty_part(books):
    spoken = {}
    heard = {}
    for name in sorted(books):
        spoken[name] = 0
        heard[name] = ()
    return Part((), spoken, heard)


def may_speak(books, part, name, speech):
    entry = entry_at(books, name, part.spoken.get(name, 0))
    # Ahead of the first speech nobody has heard a word, behind it all but its speakers have: so the cue () is right
    # in the first speech alone, and nobody speaks twice running.
    return entry is not None and entry[1:] == speech and part.heard[name] == entry[0]


def next_speeches(books, part):
    found = []
    for name, number in part.spoken.items():
        entry = entry_at(books, name, number)
        # A speech is looked for with its first name alone, so that none is found twice.
        if entry is not None and entry[1][0] == name:
            if all([may_speak(books, part, other, entry[1:]) for other in entry[1]]):
                found.append(entry[1:])
    return found


def last_words(heard, entry):
    if entry is None:
        return ()
    # The cue () can't come any more; one word is enough to be unlike it.
    return heard[-max(1, len(entry[0])):]


def with_speech(books, part, speech):
    spoken = {}
    heard = {}
    for name in sorted(books):
        number = part.spoken[name]
        speaks = name in speech[0]
        spoken[name] = number + 1 if speaks else number
        heard[name] = () if speaks else last_words(part.heard[name] + speech[1], entry_at(books, name, number))
    return Part(part.speeches + (speech,), spoken, heard)


def is_complete(books, part):
    return all([number == len(books[name]) for name, number in part.spoken.items()])


def what_matters(part):
    # All that may follow is the same for parts that are alike in this.
    return (tuple(part.spoken.values()), tuple(part.heard.values()))


def plays_of(books):
    check_books(books)
    found = []
    vain = {}
    parts = [empty_part(books)]
    while len(parts) > 0 and len(found) < MOST_TOLD:
        part = parts.pop()
        if part.gone_on:
            # It comes up again when all that follows it has been tried.
            if part.found_ahead == len(found):
                vain[what_matters(part)] = True
        elif is_complete(books, part):
            found.append(part.speeches)
        elif what_matters(part) not in vain:
            part.gone_on = True
            part.found_ahead = len(found)
            parts.append(part)
            parts.extend([with_speech(books, part, speech) for speech in next_speeches(books, part)])
    return tuple(found)
