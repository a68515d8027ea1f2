"""Counts of cue words, and the books into which a play is cut by them."""

from cuebook.errors import NoCounts
from cuebook.plays import are_words, begins, is_name, is_speech_names, is_speech_words, is_whole, names_in, words_in


def whole_counts(play):
    # One walk for all windows: to make each one by itself would walk the play once for each cue.
    last_ends = {}
    place = 0
    counts = []
    for names, words in play:
        counts.append(tuple([place - last_ends.get(name, 0) for name in names]))
        place += len(words)
        for name in names:
            last_ends[name] = place
    return tuple(counts)


def at_most(row, many):
    return tuple([min(many, size) for size in row])


def alike(play, many):
    return tuple([at_most(row, many) for row in whole_counts(play)])


def is_count(thing, size):
    # Only the window of a first speech has the size 0, and there 0 is the one count.
    return is_whole(thing) and min(1, size) <= thing <= size


def are_counts(thing, row):
    if not isinstance(thing, tuple) or len(thing) != len(row):
        return False
    return all([is_count(number, size) for number, size in zip(thing, row)])


def amiss_at(play, thing):
    # None stands for counts with which nothing is amiss.
    if not isinstance(thing, tuple):
        return len(play)
    for at, row in enumerate(whole_counts(play)):
        if at == len(thing) or not are_counts(thing[at], row):
            return at
    return None if len(thing) == len(play) else len(play)


def is_counts(play, thing):
    return amiss_at(play, thing) is None


def total(counts):
    return sum([sum(row) for row in counts])


def check_counts(play, thing):
    amiss = amiss_at(play, thing)
    if amiss is not None:
        raise NoCounts(amiss)


def cut(play, counts):
    check_counts(play, counts)
    entries = {}
    for name in names_in(play):
        entries[name] = []
    heard = words_in(play)
    for speech, begin, row in zip(play, begins(play), counts):
        for name, many in zip(speech[0], row):
            entries[name].append((heard[begin - many:begin], speech[0], speech[1]))
    books = {}
    for name in entries:
        books[name] = tuple(entries[name])
    return books


def is_cue(thing):
    return isinstance(thing, tuple) and are_words(thing)


def is_entry(name, thing):
    if not isinstance(thing, tuple) or len(thing) != 3:
        return False
    return is_cue(thing[0]) and is_speech_names(thing[1]) and name in thing[1] and is_speech_words(thing[2])


def is_book(name, thing):
    if not is_name(name) or not isinstance(thing, tuple) or len(thing) == 0:
        return False
    return all([is_entry(name, entry) for entry in thing]) and all([len(entry[0]) > 0 for entry in thing[1:]])


def is_books(thing):
    return isinstance(thing, dict) and all([is_book(name, entries) for name, entries in thing.items()])


def sizes(books):
    found = {}
    for name, entries in books.items():
        found[name] = tuple([len(entry[0]) for entry in entries])
    return found


def entry_at(books, name, number):
    # None stands for an entry that is lacking; a name that stands in one may have no book itself.
    entries = books.get(name, ())
    return entries[number] if number < len(entries) else None
