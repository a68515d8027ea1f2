"""Changes: speeches left out of a play or put into it, and the entries by which books differ."""

from cuebook.books import entry_at
from cuebook.plays import play_of


def left_out(play, numbers):
    # A dict, so that many numbers don't make each speech slower.
    out = {}
    for number in numbers:
        out[number] = True
    return play_of([speech for at, speech in enumerate(play) if at not in out])


def put_in(play, number, speech):
    return play_of(play[:number] + (speech,) + play[number:])


def differs(books, others, name, number):
    return entry_at(books, name, number) != entry_at(others, name, number)


def unlike(books, others):
    found = []
    for name in sorted(set(books) | set(others)):
        many = max(len(books.get(name, ())), len(others.get(name, ())))
        found.extend([(name, number) for number in range(many) if differs(books, others, name, number)])
    return tuple(found)
