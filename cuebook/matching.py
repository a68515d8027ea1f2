"""False moments, at which a cue has come ahead of its speech, and the least counts that have none."""

from cuebook.books import whole_counts
from cuebook.plays import begins, window, words_in


def common_end(heard, many):
    # How many words the first so many of those heard have in common with all of them, from the end.
    common = 0
    while common < many and heard[many - 1 - common] == heard[len(heard) - 1 - common]:
        common += 1
    return common


def common_ends(heard):
    # A cue of so many words or fewer comes there, too: all counts are judged by this one walk.
    return [common_end(heard, many) for many in range(len(heard))]


def places_in(heard, begin, many):
    first = begin - len(heard)
    return [first + number for number, common in enumerate(common_ends(heard)) if common >= many]


def all_windows(play):
    # Cut from the words of the play: to look for each window by itself would walk the play once for each cue.
    words = words_in(play)
    rows = []
    for begin, row in zip(begins(play), whole_counts(play)):
        rows.append(tuple([words[begin - size:begin] for size in row]))
    return tuple(rows)


def false_places(play, at, name, many):
    return tuple(places_in(window(play, at, name), begins(play)[at], many))


def false_moments(play, counts):
    windows = all_windows(play)
    found = []
    for at, begin in enumerate(begins(play)):
        for name, heard, many in zip(play[at][0], windows[at], counts[at]):
            found.extend([(place, name, at) for place in places_in(heard, begin, many)])
    return tuple(sorted(found))


def least_in(heard):
    # Only a first speech has an empty window, and there 0 is the one count.
    return 1 + max(common_ends(heard)) if len(heard) > 0 else 0


def least_row(row):
    return tuple([least_in(heard) for heard in row])


def least(play):
    return tuple([least_row(row) for row in all_windows(play)])


def shown(play):
    windows = all_windows(play)
    found = []
    for at, begin in enumerate(begins(play)):
        for name, heard in zip(play[at][0], windows[at]):
            ends = common_ends(heard)
            longest = max(ends, default=0)
            if longest > 0:
                found.append((at, name, begin - len(heard) + ends.index(longest)))
    return tuple(found)
