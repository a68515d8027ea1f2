"""Thrift: counts of which the sum is not above a number, with as few false moments as any of these have."""

from cuebook.books import alike, total
from cuebook.errors import TooFew
from cuebook.matching import all_windows, common_ends


def at_least(numbers, many):
    return len([number for number in numbers if number >= many])


def moments_in(heard):
    # How many false moments a cue of 1, 2, 3 .. words has, as far as the first that has none: more words gain nothing.
    ends = common_ends(heard)
    return [at_least(ends, many) for many in range(1, max(ends, default=0) + 2)]


def moments_of_cues(play):
    found = []
    for row in all_windows(play):
        found.extend([moments_in(heard) for heard in row])
    return found


def best_more(fewest, moments, spare):
    sums = [fewest[spare - more] + many for more, many in enumerate(moments[:spare + 1])]
    return sums.index(min(sums))


def shared_out(cues, spare):
    # Cue by cue it is kept, for each number of spare words, how few moments the cues so far can have by them, and
    # how many of the words the newest one takes then; so the shares are found from the last cue back.
    fewest = [0] * (spare + 1)
    taken = []
    for moments in cues:
        mores = [best_more(fewest, moments, many) for many in range(spare + 1)]
        fewest = [fewest[many - more] + moments[more] for many, more in enumerate(mores)]
        taken.append(mores)
    shares = []
    for mores in reversed(taken):
        shares.append(mores[spare])
        spare -= mores[spare]
    return list(reversed(shares))


def with_shares(counts, shares):
    rows = []
    first = 0
    for row in counts:
        behind = first + len(row)
        rows.append(tuple([many + more for many, more in zip(row, shares[first:behind])]))
        first = behind
    return tuple(rows)


def thrifty(play, most):
    ones = alike(play, 1)
    needed = total(ones)
    if most < needed:
        raise TooFew(needed)
    cues = moments_of_cues(play)
    # More words than bring all moments to an end would only make the tables longer.
    spare = min(most - needed, sum([len(moments) - 1 for moments in cues]))
    return with_shares(ones, shared_out(cues, spare))
