"""Plays, counts and books in great number, most of them drawn by seeds: the same ones in each run."""

import itertools

from cuebook.books import alike, cut, is_books, sizes, whole_counts
from cuebook.matching import least
from cuebook.plays import names_in
from samples import NAMES, SHORT, drawn_counts, long_play, long_plays, numbers_from

ONE_WORD = tuple(((name,), ("a",)) for name in ("ann", "bob", "cid", "ann", "cid", "bob"))


def drawn_plays():
    return [(), SHORT, ONE_WORD] + [long_play(seed, 1 + seed % 14, 2 + seed % 6) for seed in range(60)] + long_plays()


def drawn_pairs():
    """Plays with counts of them: short cues, middling ones and long ones, and such near the least."""
    found = []
    for seed, play in enumerate(drawn_plays()):
        numbers = numbers_from(seed)
        near = tuple(
            tuple(max(min(size, 1), many - (next(numbers) % 25 == 0)) for many, size in zip(row, whole))
            for row, whole in zip(least(play), whole_counts(play))
        )
        choices = [alike(play, many) for many in (1, 2, 4, 9)] + [near, least(play), whole_counts(play)]
        found.extend((play, counts) for counts in choices + [drawn_counts(play, seed), drawn_counts(play, 999 - seed)])
    return found


def all_counts(play):
    """All counts of a play, one after the other."""
    choices = [range(min(size, 1), size + 1) for row in whole_counts(play) for size in row]
    ends = list(itertools.accumulate(len(names) for names, _ in play))
    for numbers in itertools.product(*choices):
        yield tuple(numbers[end - len(names):end] for end, (names, _) in zip(ends, play))


def small_pairs():
    """Small plays with all of their counts, of some only the first ones."""
    found = []
    for seed in range(40):
        play = long_play(seed, 1 + seed % 4, 2 + seed % 3)
        found.extend((play, counts) for counts in itertools.islice(all_counts(play), 400))
    return found


def counts_as_in(play, books):
    """Counts of the play with as many words for each entry as its cue has; None, where names lack entries."""
    left = {name: list(row) for name, row in sizes(books).items()}
    counts = []
    for names, _ in play:
        if not all(left.get(name) for name in names):
            return None
        counts.append(tuple(left[name].pop(0) for name in names))
    return tuple(counts)


def changed_books(books, numbers):
    """Books with one thing changed, perhaps such that they are those of no play."""
    name = sorted(books)[next(numbers) % len(books)]
    entries = list(books[name])
    number = next(numbers) % len(entries)
    cue, names, words = entries[number]
    what = next(numbers) % 7
    if what == 0:
        entries.pop(number)
    elif what == 1:
        entries.insert(number, (("a",), names, words))
    elif what == 2:
        entries[number] = (cue[1:], names, words)
    elif what == 3:
        entries[number] = (cue, names, words + ("b",))
    elif what == 4:
        entries[number] = (cue, tuple(sorted(set(names) | {"ann"})), words)
    elif what == 5:
        entries[number] = (cue, (name,), words)
    other = dict(books)
    other[name] = tuple(entries)
    if what == 6 or not entries:
        other.pop(name)
    return other


def drawn_books():
    numbers = numbers_from(11)
    found = []
    for seed in range(300):
        play = long_play(seed, 2 + seed % 9, 2 + seed % 4)
        books = cut(play, whole_counts(play) if seed % 3 else drawn_counts(play, seed))
        for _ in range(seed % 3):
            if books:
                books = changed_books(books, numbers)
        if is_books(books):
            found.append(books)
    return found


def small_books():
    """Books of at most eight entries in all, of few unlike words, so that many have no play or several."""
    numbers = numbers_from(23)
    found = []
    for seed in range(400):
        play = long_play(seed, 1 + seed % 7, 2 + seed % 5, "ab" if seed % 2 else "a", 1 + seed % 3)
        books = cut(play, [alike(play, 1), alike(play, 2), least(play), drawn_counts(play, seed)][seed // 7 % 4])
        for _ in range(seed % 4 // 2):
            if books:
                books = changed_books(books, numbers)
        if is_books(books) and sum(map(len, books.values())) <= 8:
            found.append(books)
    return found


def in_acts(seed):
    """A play of two or three acts with players of their own, so that many roles never meet."""
    acts = []
    for act in range(2 + seed % 2):
        names = dict(zip(NAMES, NAMES[act * 3:act * 3 + 3]))
        for speakers, words in long_play(seed * 3 + act, 2 + (seed + act) % 5, min(3, 8 - 3 * act)):
            acts.append((tuple(sorted(names[name] for name in speakers)), words))
    return tuple(acts)


def cast_plays():
    return drawn_plays() + [in_acts(seed) for seed in range(80)]


def pairs_that_meet(play):
    """All pairs of unlike names that stand in one speech or in two neighbouring ones."""
    together = [early[0] + late[0] for early, late in zip(play, play[1:])] + [names for names, _ in play]
    return {(one, other) for names in together for one in names for other in names if one != other}


def drawn_cast(numbers):
    """A cast of some names, perhaps of such that the play lacks; mostly some of its players meet."""
    names = NAMES + ("zoe",)
    return {names[next(numbers) % 9]: names[next(numbers) % 9] for _ in range(next(numbers) % 6)}


def cast_without_meeting(play, numbers):
    """A cast by which no player meets itself: names that don't meet share players, and these are called anyhow."""
    meet = pairs_that_meet(play)
    groups = []
    for name in names_in(play):
        free = [group for group in groups if not any((name, other) in meet for other in group)]
        if free and next(numbers) % 4:
            free[next(numbers) % len(free)].append(name)
        else:
            groups.append([name])
    players = list(NAMES + ("ivy", "zoe"))
    cast = {"lacking": "ann"} if next(numbers) % 3 == 0 else {}
    for group in groups:
        player = players.pop(next(numbers) % len(players))
        cast.update((name, player) for name in group)
    return cast


def cast_pairs():
    """Plays with casts by which no player meets itself."""
    found = []
    for seed, play in enumerate(cast_plays()):
        numbers = numbers_from(seed)
        found.extend((play, cast_without_meeting(play, numbers)) for _ in range(3))
    return found


def cast_triples():
    """Plays, casts by which no player meets itself, and counts of the plays, good ones and others."""
    found = []
    for seed, (play, cast) in enumerate(cast_pairs()):
        choices = [alike(play, 1), alike(play, 2), least(play), whole_counts(play), drawn_counts(play, seed)]
        found.extend((play, cast, counts) for counts in choices)
    return found
