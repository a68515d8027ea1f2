"""What several tests need: plays, counts, things of all kinds, and what is told of plays straight by its definition."""

from cuebook.errors import CueError


class Strange:
    """A thing that cannot be compared, counted or walked."""

    def __eq__(self, other):
        raise AssertionError("compared")

    def __hash__(self):
        return 7

    def __len__(self):
        raise AssertionError("counted")

    def __iter__(self):
        raise AssertionError("walked")

    def __bool__(self):
        raise AssertionError("asked for its truth")


def refusals_of(error):
    """The names of all refusals that an error is one of."""
    return [kind.__name__ for kind in [CueError] + CueError.__subclasses__() if isinstance(error, kind)]


def looped():
    things = []
    things.append(things)
    return things


def nested(depth):
    thing = ()
    for _ in range(depth):
        thing = (thing,)
    return thing


def odd_things():
    """Things of many kinds: none is a word, a name, names or words of a speech, a speech, a play, counts or books."""
    return [
        None, 0, 1, 7, -1, 10 ** 50, True, False, 1.5, float("nan"), 2j, b"ann", bytearray(b"ann"),
        "", " ", "Ann", "ann bob", "ann: hello", "a" * 100000, [], [[]], ["ann"], [["ann"], ["hello"]],
        [(("ann",), ("hello",))], ("ann", 7), ("ann", ""), (("ann",), ["hello"]), ((),), (None,), (7,), ((), ()),
        (((), ()),), ((None, None),), (("ab", "c d"),), (Strange(),), ((Strange(), Strange()),),
        (((Strange(),), (Strange(),)),), {"ann": None}, {None: None}, {7: (), "ann": ()}, {"ann": ((),)},
        set(), {1, 2}, frozenset(), range(3), object(), Strange(), len, int, lambda: (), looped(), nested(20000),
    ]


SHORT = (
    (("ann",), ("to", "be")),
    (("bob",), ("or", "not", "to")),
    (("ann", "cid"), ("be",)),
    (("dan",), ("that", "is")),
    (("bob", "cid"), ("the", "question")),
    (("ann", "eve"), ("to", "be")),
)

# The sizes of SHORT's windows, counted by hand.
SHORT_SIZES = ((0,), (2,), (3, 5), (6,), (3, 2), (4, 10))

NAMES = ("ann", "bob", "cid", "dan", "eve", "fay", "gus", "hal")

# What is no pair of names and words, whatever stands ahead of it.
AMISS = {
    "nothing": None,
    "a number": 7,
    "a truth": True,
    "a text": "ab",
    "a text of two texts": ("ab", "cd"),
    "a dict": {0: ["cid"], 1: ["word"]},
    "a pair of none": (),
    "a list of none": [],
    "a pair of one": (["cid"],),
    "a list of one": [["cid"]],
    "a pair of three": (["cid"], ["word"], ["more"]),
    "a list of three": [["cid"], ["word"], []],
    "no names": ([], ["word"]),
    "a tuple of no names": ((), ["word"]),
    "nine names": (list(NAMES) + ["ida"], ["word"]),
    "nine times the same name": (["cid"] * 9, ["word"]),
    "a capital in a name": (["Cid"], ["word"]),
    "an empty name": ([""], ["word"]),
    "a name of nine letters": (["abcdefghi"], ["word"]),
    "a name that is None": ([None], ["word"]),
    "a name that is a number": ([7], ["word"]),
    "a name that is a list": ([["cid"]], ["word"]),
    "a good name and a bad one": (["cid", "d1"], ["word"]),
    "a good name and none": (["cid", None], ["word"]),
    "a name twice": (["cid", "cid"], ["word"]),
    "a name twice, apart": (["cid", "dan", "cid"], ["word"]),
    "no words": (["cid"], []),
    "a tuple of no words": (["cid"], ()),
    "a capital in a word": (["cid"], ["Word"]),
    "an empty word": (["cid"], ["word", ""]),
    "a word of thirteen letters": (["cid"], ["abcdefghijklm"]),
    "a word that is None": (["cid"], ["word", None]),
    "a word that is a number": (["cid"], [7]),
    "a word that is a list": (["cid"], [["word"]]),
    "a blank in a word": (["cid"], ["two words"]),
    "a text in the place of names": ("cid", ["word"]),
    "a text in the place of words": (["cid"], "word"),
    "a dict in the place of names": ({"cid": True}, ["word"]),
    "a dict in the place of words": (["cid"], {"word": True}),
    "a set in the place of names": ({"cid"}, ["word"]),
    "None in the place of names": (None, ["word"]),
    "None in the place of words": (["cid"], None),
    "something strange": Strange(),
    "something strange as names": (Strange(), ["word"]),
    "something strange as words": (["cid"], Strange()),
    "something strange as a name": ([Strange()], ["word"]),
    "something strange as a word": (["cid"], [Strange()]),
    "itself": looped(),
}


def numbers_from(seed):
    while True:
        seed = (seed * 1103515245 + 12345) % 2 ** 31
        yield seed // 2 ** 16


def long_play(seed, speeches, names=8, letters="abc", most=6):
    """A play of so many speeches of at most so many words; the same seed gives the same play."""
    numbers = numbers_from(seed)
    play = []
    ahead = ()
    for _ in range(speeches):
        free = [name for name in NAMES[:names] if name not in ahead]
        many = 1 + next(numbers) % max(1, len(free) // 2)
        chosen = set()
        while len(chosen) < many:
            chosen.add(free[next(numbers) % len(free)])
        words = tuple(letters[next(numbers) % len(letters)] for _ in range(1 + next(numbers) % most))
        ahead = tuple(sorted(chosen))
        play.append((ahead, words))
    return tuple(play)


def long_plays():
    return [long_play(seed, 2 + 7 * seed, 2 + seed % 7) for seed in range(10)] + [long_play(99, 60), long_play(100, 90)]


def plain_window(play, at, name):
    own = [number for number in range(at) if name in play[number][0]]
    first = own[-1] + 1 if own else 0
    return tuple(word for speech in play[first:at] for word in speech[1])


def plain_counts(play, chosen):
    """Counts of a play; chosen(size) tells the count for a window of that size."""
    return tuple(
        tuple(chosen(len(plain_window(play, at, name))) if at else 0 for name in names)
        for at, (names, _) in enumerate(play)
    )


def drawn_counts(play, seed):
    numbers = numbers_from(seed)
    return plain_counts(play, lambda size: 1 + next(numbers) % min(size, 1 + next(numbers) % 12))


def plain_false_places(play, at, name, many):
    heard = plain_window(play, at, name)
    cue = heard[len(heard) - many:]
    begin = sum(len(words) for _, words in play[:at])
    found = []
    for count in range(1, len(heard)):
        if count >= many and heard[:count][count - many:] == cue:
            found.append(begin - len(heard) + count)
    return tuple(found)


def plain_false_moments(play, counts):
    found = []
    for at, (names, _) in enumerate(play):
        for name, many in zip(names, counts[at]):
            found.extend((place, name, at) for place in plain_false_places(play, at, name, many))
    return tuple(sorted(found))


def plain_least(play):
    def least_of(at, name):
        return next(many for many in range(1, 10 ** 9) if not plain_false_places(play, at, name, many))

    return tuple(tuple(least_of(at, name) if at else 0 for name in names) for at, (names, _) in enumerate(play))
