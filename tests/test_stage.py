import copy
import unittest

from cuebook.books import alike, cut, whole_counts
from cuebook.matching import false_moments
from cuebook.stage import performed
from drawn import drawn_books
from samples import NAMES, SHORT, SHORT_SIZES, drawn_counts, long_play, long_plays, numbers_from

DUEL = (
    (("ann",), ("a", "b", "c")),
    (("bob",), ("d",)),
)


def opening(names, words):
    return ((), names, words)


def plain_performed(books, holds=()):
    """A performance straight by its definition, with all that was spoken looked through behind each word."""
    next_entry = dict.fromkeys(books, 0)
    since = dict.fromkeys(books, 0)
    words = []
    spoken = []

    def left(name):
        return next_entry[name] < len(books[name])

    def begins(name):
        if not left(name) or (len(words), name) in holds:
            return False
        cue = books[name][next_entry[name]][0]
        heard = tuple(words[since[name]:])
        return not words if cue == () else len(cue) <= len(heard) and heard[len(heard) - len(cue):] == cue

    while True:
        those = tuple(name for name in sorted(books) if begins(name))
        speeches = {books[name][next_entry[name]][1:] for name in those}
        if not those:
            waiting = tuple(name for name in sorted(books) if left(name))
            return tuple(spoken), ("silence" if waiting else "done", len(words), waiting)
        if speeches != {(those, books[those[0]][next_entry[those[0]]][2])}:
            return tuple(spoken), ("clash", len(words), those)
        speech = speeches.pop()
        for many, word in enumerate(speech[1], start=1):
            words.append(word)
            others = tuple(name for name in sorted(books) if name not in those and begins(name))
            if others and many < len(speech[1]):
                return tuple(spoken) + ((those, speech[1][:many]),), ("break", len(words), others)
        spoken.append(speech)
        for name in those:
            next_entry[name] += 1
            since[name] = len(words)


class Performing(unittest.TestCase):
    def ends(self, books, spoken, end, holds=None):
        found = performed(books, holds)
        self.assertEqual(found, (spoken, end))
        self.assertIsInstance(found, tuple)
        self.assertIsInstance(found[1], tuple)


class Done(Performing):
    def test_no_books(self):
        self.ends({}, (), ("done", 0, ()))

    def test_one_speech(self):
        play = ((("ann",), ("hello", "you")),)
        self.ends(cut(play, ((0,),)), play, ("done", 2, ()))

    def test_one_speech_of_all_names(self):
        play = ((NAMES, ("hello", "you")),)
        self.ends(cut(play, ((0,) * 8,)), play, ("done", 2, ()))

    def test_a_play(self):
        self.ends(cut(SHORT, SHORT_SIZES), SHORT, ("done", 12, ()))
        self.ends(cut(SHORT, ((0,), (1,), (2, 5), (3,), (2, 1), (3, 1))), SHORT, ("done", 12, ()))
        self.ends(cut(SHORT, ((0,), (1,), (1, 2), (3,), (1, 1), (1, 1))), SHORT, ("done", 12, ()))

    def test_whole_windows(self):
        for play in long_plays():
            many = sum(len(words) for _, words in play)
            self.ends(cut(play, whole_counts(play)), play, ("done", many, ()))

    def test_speeches_of_one_word(self):
        play = ((("ann",), ("a",)), (("bob",), ("a",))) * 20
        self.ends(cut(play, alike(play, 1)), play, ("done", 40, ()))

    def test_a_cue_over_several_speeches(self):
        play = ((("ann",), ("a",)), (("bob",), ("b",)), (("ann",), ("c",)), (("cid",), ("d",)))
        self.ends(cut(play, whole_counts(play)), play, ("done", 4, ()))

    def test_unlike_cues_of_those_who_speak_together(self):
        play = (("ann",), ("a", "b")), (("bob", "cid"), ("c",))
        books = {
            "ann": (opening(*play[0]),),
            "bob": ((("b",),) + play[1],),
            "cid": ((("a", "b"),) + play[1],),
        }
        self.ends(books, play, ("done", 3, ()))


class Breaks(Performing):
    def test_a_cue_that_comes_within_a_speech(self):
        self.ends(cut(SHORT, alike(SHORT, 1)), ((("ann",), ("to",)),), ("break", 1, ("cid",)))

    def test_the_last_speech_as_far_as_it_was_spoken(self):
        for many, cue in enumerate(("a", "b"), start=1):
            books = {"ann": (opening(*DUEL[0]),), "bob": (((cue,),) + DUEL[1],)}
            self.ends(books, ((("ann",), ("a", "b", "c")[:many]),), ("break", many, ("bob",)))

    def test_at_the_last_word_it_is_none(self):
        books = {"ann": (opening(*DUEL[0]),), "bob": ((("c",),) + DUEL[1],)}
        self.ends(books, DUEL, ("done", 4, ()))

    def test_several_who_begin(self):
        books = {
            "dan": ((("b",), ("dan",), ("x",)),),
            "bob": ((("a", "b"), ("bob",), ("y",)),),
            "cid": ((("c",), ("cid",), ("z",)),),
            "ann": (opening(*DUEL[0]),),
        }
        self.ends(books, ((("ann",), ("a", "b")),), ("break", 2, ("bob", "dan")))

    def test_several_who_would_speak_together(self):
        words = (("b",), ("bob", "cid"), ("x",))
        books = {"ann": (opening(*DUEL[0]),), "bob": (words,), "cid": (words,)}
        self.ends(books, ((("ann",), ("a", "b")),), ("break", 2, ("bob", "cid")))

    def test_in_a_later_speech(self):
        play = ((("ann",), ("a", "b")), (("bob",), ("c", "d", "e")), (("ann",), ("f",)))
        self.ends(
            cut(play, alike(play, 1)) | {"cid": ((("b", "c"), ("cid",), ("x",)),)},
            (play[0], (("bob",), ("c",))),
            ("break", 3, ("cid",)),
        )

    def test_who_speaks_hears_nothing_of_it(self):
        books = {"ann": (opening(("ann",), ("a", "b", "a")), (("a",), ("ann",), ("c",)))}
        self.ends(books, ((("ann",), ("a", "b", "a")),), ("silence", 3, ("ann",)))

    def test_the_speakers_own_cue_words_in_its_speech(self):
        play = ((("ann",), ("a",)), (("bob",), ("a", "a", "a")), (("ann",), ("b",)))
        self.ends(cut(play, ((0,), (1,), (3,))), play, ("done", 5, ()))


class Clashes(Performing):
    def test_a_true_one_and_a_false_one(self):
        books = cut(SHORT, ((0,), (1,), (1, 2), (2,), (1, 1), (1, 1)))
        self.ends(books, SHORT[:1], ("clash", 2, ("bob", "dan")))

    def test_two_at_the_begin(self):
        books = {"bob": (opening(("bob",), ("a",)),), "ann": (opening(("ann",), ("a",)),)}
        self.ends(books, (), ("clash", 0, ("ann", "bob")))

    def test_other_words(self):
        books = {
            "ann": (opening(("ann", "bob"), ("a", "b")),),
            "bob": (opening(("ann", "bob"), ("a", "c")),),
        }
        self.ends(books, (), ("clash", 0, ("ann", "bob")))
        books["bob"] = (opening(("ann", "bob"), ("a",)),)
        self.ends(books, (), ("clash", 0, ("ann", "bob")))

    def test_other_names(self):
        books = {
            "ann": (opening(("ann", "bob"), ("a",)),),
            "bob": (opening(("ann", "bob", "cid"), ("a",)),),
        }
        self.ends(books, (), ("clash", 0, ("ann", "bob")))
        books["ann"] = (opening(("ann",), ("a",)),)
        self.ends(books, (), ("clash", 0, ("ann", "bob")))

    def test_one_of_the_names_does_not_begin(self):
        books = {
            "ann": (opening(("ann", "bob"), ("a",)),),
            "bob": ((("a",), ("ann", "bob"), ("a",)),),
        }
        self.ends(books, (), ("clash", 0, ("ann",)))

    def test_one_of_the_names_has_no_book(self):
        self.ends({"ann": (opening(("ann", "bob"), ("a",)),)}, (), ("clash", 0, ("ann",)))
        books = cut(SHORT, SHORT_SIZES)
        books.pop("eve")
        self.ends(books, SHORT[:5], ("clash", 10, ("ann",)))

    def test_one_more_begins_than_the_names(self):
        books = {
            "ann": (opening(("ann", "bob"), ("a",)),),
            "bob": (opening(("ann", "bob"), ("a",)),),
            "cid": (opening(("ann", "bob", "cid"), ("a",)),),
        }
        self.ends(books, (), ("clash", 0, ("ann", "bob", "cid")))

    def test_where_a_speech_ends(self):
        books = {
            "ann": (opening(*DUEL[0]),),
            "bob": ((("c",), ("bob",), ("d",)),),
            "cid": ((("b", "c"), ("cid",), ("d",)),),
        }
        self.ends(books, DUEL[:1], ("clash", 3, ("bob", "cid")))

    def test_at_the_end_of_a_speech_of_one_word(self):
        books = {
            "ann": (opening(("ann",), ("a",)),),
            "bob": ((("a",), ("bob", "cid"), ("d",)),),
            "cid": ((("a",), ("bob", "cid"), ("e",)),),
        }
        self.ends(books, ((("ann",), ("a",)),), ("clash", 1, ("bob", "cid")))


class Silences(Performing):
    def test_at_the_begin(self):
        books = {"bob": ((("a",), ("bob",), ("b",)),), "ann": ((("b",), ("ann",), ("a",)),)}
        self.ends(books, (), ("silence", 0, ("ann", "bob")))

    def test_a_name_without_its_book(self):
        books = cut(SHORT, SHORT_SIZES)
        books.pop("bob")
        self.ends(books, SHORT[:1], ("silence", 2, ("ann", "cid", "dan", "eve")))

    def test_only_those_who_have_an_entry_left(self):
        books = {
            "bob": ((("c",), ("bob",), ("d",)), (("x",), ("bob",), ("y",))),
            "ann": (opening(*DUEL[0]),),
            "cid": ((("z",), ("cid",), ("y",)),),
        }
        self.ends(books, DUEL, ("silence", 4, ("bob", "cid")))

    def test_a_cue_that_came_only_in_part(self):
        books = {"ann": (opening(*DUEL[0]),), "bob": ((("b", "b", "c"), ("bob",), ("d",)),)}
        self.ends(books, DUEL[:1], ("silence", 3, ("bob",)))

    def test_a_cue_that_is_longer_than_what_was_heard(self):
        books = {"ann": (opening(*DUEL[0]),), "bob": ((("x", "a", "b", "c"), ("bob",), ("d",)),)}
        self.ends(books, DUEL[:1], ("silence", 3, ("bob",)))

    def test_a_cue_from_ahead_of_the_own_speech(self):
        books = {
            "ann": (opening(("ann",), ("a",)), (("b",), ("ann",), ("c",))),
            "bob": ((("a",), ("bob",), ("b",)), (("a", "c"), ("bob",), ("d",))),
        }
        spoken = ((("ann",), ("a",)), (("bob",), ("b",)), (("ann",), ("c",)))
        self.ends(books, spoken, ("silence", 3, ("bob",)))


class Holding(Performing):
    counts = ((0,), (1,), (1, 1), (2,), (1, 1), (1, 1))

    def done(self, holds):
        self.ends(cut(SHORT, self.counts), SHORT, ("done", 12, ()), holds)

    def test_no_holds(self):
        books = cut(SHORT, self.counts)
        wanted = (((("ann",), ("to",)),), ("break", 1, ("cid",)))
        self.assertEqual(performed(books), wanted)
        for holds in [None, (), []]:
            self.assertEqual(performed(books, holds), wanted)
            self.assertEqual(performed(books, holds=holds), wanted)

    def test_each_hold_brings_it_further(self):
        books = cut(SHORT, self.counts)
        self.ends(books, SHORT[:1], ("clash", 2, ("bob", "dan")), ((1, "cid"),))
        self.ends(books, ((("ann",), ("to",)),), ("break", 1, ("cid",)), ((2, "dan"),))
        self.done(((1, "cid"), (2, "dan")))

    def test_as_a_tuple_and_as_a_list_in_any_order(self):
        self.done(((2, "dan"), (1, "cid")))
        self.done([(1, "cid"), (2, "dan")])
        self.done([(2, "dan"), (1, "cid")])

    def test_some_twice(self):
        self.done(((1, "cid"), (2, "dan"), (1, "cid")))
        self.done([(2, "dan"), (1, "cid"), (2, "dan"), (2, "dan")])

    def test_places_and_names_that_never_come(self):
        self.done(((1, "cid"), (2, "dan"), (99, "cid"), (1, "zoe"), (12, "ann"), (10 ** 30, "zoe"), (-1, "ann")))
        self.ends({}, (), ("done", 0, ()), [(0, "ann")])

    def test_names_held_where_they_do_not_begin(self):
        self.done([(1, "cid"), (2, "dan"), (1, "ann"), (4, "bob"), (3, "eve"), (11, "ann"), (11, "eve")])

    def test_only_the_name_that_is_held(self):
        self.ends(cut(SHORT, self.counts), ((("ann",), ("to",)),), ("break", 1, ("cid",)), [(1, "dan"), (2, "cid")])

    def test_held_at_the_begin(self):
        self.ends(cut(SHORT, SHORT_SIZES), (), ("silence", 0, ("ann", "bob", "cid", "dan", "eve")), ((0, "ann"),))
        books = {"bob": (opening(("bob",), ("a",)),), "ann": (opening(("ann",), ("a",)),)}
        self.ends(books, ((("ann",), ("a",)),), ("silence", 1, ("bob",)), ((0, "bob"),))
        self.ends(books, ((("bob",), ("a",)),), ("silence", 1, ("ann",)), ((0, "ann"),))

    def test_held_at_its_true_begin(self):
        books = cut(SHORT, SHORT_SIZES)
        self.ends(books, SHORT[:1], ("silence", 2, ("ann", "bob", "cid", "dan", "eve")), ((2, "bob"),))
        self.ends(books, SHORT[:4], ("silence", 8, ("ann", "bob", "cid", "eve")), ((8, "bob"), (8, "cid")))

    def test_one_held_of_two_who_speak_together(self):
        self.ends(cut(SHORT, SHORT_SIZES), SHORT[:2], ("clash", 5, ("ann",)), ((5, "cid"),))

    def test_held_and_cued_anew(self):
        books = {"ann": (opening(("ann",), ("a", "a", "a")),), "bob": ((("a",), ("bob",), ("b",)),)}
        spoken = (("ann",), ("a", "a", "a"))
        self.ends(books, ((("ann",), ("a",)),), ("break", 1, ("bob",)), ())
        self.ends(books, ((("ann",), ("a", "a")),), ("break", 2, ("bob",)), ((1, "bob"),))
        self.ends(books, (spoken, (("bob",), ("b",))), ("done", 4, ()), ((1, "bob"), (2, "bob")))
        self.ends(books, (spoken,), ("silence", 3, ("bob",)), ((1, "bob"), (2, "bob"), (3, "bob")))

    def test_places_count_the_words_of_all(self):
        play = ((("ann",), ("a", "b")), (("bob",), ("c",)), (("ann",), ("d", "e")), (("bob",), ("f",)))
        books = cut(play, alike(play, 1))
        self.ends(books, play[:3], ("silence", 5, ("bob",)), ((5, "bob"),))
        self.ends(books, play[:2], ("silence", 3, ("ann", "bob")), ((3, "ann"),))

    def test_the_holds_stay_as_they_were(self):
        holds = [(2, "dan"), (1, "cid"), (2, "dan"), (99, "zoe")]
        before = list(holds)
        first = performed(cut(SHORT, self.counts), holds)
        self.assertEqual(holds, before)
        holds.clear()
        self.assertEqual(first, (SHORT, ("done", 12, ())))


class Whatever(Performing):
    def test_the_books_stay_as_they_were(self):
        for books in [cut(SHORT, SHORT_SIZES), cut(SHORT, alike(SHORT, 1))] + drawn_books()[:30]:
            before = copy.deepcopy(books)
            order = list(books)
            first = performed(books, [(3, "ann")])
            second = performed(books)
            self.assertEqual(books, before)
            self.assertEqual(list(books), order)
            self.assertEqual(performed(books, [(3, "ann")]), first)
            self.assertEqual(performed(books), second)

    def test_the_order_of_the_books_does_not_matter(self):
        for books in drawn_books()[:60]:
            turned = dict(reversed(list(books.items())))
            self.assertEqual(performed(turned), performed(books))

    def test_drawn_books(self):
        kinds = {}
        for books in drawn_books():
            found = performed(books)
            self.assertEqual(found, plain_performed(books))
            kinds[found[1][0]] = kinds.get(found[1][0], 0) + 1
        self.assertEqual(sorted(kinds), ["break", "clash", "done", "silence"])
        self.assertGreater(min(kinds.values()), 5)

    def test_drawn_holds(self):
        numbers = numbers_from(17)
        kinds = {}
        for seed in range(200):
            play = long_play(seed, 3 + seed % 12, 2 + seed % 5)
            counts = drawn_counts(play, seed)
            holds = [(place, name) for place, name, _ in false_moments(play, counts)]
            holds = [hold for hold in holds if next(numbers) % 4]
            holds.extend((next(numbers) % 20, NAMES[next(numbers) % 5]) for _ in range(seed % 4))
            found = performed(cut(play, counts), holds)
            self.assertEqual(found, plain_performed(cut(play, counts), holds))
            kinds[found[1][0]] = kinds.get(found[1][0], 0) + 1
        self.assertEqual(sorted(kinds), ["break", "clash", "done", "silence"])

    def test_what_is_spoken_is_of_tuples(self):
        for books in drawn_books():
            spoken, (kind, place, names) = performed(books)
            self.assertIsInstance(spoken, tuple)
            for speech in spoken:
                self.assertEqual([type(part) for part in (speech,) + speech], [tuple] * 3)
            self.assertEqual(place, sum(len(words) for _, words in spoken))
            self.assertIsInstance(names, tuple)
            self.assertEqual(names, tuple(sorted(set(names))))
            self.assertEqual(names == (), kind == "done")


if __name__ == "__main__":
    unittest.main()
