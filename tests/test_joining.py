import collections
import copy
import itertools
import unittest

from cuebook.books import alike, cut, is_books, is_counts, whole_counts
from cuebook.errors import Apart, NoBooks
from cuebook.joining import joined, plays_of
from cuebook.matching import false_moments, least
from cuebook.plays import is_name, is_play
from cuebook.stage import performed
from drawn import counts_as_in, drawn_books, drawn_pairs, drawn_plays, small_books
from samples import (
    NAMES, SHORT, SHORT_SIZES, Strange, drawn_counts, long_play, looped, nested, odd_things, refusals_of,
)

ANN = ((), ("ann",), ("a",))
BOB = (("a",), ("bob",), ("a",))
CID = (("a",), ("cid",), ("a",))


def is_cut_into(play, books):
    if not is_play(play):
        return False
    counts = counts_as_in(play, books)
    return is_counts(play, counts) and cut(play, counts) == books


def plain_plays(books):
    """All plays of books, looked for among all orders of all their speeches."""
    times = collections.Counter(entry[1:] for entries in books.values() for entry in entries)
    speeches = []
    for speech, many in times.items():
        if many % len(speech[0]):
            return []
        speeches.extend([speech] * (many // len(speech[0])))
    return [play for play in set(itertools.permutations(speeches)) if is_cut_into(play, books)]


def plain_amiss(thing):
    """What NoBooks tells of a dict with keys of any kind, straight by its definition."""
    if not all(isinstance(key, str) for key in thing):
        return None
    return min(key for key in thing if not is_name(key) or not is_books({key: thing[key]}))


class Refusing(unittest.TestCase):
    def no_books(self, thing, name):
        for asked in (joined, plays_of):
            with self.assertRaises(NoBooks) as taken:
                asked(thing)
            self.assertEqual(vars(taken.exception), {"name": name})
            self.assertEqual(refusals_of(taken.exception), ["CueError", "NoBooks"])
            self.assertIsInstance(taken.exception, ValueError)

    def apart(self, books, kind, place, names):
        with self.assertRaises(Apart) as taken:
            joined(books)
        self.assertEqual(vars(taken.exception), {"kind": kind, "place": place, "names": names})
        self.assertEqual(refusals_of(taken.exception), ["CueError", "Apart"])
        self.assertIsInstance(taken.exception, ValueError)
        self.assertIs(type(taken.exception.names), tuple)


class NoBooksAtAll(Refusing):
    def test_no_dict(self):
        books = cut(SHORT, SHORT_SIZES)
        for thing in [None, 7, [], (), "ann", True, list(books), list(books.items()), tuple(books.items()), SHORT]:
            self.no_books(thing, None)

    def test_things_of_any_kind(self):
        for number, thing in enumerate(odd_things() + [nested(100000)]):
            with self.subTest(number):
                if not isinstance(thing, dict):
                    self.no_books(thing, None)
                else:
                    self.no_books(thing, plain_amiss(thing))
                self.no_books({"ann": thing}, "ann")
                self.no_books({"bob": (BOB,), "ann": (thing,), "cid": (CID,)}, "ann")
                self.no_books({"ann": (ANN,), "bob": (BOB, thing)}, "bob")
                self.no_books({"ann": (ANN,), "bob": ((thing, ("bob",), ("a",)),)}, "bob")
                self.no_books({"ann": (ANN,), "bob": ((("a",), thing, ("a",)),)}, "bob")
                self.no_books({"ann": (ANN,), "bob": ((("a",), ("bob",), thing),)}, "bob")

    def test_a_key_that_is_no_name(self):
        for key in ["", "Ann", "an n", "abcdefghi", "ann\n", "~", "7"]:
            self.no_books({key: (ANN,)}, key)
            self.no_books({"ann": (ANN,), key: ((("a",), (key,), ("b",)),)}, key)
            self.no_books({key: (), "ann": (ANN,)}, key)

    def test_entries_that_are_not_as_told(self):
        wrong = [
            None, 7, "ann", [], [ANN], (), ANN, ((),), (ANN, None), (ANN, ANN), (list(ANN),), ({},), (BOB,), looped(),
            (((), ("ann",), ()),), (((), ("ann",), ("A",)),), (((), ("ann", "ann"), ("a",)),), (((), ["ann"], ("a",)),),
            ((["a"], ("ann",), ("a",)),), (((), ("bob", "ann"), ("a",)),), (ANN[:2],), (ANN + (("a",),),), Strange(),
        ]
        for number, entries in enumerate(wrong):
            with self.subTest(number):
                self.no_books({"ann": entries}, "ann")
                self.no_books({"bob": (BOB,), "ann": entries}, "ann")
                self.no_books({"ann": entries, "bob": (BOB,)}, "ann")

    def test_the_least_key_of_several(self):
        self.no_books({"cid": (), "bob": None, "ann": (ANN,)}, "bob")
        self.no_books({"bob": None, "cid": (), "ann": (ANN,)}, "bob")
        self.no_books({"bob": (BOB,), "cid": (), "ann": [ANN]}, "ann")
        self.no_books({"ann": (), "Bob": (BOB,), "cid": (CID,)}, "Bob")
        self.no_books({"ann": (), "": (BOB,)}, "")
        self.no_books({"zoe": (), "ann": (ANN,), "annannann": (ANN,)}, "annannann")
        self.no_books({"b": (), "ab": (), "abc": (), "aba": (), "a": ((("a",), ("a",), ("b",)),)}, "ab")

    def test_one_amiss_among_eight(self):
        right = {name: ((("a",), (name,), ("a",)),) for name in NAMES}
        for name in NAMES:
            self.no_books(right | {name: ()}, name)
            self.no_books(right | {name: ((("a",), ("zoe",), ("a",)),)}, name)

    def test_keys_that_are_not_all_texts(self):
        for key in [None, 7, True, 1.5, (), ("ann",), b"ann", frozenset(), Strange()]:
            self.no_books({key: (ANN,)}, None)
            self.no_books({key: ()}, None)
            self.no_books({"ann": (ANN,), key: (ANN,)}, None)
            self.no_books({key: None, "ann": (), "": ()}, None)
            self.no_books({"ann": (), "bob": None, key: (ANN,)}, None)

    def test_what_is_refused_stays(self):
        things = [{"cid": [], "bob": [BOB], "ann": (ANN,)}, [["ann"]], {"ann": [[], ["ann"], ["a"]]}, {7: [], "ann": ()}]
        before = copy.deepcopy(things)
        for thing in things:
            for asked in (joined, plays_of):
                self.assertRaises(NoBooks, asked, thing)
        self.assertEqual(things, before)
        self.assertEqual(list(things[0]), ["cid", "bob", "ann"])


class Joined(Refusing):
    def test_no_books(self):
        self.assertEqual(joined({}), ())
        self.assertIs(type(joined({})), tuple)

    def test_a_short_play(self):
        for counts in [SHORT_SIZES, least(SHORT), alike(SHORT, 3), ((0,), (1,), (2, 5), (3,), (2, 1), (3, 1))]:
            self.assertEqual(joined(cut(SHORT, counts)), SHORT)

    def test_one_speech(self):
        play = ((NAMES, ("hello", "you")),)
        self.assertEqual(joined(cut(play, ((0,) * 8,))), play)

    def test_the_order_of_the_names_does_not_matter(self):
        books = cut(SHORT, SHORT_SIZES)
        self.assertEqual(joined(dict(reversed(list(books.items())))), SHORT)

    def test_a_break(self):
        self.apart(cut(SHORT, alike(SHORT, 1)), "break", 1, ("cid",))
        entry = (("b",), ("bob", "cid"), ("x",))
        books = {"cid": (entry,), "bob": (entry,), "ann": (((), ("ann",), ("a", "b", "c")),)}
        self.apart(books, "break", 2, ("bob", "cid"))

    def test_a_clash(self):
        self.apart(cut(SHORT, alike(SHORT, 2)), "clash", 2, ("bob", "dan"))
        self.apart({"cid": (CID,), "bob": (BOB,), "ann": (ANN,)}, "clash", 1, ("bob", "cid"))
        self.apart({"bob": (((), ("bob",), ("a",)),), "ann": (ANN,)}, "clash", 0, ("ann", "bob"))
        self.apart({"ann": (((), ("ann", "bob"), ("a",)),)}, "clash", 0, ("ann",))

    def test_a_silence(self):
        books = cut(SHORT, SHORT_SIZES)
        books.pop("bob")
        self.apart(books, "silence", 2, ("ann", "cid", "dan", "eve"))
        self.apart({"bob": (BOB,)}, "silence", 0, ("bob",))
        self.apart({"bob": (BOB, BOB), "ann": (ANN,)}, "silence", 2, ("bob",))
        self.apart({"ann": (ANN,), "bob": ((("a", "a"), ("bob",), ("b",)),)}, "silence", 1, ("bob",))

    def test_books_of_drawn_plays(self):
        good = 0
        for play, counts in drawn_pairs():
            books = cut(play, counts)
            if false_moments(play, counts) == ():
                good += 1
                self.assertEqual(joined(books), play)
            else:
                self.apart(books, *performed(books)[1])
        self.assertGreater(good, 150)
        self.assertGreater(len(drawn_pairs()) - good, 150)

    def test_drawn_books_of_no_play_among_them(self):
        kinds = collections.Counter()
        for books in drawn_books() + small_books():
            spoken, end = performed(books)
            kinds[end[0]] += 1
            if end[0] == "done":
                self.assertEqual(joined(books), spoken)
                self.assertIs(is_play(joined(books)), True)
            else:
                self.apart(books, *end)
        self.assertEqual(sorted(kinds), ["break", "clash", "done", "silence"])
        self.assertGreater(min(kinds.values()), 20)

    def test_large_books(self):
        play = ((("ann",), ("a",)), (("bob",), ("b",))) * 250
        self.assertEqual(joined(cut(play, alike(play, 1))), play)

    def test_what_is_handed_in_stays(self):
        for counts in [SHORT_SIZES, alike(SHORT, 1)]:
            books = cut(SHORT, counts)
            for asked in (joined, plays_of):
                before = copy.deepcopy(books)
                order = list(books)
                try:
                    asked(books)
                except Apart:
                    pass
                self.assertEqual(books, before)
                self.assertEqual(list(books), order)

    def test_nothing_is_kept(self):
        books = cut(SHORT, SHORT_SIZES)
        for asked, wanted in [(joined, SHORT), (plays_of, (SHORT,))]:
            first = asked(books)
            other = cut(SHORT[:2], SHORT_SIZES[:2])
            self.assertNotEqual(asked(other), first)
            self.assertEqual(asked(books), wanted)
            self.assertEqual(first, wanted)
        first = plays_of(books)
        books.clear()
        self.assertEqual(first, (SHORT,))
        self.assertEqual((joined(books), plays_of(books)), ((), ((),)))


class PlaysOf(unittest.TestCase):
    def tells(self, books, wanted):
        """Of the plays that are all there are, as many as may be told, and each once."""
        found = plays_of(books)
        self.assertIs(type(found), tuple)
        self.assertEqual(len(found), min(2, len(wanted)))
        self.assertEqual(len(set(found)), len(found))
        self.assertLessEqual(set(found), set(wanted))
        for play in found:
            self.assertIs(is_cut_into(play, books), True)

    def by_turns(self, *names):
        return tuple(((name,), ("a",)) for name in names)

    def test_no_books(self):
        self.tells({}, [()])
        self.assertEqual(plays_of({}), ((),))

    def test_the_only_one(self):
        self.tells(cut(SHORT, SHORT_SIZES), [SHORT])
        self.tells(cut(SHORT, least(SHORT)), [SHORT])
        self.tells({"ann": (ANN,)}, [self.by_turns("ann")])
        self.tells({"bob": (BOB,), "ann": (ANN,)}, [self.by_turns("ann", "bob")])

    def test_the_only_one_though_it_is_not_spoken_to_the_end(self):
        for many in (1, 2):
            self.assertRaises(Apart, joined, cut(SHORT, alike(SHORT, many)))
            self.tells(cut(SHORT, alike(SHORT, many)), [SHORT])
        books = {"ann": (((), ("ann",), ("a", "a", "a")),), "bob": (BOB,)}
        self.tells(books, [((("ann",), ("a", "a", "a")), (("bob",), ("a",)))])

    def test_two(self):
        books = {"ann": (ANN,), "bob": (BOB,), "cid": (CID,)}
        self.tells(books, [self.by_turns("ann", "bob", "cid"), self.by_turns("ann", "cid", "bob")])
        self.assertEqual(len(plays_of(books)), 2)

    def test_two_of_many(self):
        books = {name: ((("a",) if name != "ann" else (), (name,), ("a",)),) for name in NAMES}
        wanted = [self.by_turns("ann", *order) for order in itertools.permutations(NAMES[1:])]
        self.assertEqual(len(wanted), 5040)
        self.tells(books, wanted)

    def test_none_of_many_orders(self):
        books = {name: ((("a",) if name != "ann" else (), (name,), ("a",)),) for name in NAMES}
        books["hal"] = ((("b",), ("hal",), ("a",)),)
        self.tells(books, [])

    def test_no_one_begins(self):
        self.tells({"bob": (BOB,)}, [])
        self.tells({"bob": (BOB,), "cid": (CID,)}, [])

    def test_two_begin(self):
        self.tells({"ann": (ANN,), "bob": (((), ("bob",), ("a",)),)}, [])
        self.tells({"ann": (((), ("ann", "bob"), ("a",)),), "bob": (((), ("ann", "bob"), ("b",)),)}, [])

    def test_the_empty_cue_is_that_of_the_first_speech_alone(self):
        books = {"ann": (ANN,), "bob": (((), ("bob",), ("b",)), (("a",), ("bob",), ("c",)))}
        self.tells(books, [])
        both = ("ann", "bob")
        self.tells({"ann": (ANN, (("b",), both, ("c",))), "bob": (((), both, ("c",)),), "cid": (CID,)}, [])
        self.tells({"ann": (((), both, ("c",)),), "bob": ((("a",), both, ("c",)),), "cid": (((), ("cid",), ("a",)),)}, [])

    def test_a_name_without_a_book(self):
        books = cut(SHORT, SHORT_SIZES)
        books.pop("eve")
        self.tells(books, [])
        self.tells({"ann": (((), ("ann", "bob"), ("a",)),)}, [])
        self.tells({"bob": (((), ("ann", "bob"), ("a",)),)}, [])

    def test_a_name_too_many(self):
        books = cut(SHORT, SHORT_SIZES)
        books["zoe"] = ((("zz",), ("zoe",), ("a",)),)
        self.tells(books, [])

    def test_nobody_speaks_twice_running(self):
        self.tells({"ann": (ANN, (("a",), ("ann",), ("b",)))}, [])
        self.tells({"ann": (ANN,), "bob": (BOB, BOB)}, [])
        books = {"ann": (ANN,), "bob": (BOB, BOB), "cid": (CID,)}
        self.tells(books, [self.by_turns("ann", "bob", "cid", "bob")])

    def test_a_cue_is_heard_since_the_last_speech(self):
        books = {"ann": (ANN, (("a", "b"), ("ann",), ("c",))), "bob": ((("a",), ("bob",), ("b",)),)}
        self.tells(books, [])
        books["ann"] = (ANN, (("b",), ("ann",), ("c",)))
        self.tells(books, [((("ann",), ("a",)), (("bob",), ("b",)), (("ann",), ("c",)))])

    def test_a_cue_that_is_longer_than_the_window(self):
        self.tells({"ann": (ANN,), "bob": ((("a", "a"), ("bob",), ("b",)),)}, [])
        books = {"ann": (ANN,), "bob": ((("a", "a"), ("bob",), ("b",)),), "cid": (CID,)}
        self.tells(books, [((("ann",), ("a",)), (("cid",), ("a",)), (("bob",), ("b",)))])

    def test_a_cue_from_which_words_are_left_for_later(self):
        books = {
            "ann": (((), ("ann",), ("a", "b")),),
            "bob": ((("a", "b", "c"), ("bob",), ("d",)),),
            "cid": ((("b",), ("cid",), ("c",)), (("c", "d"), ("cid",), ("e",))),
        }
        self.tells(books, [])
        books["cid"] = ((("b",), ("cid",), ("c",)), (("d",), ("cid",), ("e",)))
        self.tells(books, [((("ann",), ("a", "b")), (("cid",), ("c",)), (("bob",), ("d",)), (("cid",), ("e",)))])

    def test_unlike_cues_of_those_who_speak_together(self):
        play = ((("ann",), ("a", "b")), (("bob", "cid"), ("c",)))
        books = {"ann": (((),) + play[0],), "cid": ((("a", "b"),) + play[1],), "bob": ((("b",),) + play[1],)}
        self.tells(books, [play])
        books["cid"] = ((("a",),) + play[1],)
        self.tells(books, [])

    def test_those_who_speak_together_have_the_same_words(self):
        books = {
            "ann": (ANN,),
            "bob": ((("a",), ("bob", "cid"), ("b",)),),
            "cid": ((("a",), ("bob", "cid"), ("c",)),),
        }
        self.tells(books, [])
        books["cid"] = ((("a",), ("bob", "cid"), ("b",)), (("d",), ("cid", "dan"), ("b",)))
        books["dan"] = ((("b",), ("dan",), ("d",)), (("b",), ("cid", "dan"), ("b",)))
        self.tells(books, [])

    def test_plays_that_part_late(self):
        play = ((("ann",), ("a",)), (("bob",), ("b",)), (("ann",), ("c",)), (("bob",), ("d",)))
        books = cut(play, whole_counts(play))
        books["cid"] = ((("d",), ("cid",), ("d",)),)
        books["dan"] = ((("d",), ("dan",), ("d",)),)
        ends = [((("cid",), ("d",)), (("dan",), ("d",))), ((("dan",), ("d",)), (("cid",), ("d",)))]
        self.tells(books, [play + end for end in ends])

    def test_plays_that_part_early_and_meet_again(self):
        end = ((("dan",), ("b",)), (("eve",), ("c",)))
        wanted = [self.by_turns("ann", *order) + end for order in itertools.permutations(("bob", "cid"))]
        books = {"ann": (ANN,), "bob": (BOB,), "cid": (CID,), "dan": ((("a", "a", "a"), ("dan",), ("b",)),)}
        books["eve"] = ((("b",), ("eve",), ("c",)),)
        self.tells(books, wanted)
        books["eve"] = ((("a", "a", "a", "a", "b"), ("eve",), ("c",)),)
        self.tells(books, [])

    def test_against_all_orders(self):
        many = collections.Counter()
        for books in small_books():
            wanted = plain_plays(books)
            self.tells(books, wanted)
            many[min(3, len(wanted))] += 1
        self.assertEqual(sorted(many), [0, 1, 2, 3])
        self.assertGreater(min(many.values()), 10)

    def test_the_order_of_the_names_does_not_matter(self):
        for books in small_books()[::5]:
            self.assertEqual(set(plays_of(dict(reversed(list(books.items()))))), set(plays_of(books)))

    def test_the_play_is_one_of_them(self):
        for seed in range(60):
            play = long_play(seed, 1 + seed % 6, 2 + seed % 4)
            for counts in [alike(play, 1), alike(play, 2), drawn_counts(play, seed), whole_counts(play)]:
                books = cut(play, counts)
                found = plays_of(books)
                self.assertTrue(play in found or len(found) == 2)
                for other in found:
                    self.assertIs(is_cut_into(other, books), True)

    def test_more_than_eight_entries(self):
        for play in drawn_plays():
            self.tells(cut(play, least(play)), [play])
        play = ((("ann",), ("a",)), (("bob",), ("b",))) * 250
        self.tells(cut(play, alike(play, 1)), [play])

    def test_long_speeches(self):
        many = 500
        play = ((("ann",), ("a",) * many), (("bob",), ("a",) * many), (("cid",), ("a",) * many), (("ann",), ("b",)))
        self.tells(cut(play, whole_counts(play)), [play])
        found = plays_of(cut(play, alike(play, many)))
        self.assertEqual(set(found), {play, (play[0], play[2], play[1], play[3])})


if __name__ == "__main__":
    unittest.main()
