import copy
import unittest

from cuebook.books import alike, cut, is_books, sizes, whole_counts
from cuebook.plays import names_in
from samples import NAMES, SHORT, SHORT_SIZES, Strange, long_plays, looped, nested, odd_things, plain_window

FIRST = ((), ("ann",), ("to", "be"))
LATER = (("or", "not"), ("ann", "cid"), ("be",))

SHORT_BOOKS = {
    "ann": (
        ((), ("ann",), ("to", "be")),
        (("not", "to"), ("ann", "cid"), ("be",)),
        (("is", "the", "question"), ("ann", "eve"), ("to", "be")),
    ),
    "bob": (
        (("be",), ("bob",), ("or", "not", "to")),
        (("that", "is"), ("bob", "cid"), ("the", "question")),
    ),
    "cid": (
        (("to", "be", "or", "not", "to"), ("ann", "cid"), ("be",)),
        (("is",), ("bob", "cid"), ("the", "question")),
    ),
    "dan": ((("not", "to", "be"), ("dan",), ("that", "is")),),
    "eve": ((("question",), ("ann", "eve"), ("to", "be")),),
}

SHORT_COUNTS = ((0,), (1,), (2, 5), (3,), (2, 1), (3, 1))


class Cutting(unittest.TestCase):
    def test_which_entries_with_which_cues(self):
        self.assertEqual(cut(SHORT, SHORT_COUNTS), SHORT_BOOKS)

    def test_no_speeches(self):
        self.assertEqual(cut((), ()), {})

    def test_a_first_speech_alone(self):
        play = ((("ann", "bob"), ("hello", "you")),)
        entries = (((), ("ann", "bob"), ("hello", "you")),)
        self.assertEqual(cut(play, ((0, 0),)), {"ann": entries, "bob": entries})

    def test_whole_windows(self):
        books = cut(SHORT, SHORT_SIZES)
        self.assertEqual(books["ann"][2][0], ("that", "is", "the", "question"))
        self.assertEqual(books["dan"][0][0], ("to", "be", "or", "not", "to", "be"))

    def test_longer_plays(self):
        for play in long_plays():
            for counts in [alike(play, 1), alike(play, 3), alike(play, 30), whole_counts(play)]:
                wanted = {}
                for at, (names, words) in enumerate(play):
                    for name, many in zip(names, counts[at]):
                        heard = plain_window(play, at, name)
                        cue = heard[len(heard) - many:]
                        wanted[name] = wanted.get(name, ()) + ((cue, names, words),)
                books = cut(play, counts)
                self.assertEqual(books, wanted)
                self.assertIs(is_books(books), True)
                self.assertEqual(tuple(sorted(books)), names_in(play))

    def test_kinds(self):
        books = cut(SHORT, SHORT_COUNTS)
        self.assertIsInstance(books, dict)
        for entries in books.values():
            self.assertIsInstance(entries, tuple)
            for entry in entries:
                self.assertIsInstance(entry, tuple)
                for part in entry:
                    self.assertIsInstance(part, tuple)

    def test_a_told_dict_is_the_askers_own(self):
        first = cut(SHORT, SHORT_COUNTS)
        first["ann"] = ()
        first["zoe"] = first.pop("bob")
        self.assertEqual(cut(SHORT, SHORT_COUNTS), SHORT_BOOKS)
        empty = cut((), ())
        empty["ann"] = ()
        self.assertEqual(cut((), ()), {})


class BeingBooks(unittest.TestCase):
    def right(self, thing):
        self.assertIs(is_books(thing), True)

    def wrong(self, thing):
        self.assertIs(is_books(thing), False)

    def wrong_entry(self, entry):
        self.wrong({"ann": (entry,)})
        self.wrong({"ann": (FIRST, entry)})
        self.wrong({"ann": (entry, LATER)})
        self.wrong({"bob": SHORT_BOOKS["bob"], "ann": (FIRST, LATER, entry, LATER)})

    def test_books(self):
        self.right({})
        self.right(SHORT_BOOKS)
        self.right({"ann": (FIRST,)})
        self.right({"ann": (LATER,)})
        self.right({"ann": (FIRST, LATER, LATER)})

    def test_books_of_no_play(self):
        self.right({"ann": (LATER, LATER), "bob": (((), ("bob",), ("a",)),)})
        self.right({"ann": ((("a",), ("ann", "bob"), ("b",)),)})

    def test_many(self):
        self.right({"ann": (FIRST,) + (LATER,) * 600})
        self.right({"ann": ((("a",) * 600, ("ann",), ("b",) * 600),)})
        self.right({name: (((), (name,), ("a",)),) for name in NAMES + ("ida", "jon")})
        self.right({name: (((), NAMES, ("a",)),) for name in NAMES})

    def test_no_dict(self):
        for thing in [None, 7, [], (), ("ann",), tuple(SHORT_BOOKS.items()), list(SHORT_BOOKS.items()), "ann", SHORT]:
            self.wrong(thing)

    def test_keys_that_are_no_names(self):
        for key in ["", "Ann", "an n", "abcdefghi", "ann\n", None, 7, True, (), ("ann",), Strange()]:
            self.wrong({key: (FIRST,)})
            self.wrong({"ann": (FIRST,), key: (FIRST,)})
            self.wrong({key: ((("a",), (key,), ("b",)),)})

    def test_entries_that_are_no_tuple(self):
        for entries in [None, 7, True, "ann", [], [FIRST], {}, {0: FIRST}, {FIRST}, Strange(), looped()]:
            self.wrong({"ann": entries})
            self.wrong({"bob": SHORT_BOOKS["bob"], "ann": entries})
            self.wrong({"ann": entries, "bob": SHORT_BOOKS["bob"]})

    def test_no_entries(self):
        self.wrong({"ann": ()})
        self.wrong({"ann": (FIRST,), "bob": ()})

    def test_what_is_no_entry(self):
        for entry in [None, 7, "abc", (), LATER[:2], LATER + (("a",),), list(LATER), {}, Strange()]:
            self.wrong_entry(entry)

    def test_cues(self):
        for cue in [["or"], "or", None, 7, ("Or",), ("or", ""), ("abcdefghijklm",), (None,), (("or",),), {"or": 1}, True]:
            self.wrong_entry((cue, ("ann",), ("be",)))

    def test_an_empty_cue_only_in_a_first_entry(self):
        for many in range(1, 5):
            entries = [FIRST] + [LATER] * many
            self.right({"ann": tuple(entries)})
            for number in range(1, many + 1):
                self.wrong({"ann": tuple(entries[:number] + [FIRST] + entries[number + 1:])})

    def test_names(self):
        for names in [
            (), ["ann"], "ann", None, 7, ("bob", "ann"), ("ann", "ann"), ("ann", "Bob"), ("ann", None), ("ann", ("bob",)),
            ("ann", "abcdefghi"), NAMES + ("ida",), {"ann": 1}, (Strange(), "ann"),
        ]:
            self.wrong_entry((("or",), names, ("be",)))

    def test_the_own_name_among_the_names(self):
        for names in [("bob",), ("an", "anna"), ("bob", "cid")]:
            self.wrong_entry((("or",), names, ("be",)))
        self.wrong({"bob": (FIRST,)})

    def test_words(self):
        for words in [(), ["be"], "be", None, 7, ("Be",), ("be", ""), ("abcdefghijklm",), ("be", None), (("be",),), {"be": 1}]:
            self.wrong_entry((("or",), ("ann",), words))

    def test_things_of_any_kind(self):
        for number, thing in enumerate(odd_things() + [nested(100000)]):
            with self.subTest(number):
                self.wrong(thing)
                self.wrong({"ann": thing})
                self.wrong_entry(thing)
                self.wrong_entry((thing, ("ann",), ("be",)))
                self.wrong_entry((("or",), thing, ("be",)))
                self.wrong_entry((("or",), ("ann",), thing))

    def test_what_is_handed_in_stays(self):
        books = copy.deepcopy(SHORT_BOOKS)
        is_books(books)
        sizes(books)
        self.assertEqual(books, SHORT_BOOKS)
        self.assertEqual(list(books), list(SHORT_BOOKS))


class Sizes(unittest.TestCase):
    def test_sizes(self):
        self.assertEqual(sizes({}), {})
        self.assertEqual(sizes(SHORT_BOOKS), {"ann": (0, 2, 3), "bob": (1, 2), "cid": (5, 1), "dan": (3,), "eve": (1,)})

    def test_of_longer_plays(self):
        for play in long_plays():
            counts = alike(play, 4)
            wanted = {name: () for name in names_in(play)}
            for at, (names, _) in enumerate(play):
                for name, many in zip(names, counts[at]):
                    wanted[name] += (many,)
            self.assertEqual(sizes(cut(play, counts)), wanted)

    def test_a_told_dict_is_the_askers_own(self):
        books = copy.deepcopy(SHORT_BOOKS)
        told = sizes(books)
        told["ann"] = ()
        told.pop("bob")
        self.assertEqual(books, SHORT_BOOKS)
        self.assertEqual(sizes(books)["ann"], (0, 2, 3))
        self.assertEqual(sizes(books)["bob"], (1, 2))
        none = sizes({})
        none["ann"] = ()
        self.assertEqual(sizes({}), {})


if __name__ == "__main__":
    unittest.main()
