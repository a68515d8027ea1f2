import re
import unittest

from cuebook.books import alike, cut, is_book, whole_counts
from cuebook.errors import NoText
from cuebook.matching import least
from cuebook.plays import is_play
from cuebook.texts import book_rows, play_rows, read_book, read_play
from drawn import drawn_books, drawn_plays, small_books
from rows import NO_SPEECH, with_one_sign_changed
from samples import NAMES, SHORT, SHORT_SIZES, nested, odd_things, refusals_of

SHORT_ROWS = (
    "ann: to be",
    "bob: or not to",
    "ann cid: be",
    "dan: that is",
    "bob cid: the question",
    "ann eve: to be",
)

ANN_ROWS = (
    "> ann: to be",
    "or not to > ann cid: be",
    "that is the question > ann eve: to be",
)

SPEECH = r"[a-z]{1,8}( [a-z]{1,8}){0,7}:( [a-z]{1,12})+"

# Rows that are right, of which others are made by one sign more, fewer, or unlike.
SAMPLE_ROWS = ("ann: be", "a b c: d e f", "abcdefgh: abcdefghijkl", " ".join(NAMES) + ": to be")

# Rows that are written like no entry of zoe.
NO_ENTRY = {
    "a row of a play": "zoe: hello",
    "no blank behind the sign": ">zoe: hello",
    "two blanks behind the sign": ">  zoe: hello",
    "a blank ahead of the sign": " > zoe: hello",
    "no blank ahead of the sign": "be> zoe: hello",
    "no blanks round the sign": "be>zoe: hello",
    "two blanks ahead of the sign": "be  > zoe: hello",
    "two blanks in the cue": "be  or > zoe: hello",
    "a blank ahead of the cue": " be > zoe: hello",
    "two signs": "> > zoe: hello",
    "two signs together": ">> zoe: hello",
    "two signs together behind a cue": "be >> zoe: hello",
    "two signs, each behind a word": "be > or > zoe: hello",
    "a sign behind": "be > zoe: hello >",
    "a sign among the words": "be > zoe: hello > there",
    "a sign without a speech": "be > ",
    "a sign alone": ">",
    "a sign and a blank alone": "> ",
    "a cue alone": "be or",
    "a tab behind the sign": ">\tzoe: hello",
    "a tab ahead of the sign": "be\t> zoe: hello",
    "a tab in the cue": "be\tor > zoe: hello",
    "a line end ahead of the sign": "be\n> zoe: hello",
    "a line end ahead of the row": "\n> zoe: hello",
    "a capital in the cue": "Be > zoe: hello",
    "a figure in the cue": "be 2 > zoe: hello",
    "a colon in the cue": "be: > zoe: hello",
    "a word of thirteen letters in the cue": "abcdefghijklm > zoe: hello",
    "a colon in the place of the sign": "be : zoe: hello",
    "names without the name": "be > ann: hello",
    "several names without the name": "be > ann bob: hello",
    "the name in the cue alone": "zoe > ann: hello",
    "the name in the words alone": "be > ann: zoe",
    "the name within a longer one": "be > zoey: hello",
    "the name within another name": "be > azoe: hello",
}


def plain_speech(row):
    """The speech that is written in a row, or None."""
    if not re.fullmatch(SPEECH, row):
        return None
    names, words = [tuple(part.split()) for part in row.split(":")]
    return (names, words) if list(names) == sorted(set(names)) else None


def plain_entry(row):
    """The entry that is written in a row, or None."""
    if not re.fullmatch("([a-z]{1,12} )*> " + SPEECH, row):
        return None
    cue, rest = row.split("> ")
    speech = plain_speech(rest)
    return (tuple(cue.split()),) + speech if speech else None


class Texts(unittest.TestCase):
    def no_text(self, number, asked):
        with self.assertRaises(NoText) as taken:
            asked()
        self.assertEqual(vars(taken.exception), {"row": number})
        self.assertIs(type(taken.exception.row), int)
        self.assertEqual(refusals_of(taken.exception), ["CueError", "NoText"])
        self.assertIsInstance(taken.exception, ValueError)


class Writing(Texts):
    def test_a_play(self):
        self.assertEqual(play_rows(SHORT), SHORT_ROWS)
        self.assertEqual(play_rows(()), ())
        self.assertEqual(play_rows(((("a",), ("b",)),)), ("a: b",))
        self.assertEqual(play_rows(((NAMES, ("a",) * 3),)), ("ann bob cid dan eve fay gus hal: a a a",))

    def test_books(self):
        self.assertEqual(book_rows((((), ("ann",), ("hello",)),)), ("> ann: hello",))
        self.assertEqual(
            book_rows(((("be", "or"), ("ann", "bob"), ("hello", "there")),)), ("be or > ann bob: hello there",)
        )
        books = cut(SHORT, SHORT_SIZES)
        self.assertEqual(book_rows(books["ann"]), ANN_ROWS)
        self.assertEqual(book_rows(cut(SHORT, alike(SHORT, 1))["dan"]), ("be > dan: that is",))
        self.assertEqual(book_rows(()), ())

    def test_kinds(self):
        for rows in (play_rows(SHORT), book_rows(cut(SHORT, SHORT_SIZES)["cid"])):
            self.assertIs(type(rows), tuple)
            self.assertEqual({type(row) for row in rows}, {str})

    def test_every_row_is_written_as_told(self):
        for play in drawn_plays():
            self.assertEqual(tuple(plain_speech(row) for row in play_rows(play)), play)
            for entries in cut(play, whole_counts(play)).values():
                self.assertEqual(tuple(plain_entry(row) for row in book_rows(entries)), entries)


class ReadingPlays(Texts):
    def test_rows(self):
        self.assertEqual(read_play(SHORT_ROWS), SHORT)
        self.assertEqual(read_play(list(SHORT_ROWS)), SHORT)
        self.assertEqual(read_play(["a: b"]), ((("a",), ("b",)),))

    def test_no_rows(self):
        self.assertEqual(read_play([]), ())
        self.assertEqual(read_play(()), ())

    def test_what_is_written_is_read_again(self):
        for play in drawn_plays():
            self.assertEqual(read_play(play_rows(play)), play)
            self.assertEqual(read_play(list(play_rows(play))), play)

    def test_a_row_that_is_amiss(self):
        for what, row in NO_SPEECH.items():
            with self.subTest(what):
                self.no_text(0, lambda: read_play([row]))
                self.no_text(0, lambda: read_play((row, "ann: hello")))
                self.no_text(1, lambda: read_play(["ann: hello", row, "bob: hello"]))
                self.no_text(6, lambda: read_play(SHORT_ROWS + (row,)))

    def test_the_first_row_that_is_amiss(self):
        later = ["ann hello", "ann: again", None, "bob ann: hello"]
        for what, row in NO_SPEECH.items():
            with self.subTest(what):
                self.no_text(1, lambda: read_play(["ann: hello", row] + later))
                for other in later:
                    self.no_text(1, lambda: read_play(["ann: hello", "bob ann: hello", row, other]))
                    self.no_text(2, lambda: read_play(["ann: hello", "bob: a", "bob: hello", row, other]))

    def test_a_name_of_the_row_ahead(self):
        self.no_text(1, lambda: read_play(["ann: hello", "ann: hello"]))
        self.no_text(1, lambda: read_play(["ann: hello", "ann: hello", "ann: hello"]))
        self.no_text(2, lambda: read_play(["ann: hello", "bob cid: hello", "cid dan: hello", "bob:"]))
        self.no_text(2, lambda: read_play(["ann: hello", "bob: hello", "ann bob: hello"]))
        self.assertEqual(len(read_play(["ann: hello", "bob: hello", "ann: hello"])), 3)

    def test_a_name_of_a_row_that_is_amiss(self):
        self.no_text(0, lambda: read_play(["ann:", "ann: hello"]))

    def test_what_is_no_list_and_no_tuple(self):
        for thing in odd_things() + [{}, "ann: hello", {"ann: hello"}, {0: "ann: hello"}, iter(["ann: hello"])]:
            if not isinstance(thing, (list, tuple)):
                self.no_text(0, lambda: read_play(thing))

    def test_lists_and_tuples_of_other_things(self):
        for thing in odd_things():
            if isinstance(thing, (list, tuple)) and len(thing) > 0:
                self.no_text(0, lambda: read_play(thing))
        self.no_text(0, lambda: read_play(nested(100000)))

    def test_plays_are_no_rows(self):
        self.no_text(0, lambda: read_play(SHORT))
        self.no_text(1, lambda: read_play(SHORT_ROWS[:1] + SHORT[1:]))

    def test_longest_names_and_words(self):
        row = " ".join("abcdefg" + sign for sign in "abcdefgh") + ": abcdefghijkl z"
        self.assertEqual(play_rows(read_play([row])), (row,))

    def test_one_sign_changed(self):
        right = 0
        for sample in SAMPLE_ROWS:
            for row in with_one_sign_changed(sample):
                speech = plain_speech(row)
                if speech is None:
                    self.no_text(1, lambda: read_play(["zoe: hello", row]))
                else:
                    self.assertEqual(read_play(["zoe: hello", row]), ((("zoe",), ("hello",)), speech))
                    right += 1
        self.assertGreater(right, 100)

    def test_nothing_is_changed_or_kept(self):
        rows = list(SHORT_ROWS)
        play = read_play(rows)
        self.assertEqual(rows, list(SHORT_ROWS))
        rows.clear()
        self.assertEqual(play, SHORT)
        self.assertIs(is_play(play), True)


class ReadingBooks(Texts):
    def test_rows(self):
        books = cut(SHORT, SHORT_SIZES)
        self.assertEqual(read_book("ann", ANN_ROWS), books["ann"])
        self.assertEqual(read_book("ann", list(ANN_ROWS)), books["ann"])
        self.assertEqual(read_book("ann", ["> ann: hello"]), (((), ("ann",), ("hello",)),))
        self.assertEqual(
            read_book("bob", ["be or > ann bob: hello there"]), ((("be", "or"), ("ann", "bob"), ("hello", "there")),)
        )

    def test_no_rows(self):
        self.no_text(0, lambda: read_book("ann", []))
        self.no_text(0, lambda: read_book("ann", ()))

    def test_what_is_written_is_read_again(self):
        drawn = [cut(play, counts(play)) for play in drawn_plays() for counts in (least, whole_counts)]
        for books in drawn + drawn_books() + small_books():
            for name, entries in books.items():
                self.assertEqual(read_book(name, book_rows(entries)), entries)
                self.assertEqual(read_book(name, list(book_rows(entries))), entries)

    def test_a_first_row_with_a_cue_or_without_one(self):
        for row in ("> zoe: hello", "be > zoe: hello"):
            self.assertEqual(len(read_book("zoe", [row, "or > zoe: hello"])), 2)

    def test_no_cue_behind_the_first_row(self):
        self.no_text(1, lambda: read_book("zoe", ["> zoe: hello", "> zoe: hello"]))
        self.no_text(1, lambda: read_book("zoe", ["be > zoe: hello", "> zoe: hello", "> zoe: hello"]))
        self.no_text(2, lambda: read_book("zoe", ["be > zoe: hello", "or > zoe: hello", "> zoe: hello", "zoe"]))

    def test_rows_behind_one_another_may_have_the_same_names(self):
        row = "be > ann zoe: hello"
        self.assertEqual(read_book("zoe", [row, row]), ((("be",), ("ann", "zoe"), ("hello",)),) * 2)

    def test_a_row_that_is_amiss(self):
        for what, row in list(NO_ENTRY.items()) + [(what, NO_SPEECH[what]) for what in NO_SPEECH if "row" not in what]:
            with self.subTest(what):
                self.no_text(0, lambda: read_book("zoe", [row]))
                self.no_text(0, lambda: read_book("zoe", (row, "> zoe: hello")))
                self.no_text(1, lambda: read_book("zoe", ["> zoe: hello", row, "be > zoe: hello"]))
                self.no_text(2, lambda: read_book("zoe", ("> zoe: hello", "be > zoe: hello", row)))

    def test_a_speech_that_is_amiss(self):
        for what, row in NO_SPEECH.items():
            if isinstance(row, str):
                with self.subTest(what):
                    self.no_text(0, lambda: read_book("zoe", ["> " + row]))
                    self.no_text(1, lambda: read_book("zoe", ["> zoe: hello", "be " + "> " + row, None]))

    def test_the_first_row_that_is_amiss(self):
        amiss = ["zoe: hello", "be > ann: hello", "be > zoe ann: hello", None, 7, "be  > zoe: hello", "> zoe: hello"]
        for row in amiss:
            for other in amiss:
                self.no_text(1, lambda: read_book("zoe", ["> zoe: hello", row, other]))
                self.no_text(2, lambda: read_book("zoe", ["be > zoe: hello", "be > zoe: hello", row, other, row]))

    def test_what_is_no_list_and_no_tuple(self):
        for thing in odd_things() + [{}, "> ann: hello", {"> ann: hello"}, {0: "> ann: hello"}, iter(["> ann: hello"])]:
            if not isinstance(thing, (list, tuple)):
                self.no_text(0, lambda: read_book("ann", thing))

    def test_lists_and_tuples_of_other_things(self):
        for thing in odd_things() + [nested(100000), cut(SHORT, SHORT_SIZES)["ann"]]:
            if isinstance(thing, (list, tuple)):
                self.no_text(0, lambda: read_book("ann", thing))

    def test_the_name_among_the_names(self):
        row = "be > ann bob cid: hello"
        for name in ("ann", "bob", "cid"):
            self.assertEqual(read_book(name, [row]), ((("be",), ("ann", "bob", "cid"), ("hello",)),))
        for name in ("an", "nn", "be", "hello", "dan", "abc"):
            self.no_text(0, lambda: read_book(name, [row]))

    def test_one_sign_changed(self):
        right = 0
        for sample in ("> a: b", "be > a: b", "be or > a b: c d", "abcdefghijkl > a abcdefgh: b"):
            for row in with_one_sign_changed(sample):
                entry = plain_entry(row)
                if entry is None or "a" not in entry[1]:
                    self.no_text(0, lambda: read_book("a", [row]))
                else:
                    self.assertEqual(read_book("a", [row]), (entry,))
                    right += 1
        self.assertGreater(right, 100)

    def test_nothing_is_changed_or_kept(self):
        rows = list(ANN_ROWS)
        entries = read_book("ann", rows)
        self.assertEqual(rows, list(ANN_ROWS))
        rows.clear()
        self.assertEqual(entries, cut(SHORT, SHORT_SIZES)["ann"])
        self.assertIs(is_book("ann", entries), True)


if __name__ == "__main__":
    unittest.main()
