import copy
import unittest

from cuebook.books import alike, cut, whole_counts
from cuebook.changes import left_out, put_in, unlike
from cuebook.errors import NoPlay
from cuebook.matching import least
from cuebook.plays import is_play, play_of
from drawn import drawn_books, drawn_plays
from samples import AMISS, NAMES, SHORT, SHORT_SIZES, numbers_from, refusals_of

TURNS = tuple(((name,), (name, "x")) for name in ("ann", "bob", "cid", "dan", "ann", "bob", "ann"))


class Changes(unittest.TestCase):
    def no_play(self, place, asked):
        with self.assertRaises(NoPlay) as taken:
            asked()
        self.assertEqual(vars(taken.exception), {"place": place})
        self.assertEqual(refusals_of(taken.exception), ["CueError", "NoPlay"])
        self.assertIsInstance(taken.exception, ValueError)


def first_meeting(speeches):
    """The number of the first speech that has a name of the one right ahead, or None."""
    for place in range(1, len(speeches)):
        if set(speeches[place - 1][0]) & set(speeches[place][0]):
            return place
    return None


class LeftOut(Changes):
    def test_no_numbers(self):
        for play in drawn_plays():
            self.assertEqual(left_out(play, ()), play)
            self.assertEqual(left_out(play, []), play)

    def test_one_number(self):
        self.assertEqual(left_out(TURNS, (0,)), TURNS[1:])
        self.assertEqual(left_out(TURNS, [6]), TURNS[:6])
        self.assertEqual(left_out(TURNS, (2,)), TURNS[:2] + TURNS[3:])

    def test_several_numbers(self):
        self.assertEqual(left_out(TURNS, (0, 6)), TURNS[1:6])
        self.assertEqual(left_out(TURNS, [6, 0, 3]), TURNS[1:3] + TURNS[4:6])
        self.assertEqual(left_out(TURNS, (4, 5)), TURNS[:4] + TURNS[6:])

    def test_all_numbers(self):
        self.assertEqual(left_out(TURNS, tuple(range(7))), ())
        self.assertEqual(left_out(TURNS, list(range(7))), ())
        self.assertEqual(left_out((), ()), ())

    def test_numbers_told_twice(self):
        self.assertEqual(left_out(TURNS, (2, 2)), left_out(TURNS, (2,)))
        self.assertEqual(left_out(TURNS, [0, 6, 0, 0, 6]), TURNS[1:6])

    def test_numbers_beyond_the_play(self):
        for numbers in [(7,), (8, 7), [7, 7], (100,), [10 ** 30]]:
            self.assertEqual(left_out(TURNS, numbers), TURNS)
        self.assertEqual(left_out(TURNS, [9, 0, 7]), TURNS[1:])
        self.assertEqual(left_out((), (0, 1, 5)), ())

    def test_numbers_are_those_of_the_play_as_it_was(self):
        # None of them moves when another one is left out.
        self.assertEqual(left_out(TURNS, (1, 2)), TURNS[:1] + TURNS[3:])
        self.assertEqual(left_out(TURNS, (2, 1)), TURNS[:1] + TURNS[3:])

    def test_names_that_become_neighbours(self):
        self.no_play(5, lambda: left_out(TURNS, (5,)))
        self.no_play(1, lambda: left_out(TURNS, (1, 2, 3)))
        self.no_play(1, lambda: left_out(TURNS, (0, 2, 3, 4)))
        self.no_play(3, lambda: left_out(TURNS, (0, 2, 5)))
        self.no_play(1, lambda: left_out(SHORT, [1]))
        self.no_play(3, lambda: left_out(SHORT, [3, 3]))
        # The names of several together, of which one comes twice.
        self.no_play(2, lambda: left_out(SHORT, (0, 3)))

    def test_the_first_of_several_such(self):
        play = tuple(((name,), ("a",)) for name in ("ann", "bob", "ann", "cid", "ann", "dan", "ann"))
        self.no_play(1, lambda: left_out(play, (5, 3, 1)))
        self.no_play(3, lambda: left_out(play, (5, 3)))
        self.no_play(5, lambda: left_out(play, (5,)))

    def test_drawn_ones(self):
        numbers = numbers_from(3)
        refused = 0
        for play in drawn_plays():
            for _ in range(5):
                out = [next(numbers) % (len(play) + 2) for _ in range(next(numbers) % 4)]
                rest = tuple(speech for at, speech in enumerate(play) if at not in out)
                place = first_meeting(rest)
                if place is None:
                    self.assertEqual(left_out(play, out), rest)
                    self.assertEqual(left_out(play, tuple(out)), rest)
                else:
                    self.no_play(place, lambda: left_out(play, out))
                    refused += 1
        self.assertGreater(refused, 50)

    def test_nothing_is_changed(self):
        numbers = [6, 0, 6, 90]
        before = copy.deepcopy(TURNS)
        found = left_out(TURNS, numbers)
        self.assertEqual((TURNS, numbers), (before, [6, 0, 6, 90]))
        numbers.append(2)
        self.assertEqual(found, TURNS[1:6])


class PutIn(Changes):
    speech = (("zoe",), ("hello", "you"))

    def test_ahead_of_each_number(self):
        for number in range(8):
            wanted = TURNS[:number] + (self.speech,) + TURNS[number:]
            self.assertEqual(put_in(TURNS, number, self.speech), wanted)
        self.assertEqual(put_in(TURNS, 0, self.speech)[0], self.speech)
        self.assertEqual(put_in(TURNS, 7, self.speech)[7], self.speech)

    def test_into_no_speeches(self):
        self.assertEqual(put_in((), 0, self.speech), (self.speech,))

    def test_lists_and_tuples(self):
        for names in (("zoe", "abe"), ["zoe", "abe"], ["abe", "zoe"]):
            for words in (("a", "b", "a"), ["a", "b", "a"]):
                for pair in ((names, words), [names, words]):
                    for number in (0, 3, 7):
                        found = put_in(TURNS, number, pair)
                        self.assertEqual(found[number], (("abe", "zoe"), ("a", "b", "a")))
                        self.assertEqual(found[:number] + found[number + 1:], TURNS)
                        self.assertIs(is_play(found), True)

    def test_a_pair_that_is_no_speech(self):
        for what, pair in AMISS.items():
            with self.subTest(what):
                for number in (0, 2, 7):
                    self.no_play(number, lambda: put_in(TURNS, number, pair))
                self.no_play(0, lambda: put_in((), 0, pair))

    def test_a_name_of_the_speech_right_ahead(self):
        self.no_play(7, lambda: put_in(TURNS, 7, (("ann",), ("a",))))
        self.no_play(1, lambda: put_in(TURNS, 1, [["ann", "zoe"], ["a"]]))
        self.no_play(3, lambda: put_in(SHORT, 3, (("eve", "cid"), ("a",))))

    def test_a_name_of_the_speech_right_behind(self):
        self.no_play(1, lambda: put_in(TURNS, 0, (("ann",), ("a",))))
        self.no_play(2, lambda: put_in(TURNS, 1, [["bob", "zoe"], ["a"]]))
        self.no_play(7, lambda: put_in(TURNS, 6, (("ann",), ("a",))))

    def test_names_of_both_sides(self):
        self.no_play(1, lambda: put_in(TURNS, 1, (("ann", "bob"), ("a",))))
        self.no_play(6, lambda: put_in(TURNS, 6, (("ann", "bob"), ("a",))))

    def test_a_name_of_a_speech_farther_off(self):
        self.assertEqual(put_in(TURNS, 2, (("ann",), ("a",)))[2], (("ann",), ("a",)))
        self.assertEqual(put_in(TURNS, 2, (("dan",), ("a",)))[2], (("dan",), ("a",)))

    def test_drawn_ones(self):
        refused = 0
        for seed, play in enumerate(drawn_plays()):
            numbers = numbers_from(seed)
            for _ in range(5):
                number = next(numbers) % (len(play) + 1)
                speech = ((NAMES[next(numbers) % 8],), ("a",))
                whole = play[:number] + (speech,) + play[number:]
                place = first_meeting(whole)
                if place is None:
                    self.assertEqual(put_in(play, number, speech), whole)
                    self.assertEqual(left_out(put_in(play, number, speech), (number,)), play)
                else:
                    self.no_play(place, lambda: put_in(play, number, speech))
                    refused += 1
        self.assertGreater(refused, 50)

    def test_nothing_is_changed_or_kept(self):
        pair = [["zoe", "abe"], ["a", "b"]]
        found = put_in(TURNS, 2, pair)
        self.assertEqual(pair, [["zoe", "abe"], ["a", "b"]])
        pair[0].append("ann")
        pair[1].clear()
        self.assertEqual(found[2], (("abe", "zoe"), ("a", "b")))

    def test_a_play_speech_by_speech(self):
        for play in drawn_plays()[:20]:
            found = ()
            for speech in play:
                found = put_in(found, len(found), speech)
            self.assertEqual(found, play_of(play))


def entries_of(books):
    return {(name, number): entry for name, entries in books.items() for number, entry in enumerate(entries)}


class Unlike(unittest.TestCase):
    def setUp(self):
        self.books = cut(SHORT, SHORT_SIZES)

    def tells(self, books, others, wanted):
        before = copy.deepcopy((books, others))
        self.assertEqual(unlike(books, others), wanted)
        self.assertEqual(unlike(others, books), wanted)
        self.assertEqual((books, others), before)
        self.assertEqual((list(books), list(others)), (list(before[0]), list(before[1])))

    def test_like_ones(self):
        self.tells({}, {}, ())
        self.tells(self.books, self.books, ())
        self.tells(self.books, copy.deepcopy(self.books), ())
        self.tells(self.books, dict(reversed(list(self.books.items()))), ())

    def test_no_books(self):
        every = (
            ("ann", 0), ("ann", 1), ("ann", 2), ("bob", 0), ("bob", 1), ("cid", 0), ("cid", 1), ("dan", 0), ("eve", 0),
        )
        self.tells(self.books, {}, every)

    def test_a_name_that_one_lacks(self):
        others = dict(self.books)
        others.pop("cid")
        self.tells(self.books, others, (("cid", 0), ("cid", 1)))
        others["zoe"] = ((("a",), ("zoe",), ("b",)),)
        others["abe"] = ((("a",), ("abe",), ("b",)),)
        self.tells(self.books, others, (("abe", 0), ("cid", 0), ("cid", 1), ("zoe", 0)))

    def test_entries_that_one_lacks(self):
        others = dict(self.books)
        others["ann"] = self.books["ann"][:1]
        self.tells(self.books, others, (("ann", 1), ("ann", 2)))
        others["ann"] = self.books["ann"][1:]
        self.tells(self.books, others, (("ann", 0), ("ann", 1), ("ann", 2)))

    def test_unlike_cues_names_and_words(self):
        cue, names, words = self.books["ann"][1]
        for entry in [(cue[1:], names, words), (cue, ("ann",), words), (cue, names, words + ("x",)), (cue, names, ("x",))]:
            others = dict(self.books)
            others["ann"] = (self.books["ann"][0], entry, self.books["ann"][2])
            self.tells(self.books, others, (("ann", 1),))

    def test_each_once_and_sorted(self):
        others = {name: ((("x",), (name,), ("y",)),) * 12 for name in ("eve", "dan", "ann")}
        wanted = [("ann", number) for number in range(12)] + [("bob", 0), ("bob", 1), ("cid", 0), ("cid", 1)]
        wanted += [(name, number) for name in ("dan", "eve") for number in range(12)]
        self.tells(self.books, others, tuple(wanted))

    def test_other_counts(self):
        self.tells(cut(SHORT, alike(SHORT, 1)), cut(SHORT, least(SHORT)), (("cid", 0), ("dan", 0)))
        self.tells(self.books, cut(SHORT, alike(SHORT, 9)), (("eve", 0),))

    def test_a_change_of_the_play(self):
        other = left_out(TURNS, (2,))
        self.tells(cut(TURNS, alike(TURNS, 2)), cut(other, alike(other, 2)), (("cid", 0), ("dan", 0)))

    def test_drawn_ones(self):
        drawn = drawn_books() + [cut(play, whole_counts(play)) for play in drawn_plays()]
        for books, others in zip(drawn, drawn[1:] + drawn[:1]):
            one, other = entries_of(books), entries_of(others)
            keys = sorted(set(one) | set(other))
            self.tells(books, others, tuple(key for key in keys if one.get(key) != other.get(key)))

    def test_kinds(self):
        found = unlike(self.books, {})
        self.assertIs(type(found), tuple)
        for pair in found:
            self.assertEqual([type(part) for part in pair], [str, int])
            self.assertIs(type(pair), tuple)


if __name__ == "__main__":
    unittest.main()
