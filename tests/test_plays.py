import copy
import unittest

from cuebook.errors import NoPlay
from cuebook.plays import begins, is_play, names_in, play_of, window, words_in
from samples import AMISS, NAMES, SHORT, Strange, long_play, long_plays, nested, odd_things, plain_window

ANN = (("ann",), ("hello",))
BOB = (("bob",), ("there",))


class Refusing(unittest.TestCase):
    def refused(self, pairs, place):
        with self.assertRaises(NoPlay) as taken:
            play_of(pairs)
        self.assertEqual(taken.exception.place, place)


class MakingPlays(Refusing):
    def test_of_lists_and_of_tuples(self):
        wanted = ((("ann", "bob"), ("hello", "you")), (("cid",), ("yes",)))
        for pairs in [
            [[["bob", "ann"], ["hello", "you"]], [["cid"], ["yes"]]],
            ((("bob", "ann"), ("hello", "you")), (("cid",), ("yes",))),
            [(["ann", "bob"], ("hello", "you")), [("cid",), ["yes"]]],
            ([("bob", "ann"), ["hello", "you"]], (["cid"], ("yes",))),
        ]:
            with self.subTest(pairs):
                self.assertEqual(play_of(pairs), wanted)
                self.assertIs(is_play(play_of(pairs)), True)

    def test_all_within_are_tuples(self):
        play = play_of([[["bob", "ann"], ["hello"]]])
        self.assertIsInstance(play, tuple)
        self.assertIsInstance(play[0], tuple)
        self.assertIsInstance(play[0][0], tuple)
        self.assertIsInstance(play[0][1], tuple)

    def test_no_pairs(self):
        self.assertEqual(play_of([]), ())
        self.assertEqual(play_of(()), ())

    def test_eight_names_in_any_order(self):
        for names in [list(NAMES), list(reversed(NAMES)), NAMES[3:] + NAMES[:3]]:
            with self.subTest(names):
                self.assertEqual(play_of([(names, ["word"])]), ((NAMES, ("word",)),))

    def test_words_stay_as_they_are(self):
        words = ["to", "be", "or", "not", "to", "be", "be", "abcdefghijkl", "a"]
        self.assertEqual(play_of([(["ann"], words)]), ((("ann",), tuple(words)),))

    def test_a_name_again_in_the_next_but_one(self):
        self.assertEqual(play_of([ANN, BOB, ANN]), (ANN, BOB, ANN))

    def test_names_that_begin_alike(self):
        pairs = [(["ann"], ["a"]), (["an", "anna"], ["a"]), (["abcdefgh"], ["a"])]
        self.assertEqual(names_in(play_of(pairs)), ("abcdefgh", "an", "ann", "anna"))

    def test_a_play_is_made_of_itself(self):
        for play in [(), SHORT] + long_plays():
            self.assertEqual(play_of(play), play)
            self.assertEqual(play_of([list(speech) for speech in play]), play)

    def test_what_is_handed_in_stays_and_is_not_kept(self):
        pairs = [[["bob", "ann"], ["hello", "you"]], (["dan", "cid"], ("yes",))]
        before = copy.deepcopy(pairs)
        play = play_of(pairs)
        self.assertEqual(pairs, before)
        pairs[0][0].append("eve")
        pairs[0][1][0] = "bye"
        pairs.pop()
        self.assertEqual(play, ((("ann", "bob"), ("hello", "you")), (("cid", "dan"), ("yes",))))

    def test_refused_pairs_stay_as_they_are(self):
        pairs = [[["bob", "ann"], ["hello"]], [["dan", "cid", "cid"], ["yes"]]]
        before = copy.deepcopy(pairs)
        self.refused(pairs, 1)
        self.assertEqual(pairs, before)


class RefusingPlays(Refusing):
    def test_a_pair_that_is_amiss(self):
        for what, pair in AMISS.items():
            for ahead in [[], [ANN], [ANN, BOB], [ANN, BOB] * 20]:
                with self.subTest(what, ahead=len(ahead)):
                    self.refused(ahead + [pair], len(ahead))
                    self.refused(tuple(ahead + [pair]), len(ahead))

    def test_the_first_one_is_told(self):
        for what, pair in AMISS.items():
            with self.subTest(what):
                self.refused([ANN, pair, BOB, BOB, pair], 1)
                self.refused([ANN, BOB, BOB, pair], 2)

    def test_a_name_of_the_pair_right_ahead(self):
        self.refused([ANN, ANN], 1)
        self.refused([ANN, BOB, (["cid", "bob"], ["word"])], 2)
        self.refused([(["eve", "ann", "bob"], ["word"]), (["ann"], ["word"])], 1)
        self.refused([(["eve"], ["word"]), (["gus", "fay", "eve"], ["word"])], 1)
        self.refused([(list(NAMES), ["word"]), (["hal"], ["word"])], 1)

    def test_what_is_no_list_and_no_tuple(self):
        for thing in [None, 7, True, "", "ann", {}, {0: ANN}, set(), {ANN}, iter([ANN]), range(0), Strange(), object()]:
            self.refused(thing, 0)


class BeingPlays(unittest.TestCase):
    def test_plays(self):
        for play in [(), (ANN,), (ANN, BOB, ANN), ((NAMES, ("a",)),), SHORT] + long_plays():
            self.assertIs(is_play(play), True)

    def test_many_words_and_speeches(self):
        self.assertIs(is_play(((("ann",), ("word",) * 100000),)), True)
        self.assertIs(is_play((ANN, BOB) * 50000), True)
        self.assertIs(is_play((ANN, BOB) * 50000 + (BOB,)), False)

    def test_a_speech_is_no_play(self):
        self.assertIs(is_play(ANN), False)

    def test_lists_in_the_place_of_tuples(self):
        self.assertIs(is_play([]), False)
        self.assertIs(is_play([ANN]), False)
        self.assertIs(is_play((list(ANN),)), False)
        self.assertIs(is_play(((["ann"], ("hello",)),)), False)
        self.assertIs(is_play(((("ann",), ["hello"]),)), False)

    def test_names_that_are_not_rising(self):
        self.assertIs(is_play(((("ann", "bob", "cid"), ("a",)),)), True)
        for names in [("bob", "ann"), ("ann", "ann"), ("ann", "cid", "bob"), ("ann", "bob", "bob"), ("ann", "bob", "ann")]:
            with self.subTest(names):
                self.assertIs(is_play(((names, ("a",)),)), False)

    def test_neighbours_with_a_common_name(self):
        self.assertIs(is_play((ANN, ANN)), False)
        self.assertIs(is_play((BOB, ANN, (("ann", "bob"), ("a",)))), False)
        self.assertIs(is_play(((("ann", "bob", "cid"), ("a",)), (("cid", "dan"), ("a",)), BOB)), False)
        self.assertIs(is_play((ANN, BOB, (("cid",), ("a",)), (("ann", "cid"), ("a",)))), False)

    def test_pairs_that_are_amiss(self):
        for what, pair in AMISS.items():
            tuples = pair
            if isinstance(pair, tuple):
                tuples = tuple(tuple(part) if isinstance(part, list) else part for part in pair)
            for ahead in [(), (ANN,), (ANN, BOB)]:
                with self.subTest(what, ahead=len(ahead)):
                    self.assertIs(is_play(ahead + (pair,)), False)
                    self.assertIs(is_play(ahead + (tuples,)), False)
                    self.assertIs(is_play((tuples,) + ahead), False)

    def test_things_of_any_kind(self):
        for number, thing in enumerate(odd_things()):
            with self.subTest(number):
                self.assertIs(is_play(thing), False)
                self.assertIs(is_play((ANN, thing)), False)
                self.assertIs(is_play(((thing, ("a",)),)), False)
                self.assertIs(is_play(((("ann",), thing),)), False)

    def test_things_of_any_size(self):
        for thing in [nested(100000), (None,) * 100000, ((("ann",) * 100000, ("a",)),), "a" * 10 ** 6, [ANN] * 100000]:
            self.assertIs(is_play(thing), False)


class Looking(unittest.TestCase):
    def test_names_in(self):
        self.assertEqual(names_in(()), ())
        self.assertEqual(names_in(SHORT), ("ann", "bob", "cid", "dan", "eve"))
        self.assertEqual(names_in(((("zoe",), ("a",)), (("bob", "yan"), ("a",)), (("zoe",), ("a",)))), ("bob", "yan", "zoe"))

    def test_words_in(self):
        self.assertEqual(words_in(()), ())
        self.assertEqual(
            words_in(SHORT),
            ("to", "be", "or", "not", "to", "be", "that", "is", "the", "question", "to", "be"),
        )

    def test_begins(self):
        self.assertEqual(begins(()), ())
        self.assertEqual(begins((ANN,)), (0,))
        self.assertEqual(begins(SHORT), (0, 2, 5, 6, 8, 10))

    def test_longer_plays(self):
        for play in long_plays():
            self.assertEqual(names_in(play), tuple(sorted({name for speech in play for name in speech[0]})))
            self.assertEqual(words_in(play), tuple(word for speech in play for word in speech[1]))
            self.assertEqual(begins(play), tuple(len(words_in(play[:at])) for at in range(len(play))))

    def test_tuples(self):
        for play in [(), SHORT]:
            self.assertIsInstance(names_in(play), tuple)
            self.assertIsInstance(words_in(play), tuple)
            self.assertIsInstance(begins(play), tuple)


class Windows(unittest.TestCase):
    def test_a_first_speech(self):
        self.assertEqual(window(SHORT, 0, "ann"), ())
        for name in NAMES:
            self.assertEqual(window(((NAMES, ("a",)),), 0, name), ())

    def test_a_name_in_no_speech_ahead(self):
        self.assertEqual(window(SHORT, 1, "bob"), ("to", "be"))
        self.assertEqual(window(SHORT, 2, "cid"), ("to", "be", "or", "not", "to"))
        self.assertEqual(window(SHORT, 3, "dan"), ("to", "be", "or", "not", "to", "be"))
        self.assertEqual(window(SHORT, 5, "eve"), ("to", "be", "or", "not", "to", "be", "that", "is", "the", "question"))

    def test_a_name_in_a_speech_ahead(self):
        self.assertEqual(window(SHORT, 2, "ann"), ("or", "not", "to"))
        self.assertEqual(window(SHORT, 4, "bob"), ("be", "that", "is"))
        self.assertEqual(window(SHORT, 4, "cid"), ("that", "is"))

    def test_the_last_of_several_speeches_ahead(self):
        self.assertEqual(window(SHORT, 5, "ann"), ("that", "is", "the", "question"))
        self.assertEqual(window((ANN, BOB) * 5 + (ANN,), 10, "ann"), ("there",))

    def test_it_is_a_tuple(self):
        self.assertIsInstance(window(SHORT, 0, "ann"), tuple)
        self.assertIsInstance(window(SHORT, 5, "ann"), tuple)

    def test_longer_plays(self):
        for play in long_plays():
            for at, speech in enumerate(play):
                for name in speech[0]:
                    found = window(play, at, name)
                    self.assertEqual(found, plain_window(play, at, name))
                    self.assertEqual(len(found) > 0, at > 0)

    def test_a_very_long_play(self):
        play = long_play(5, 3000)
        at = len(play) - 1
        name = play[at][0][0]
        self.assertEqual(window(play, at, name), plain_window(play, at, name))


if __name__ == "__main__":
    unittest.main()
