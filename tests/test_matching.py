import unittest

from cuebook.books import alike, is_counts, whole_counts
from cuebook.matching import false_moments, false_places, least, shown
from samples import (
    NAMES, SHORT, SHORT_SIZES, drawn_counts, long_play, long_plays, plain_false_moments, plain_false_places, plain_least,
    plain_window,
)

# Of each length of a cue for eve's speech, the places at which it has come too early are counted by hand.
ECHO = (
    (("ann",), ("a", "b", "a", "b")),
    (("bob",), ("c", "a", "b")),
    (("eve",), ("d",)),
)

LATE = (
    (("ann", "bob"), ("a", "a")),
    (("cid",), ("a", "a", "a")),
    (("ann",), ("a",)),
    (("bob", "cid"), ("a",)),
)


def all_cues(play):
    return [(at, name) for at, (names, _) in enumerate(play) if at for name in names]


def small_plays():
    return [long_play(seed, 1 + seed % 10, 2 + seed % 5) for seed in range(60)]


class FalsePlaces(unittest.TestCase):
    def test_each_count(self):
        self.assertEqual(false_places(ECHO, 2, "eve", 1), (2, 4))
        self.assertEqual(false_places(ECHO, 2, "eve", 2), (2, 4))
        for many in range(3, 8):
            self.assertEqual(false_places(ECHO, 2, "eve", many), ())

    def test_a_short_play(self):
        self.assertEqual(false_places(SHORT, 2, "cid", 1), (1,))
        self.assertEqual(false_places(SHORT, 2, "cid", 2), ())
        self.assertEqual(false_places(SHORT, 3, "dan", 1), (2,))
        self.assertEqual(false_places(SHORT, 3, "dan", 2), (2,))
        self.assertEqual(false_places(SHORT, 3, "dan", 3), ())
        self.assertEqual(false_places(SHORT, 2, "ann", 1), ())

    def test_none_at_place_0(self):
        play = ((("ann",), ("a", "a", "a")), (("bob",), ("a",)))
        self.assertEqual(false_places(play, 1, "bob", 1), (1, 2))
        self.assertEqual(false_places(play, 1, "bob", 2), (2,))
        self.assertEqual(false_places(play, 1, "bob", 3), ())

    def test_none_where_the_name_last_spoke(self):
        self.assertEqual(false_places(LATE, 2, "ann", 1), (3, 4))
        self.assertEqual(false_places(LATE, 2, "ann", 2), (4,))
        self.assertEqual(false_places(LATE, 2, "ann", 3), ())
        self.assertEqual(false_places(LATE, 3, "bob", 1), (3, 4, 5))
        self.assertEqual(false_places(LATE, 3, "cid", 1), ())

    def test_what_was_heard_ahead_of_the_last_speech_is_no_part_of_a_cue(self):
        play = ((("ann",), ("a", "b")), (("bob",), ("c",)), (("ann",), ("b", "a", "b")), (("bob",), ("d",)))
        self.assertEqual(false_places(play, 3, "bob", 1), (4,))
        self.assertEqual(false_places(play, 3, "bob", 2), ())

    def test_ends_of_speeches_and_places_within_them(self):
        play = ((("ann",), ("x", "y")), (("bob",), ("y", "z", "y")), (("cid",), ("y",)), (("dan",), ("x",)))
        self.assertEqual(false_places(play, 3, "dan", 1), (2, 3, 5))
        self.assertEqual(false_places(play, 3, "dan", 2), (3,))

    def test_a_cue_that_overlaps_itself(self):
        play = ((("ann",), ("a", "b", "a", "b", "a", "b", "a")), (("bob",), ("c",)))
        self.assertEqual(false_places(play, 1, "bob", 3), (3, 5))
        self.assertEqual(false_places(play, 1, "bob", 5), (5,))
        self.assertEqual(false_places(play, 1, "bob", 6), ())

    def test_the_whole_window_has_none(self):
        for play in [SHORT, ECHO, LATE] + long_plays():
            for at, name in all_cues(play):
                self.assertEqual(false_places(play, at, name, len(plain_window(play, at, name))), ())

    def test_longer_plays(self):
        for play in [SHORT, ECHO, LATE] + small_plays():
            for at, name in all_cues(play):
                for many in range(1, len(plain_window(play, at, name)) + 1):
                    found = false_places(play, at, name, many)
                    self.assertIsInstance(found, tuple)
                    self.assertEqual(found, plain_false_places(play, at, name, many))
                    self.assertEqual(found, tuple(sorted(set(found))))


class FalseMoments(unittest.TestCase):
    def test_no_speeches(self):
        self.assertEqual(false_moments((), ()), ())

    def test_a_first_speech_alone(self):
        self.assertEqual(false_moments(((NAMES, ("a", "a")),), ((0,) * 8,)), ())

    def test_a_short_play(self):
        self.assertEqual(false_moments(SHORT, alike(SHORT, 1)), ((1, "cid", 2), (2, "dan", 3)))
        self.assertEqual(false_moments(SHORT, alike(SHORT, 2)), ((2, "dan", 3),))
        self.assertEqual(false_moments(SHORT, alike(SHORT, 3)), ())
        self.assertEqual(false_moments(SHORT, SHORT_SIZES), ())

    def test_each_by_its_own_count(self):
        self.assertEqual(false_moments(SHORT, ((0,), (2,), (3, 1), (6,), (3, 2), (4, 10))), ((1, "cid", 2),))
        self.assertEqual(false_moments(SHORT, ((0,), (2,), (1, 5), (2,), (3, 2), (4, 10))), ((2, "dan", 3),))
        self.assertEqual(false_moments(LATE, ((0, 0), (1,), (2,), (4, 1))), ((1, "cid", 1), (4, "ann", 2)))
        self.assertEqual(
            false_moments(LATE, ((0, 0), (2,), (1,), (2, 1))),
            ((3, "ann", 2), (4, "ann", 2), (4, "bob", 3), (5, "bob", 3)),
        )

    def test_sorted_by_place_then_name(self):
        play = ((("ann",), ("a", "a")), (("dan",), ("a", "a")), (("bob",), ("a",)), (("cid",), ("b",)))
        self.assertEqual(
            false_moments(play, alike(play, 1)),
            (
                (1, "bob", 2), (1, "cid", 3), (1, "dan", 1), (2, "bob", 2), (2, "cid", 3), (3, "bob", 2), (3, "cid", 3),
                (4, "cid", 3),
            ),
        )

    def test_whole_windows_have_none(self):
        for play in long_plays():
            self.assertEqual(false_moments(play, whole_counts(play)), ())

    def test_longer_plays(self):
        for seed, play in enumerate(long_plays() + small_plays()):
            for counts in [alike(play, 1), alike(play, 3), drawn_counts(play, seed), drawn_counts(play, seed + 1000)]:
                found = false_moments(play, counts)
                self.assertIsInstance(found, tuple)
                self.assertEqual(found, plain_false_moments(play, counts))
                self.assertEqual(list(found), sorted(found))

    def test_they_are_the_false_places_of_all_cues(self):
        for seed, play in enumerate(long_plays()):
            counts = drawn_counts(play, seed)
            wanted = []
            for at, name in all_cues(play):
                many = counts[at][play[at][0].index(name)]
                wanted.extend((place, name, at) for place in false_places(play, at, name, many))
            self.assertEqual(false_moments(play, counts), tuple(sorted(wanted)))


class Least(unittest.TestCase):
    def test_no_speeches(self):
        self.assertEqual(least(()), ())
        self.assertEqual(shown(()), ())

    def test_a_first_speech_alone(self):
        self.assertEqual(least(((("ann",), ("a", "a")),)), ((0,),))
        self.assertEqual(least(((NAMES, ("a", "a")),)), ((0,) * 8,))
        self.assertEqual(shown(((NAMES, ("a", "a")),)), ())

    def test_a_short_play(self):
        self.assertEqual(least(SHORT), ((0,), (1,), (1, 2), (3,), (1, 1), (1, 1)))
        self.assertEqual(shown(SHORT), ((2, "cid", 1), (3, "dan", 2)))

    def test_other_plays(self):
        self.assertEqual(least(ECHO), ((0,), (3,), (3,)))
        self.assertIn(shown(ECHO), [((1, "bob", 2), (2, "eve", place)) for place in (2, 4)])
        self.assertEqual(least(LATE), ((0, 0), (2,), (3,), (4, 1)))
        self.assertEqual(shown(LATE), ((1, "cid", 1), (2, "ann", 4), (3, "bob", 5)))

    def test_the_same_word_again_and_again(self):
        for many in range(1, 30):
            play = ((("ann",), ("a",) * many), (("bob", "cid"), ("b",)))
            self.assertEqual(least(play), ((0,), (many, many)))
            wanted = ((1, "bob", many - 1), (1, "cid", many - 1)) if many > 1 else ()
            self.assertEqual(shown(play), wanted)

    def test_longer_plays(self):
        for play in small_plays():
            self.assertEqual(least(play), plain_least(play))

    def test_the_least_without_a_false_place(self):
        for play in long_plays():
            counts = least(play)
            self.assertIs(is_counts(play, counts), True)
            self.assertEqual(set(counts[0]), {0})
            for at, name in all_cues(play):
                many = counts[at][play[at][0].index(name)]
                self.assertEqual(plain_false_places(play, at, name, many), ())
                if many > 1:
                    self.assertNotEqual(plain_false_places(play, at, name, many - 1), ())

    def test_a_place_for_each_count_above_one_and_for_no_other(self):
        for play in [SHORT, ECHO, LATE] + small_plays() + long_plays():
            counts = least(play)
            wanted = [(at, name) for at, name in all_cues(play) if counts[at][play[at][0].index(name)] > 1]
            found = shown(play)
            self.assertIsInstance(found, tuple)
            self.assertEqual([(at, name) for at, name, place in found], wanted)
            for at, name, place in found:
                many = counts[at][play[at][0].index(name)]
                self.assertIn(place, plain_false_places(play, at, name, many - 1))

    def test_kinds(self):
        for found in [least(SHORT), shown(SHORT), false_moments(SHORT, alike(SHORT, 1))]:
            self.assertIsInstance(found, tuple)
            for row in found:
                self.assertIsInstance(row, tuple)


if __name__ == "__main__":
    unittest.main()
