import copy
import unittest

from cuebook.books import alike, cut, whole_counts
from cuebook.matching import least
from cuebook.plays import words_in
from cuebook.prompting import holds_for
from cuebook.stage import performed
from drawn import drawn_pairs, drawn_plays, small_pairs
from samples import NAMES, SHORT, SHORT_SIZES, plain_false_moments

SAME_WORD = ((("ann",), ("a", "a")), (("dan",), ("a", "a")), (("bob",), ("a",)), (("cid",), ("b",)))


class HoldsFor(unittest.TestCase):
    def test_a_short_play(self):
        self.assertEqual(holds_for(SHORT, alike(SHORT, 1)), ((1, "cid"), (2, "dan")))
        self.assertEqual(holds_for(SHORT, alike(SHORT, 2)), ((2, "dan"),))
        self.assertEqual(holds_for(SHORT, ((0,), (2,), (3, 1), (6,), (3, 2), (4, 10))), ((1, "cid"),))

    def test_sorted_by_place_then_name(self):
        self.assertEqual(
            holds_for(SAME_WORD, alike(SAME_WORD, 1)),
            ((1, "bob"), (1, "cid"), (1, "dan"), (2, "bob"), (2, "cid"), (3, "bob"), (3, "cid"), (4, "cid")),
        )

    def test_none(self):
        self.assertEqual(holds_for((), ()), ())
        self.assertEqual(holds_for(((NAMES, ("a", "a")),), ((0,) * 8,)), ())
        self.assertEqual(holds_for(SHORT, alike(SHORT, 3)), ())
        self.assertEqual(holds_for(SHORT, SHORT_SIZES), ())
        for play in drawn_plays():
            self.assertEqual(holds_for(play, least(play)), ())
            self.assertEqual(holds_for(play, whole_counts(play)), ())

    def test_kinds(self):
        found = holds_for(SHORT, alike(SHORT, 1))
        self.assertEqual([type(hold) for hold in found], [tuple, tuple])
        self.assertIs(type(found), tuple)
        self.assertEqual([type(part) for part in found[0]], [int, str])
        self.assertIs(type(holds_for((), ())), tuple)

    def test_the_pairs_of_the_false_moments(self):
        for play, counts in drawn_pairs() + small_pairs():
            wanted = sorted({(place, name) for place, name, _ in plain_false_moments(play, counts)})
            self.assertEqual(holds_for(play, counts), tuple(wanted))

    def test_each_false_moment_has_a_hold_of_its_own(self):
        for play, counts in drawn_pairs():
            self.assertEqual(len(holds_for(play, counts)), len(plain_false_moments(play, counts)))

    def test_with_them_the_play_is_spoken(self):
        for play, counts in drawn_pairs() + small_pairs():
            wanted = (play, ("done", len(words_in(play)), ()))
            self.assertEqual(performed(cut(play, counts), holds_for(play, counts)), wanted)

    def test_what_is_handed_in_stays(self):
        play, counts = copy.deepcopy((SHORT, alike(SHORT, 1)))
        self.assertEqual(holds_for(play, counts), holds_for(play, counts))
        self.assertEqual((play, counts), (SHORT, alike(SHORT, 1)))


if __name__ == "__main__":
    unittest.main()
