import unittest

from cuebook.books import alike, is_counts, total, whole_counts
from cuebook.errors import TooFew
from cuebook.matching import false_moments, least
from cuebook.thrift import thrifty
from drawn import all_counts, drawn_plays
from samples import NAMES, SHORT, long_play, plain_false_moments, refusals_of

# By one word bob is false three times, by two words too, by three never; cid is false twice by one word, by two never.
UNEVEN = (
    (("bob", "cid"), ("k",)),
    (("ann",), tuple("pabqabrabsab")),
    (("bob",), tuple("vwvxv")),
    (("cid",), ("end",)),
)


def fewest_by_sum(play):
    """For each sum that counts of the play have, how few false moments such counts can have."""
    found = {}
    for counts in all_counts(play):
        many = len(plain_false_moments(play, counts))
        found[total(counts)] = min(many, found.get(total(counts), many))
    return found


def small_plays():
    drawn = [long_play(seed, 1 + seed % 5, 2 + seed % 3, "ab" if seed % 3 else "a", 1 + seed % 4) for seed in range(120)]
    return [play for play in drawn if len(list(zip(range(1501), all_counts(play)))) <= 1500]


class Thrift(unittest.TestCase):
    def too_few(self, play, most, needed):
        with self.assertRaises(TooFew) as taken:
            thrifty(play, most)
        self.assertEqual(vars(taken.exception), {"needed": needed})
        self.assertIs(type(taken.exception.needed), int)
        return taken.exception

    def keeps(self, play, most, moments):
        """Counts of the play, of a sum that is not above the number told, with so many false moments."""
        counts = thrifty(play, most)
        self.assertIs(is_counts(play, counts), True)
        self.assertLessEqual(total(counts), most)
        self.assertEqual(len(plain_false_moments(play, counts)), moments)
        return counts

    def test_a_short_play(self):
        self.too_few(SHORT, 7, 8)
        self.assertEqual(thrifty(SHORT, 8), alike(SHORT, 1))
        self.assertEqual(self.keeps(SHORT, 9, 1), ((0,), (1,), (1, 2), (1,), (1, 1), (1, 1)))
        self.keeps(SHORT, 10, 1)
        self.assertEqual(self.keeps(SHORT, 11, 0), least(SHORT))
        for most in (12, 28, 36, 37, 1000):
            self.keeps(SHORT, most, 0)

    def test_a_word_more_that_gains_nothing_by_itself(self):
        self.assertEqual(self.keeps(UNEVEN, 3, 5), ((0, 0), (1,), (1,), (1,)))
        self.assertEqual(self.keeps(UNEVEN, 4, 3), ((0, 0), (1,), (1,), (2,)))
        self.assertEqual(self.keeps(UNEVEN, 5, 2), ((0, 0), (1,), (3,), (1,)))
        self.assertEqual(self.keeps(UNEVEN, 6, 0), ((0, 0), (1,), (3,), (2,)))
        self.keeps(UNEVEN, 7, 0)

    def test_small_plays_against_all_their_counts(self):
        plays = small_plays() + [UNEVEN[:3]]
        self.assertGreater(len(plays), 80)
        unlike = 0
        for play in plays:
            fewest = fewest_by_sum(play)
            self.too_few(play, min(fewest) - 1, min(fewest))
            for most in range(min(fewest), max(fewest) + 3):
                self.keeps(play, most, min(many for size, many in fewest.items() if size <= most))
            unlike += len(set(fewest.values())) > 2
        self.assertGreater(unlike, 20)

    def test_just_the_sum_of_counts_of_one(self):
        for play in drawn_plays():
            ones = alike(play, 1)
            self.assertEqual(thrifty(play, total(ones)), ones)

    def test_one_below_it_and_far_below_it(self):
        for play in drawn_plays():
            needed = total(alike(play, 1))
            for most in (needed - 1, needed // 2 - 1, -1, -10 ** 30):
                self.too_few(play, most, needed)

    def test_numbers_that_bring_all_moments_to_an_end(self):
        for play in drawn_plays():
            enough = total(least(play))
            self.assertEqual(self.keeps(play, enough, 0), least(play))
            if enough > total(alike(play, 1)):
                self.assertNotEqual(false_moments(play, thrifty(play, enough - 1)), ())

    def test_numbers_above_the_sum_of_all_windows(self):
        for play in drawn_plays():
            for more in (0, 1, 50, 10 ** 30):
                self.keeps(play, total(whole_counts(play)) + more, 0)

    def test_more_words_never_have_more_moments(self):
        for play in [play for play in drawn_plays() if sum(len(words) for _, words in play) <= 100]:
            found = [
                len(false_moments(play, thrifty(play, most)))
                for most in range(total(alike(play, 1)), total(least(play)) + 1)
            ]
            self.assertEqual(found, sorted(found, reverse=True))
            self.assertEqual((found[0], found[-1]), (len(false_moments(play, alike(play, 1))), 0))

    def test_no_speeches(self):
        for most in (0, 1, 7, 10 ** 30):
            self.assertEqual(thrifty((), most), ())
        for most in (-1, -7, -10 ** 30):
            self.too_few((), most, 0)

    def test_one_speech(self):
        for names in (("ann",), NAMES):
            play = ((names, ("a", "a", "a")),)
            for most in (0, 1, 7, 10 ** 30):
                self.assertEqual(thrifty(play, most), ((0,) * len(names),))
            self.too_few(play, -1, 0)

    def test_two_speeches(self):
        play = ((("ann",), ("a", "a", "a")), (("bob", "cid"), ("b",)))
        self.too_few(play, 1, 2)
        self.keeps(play, 2, 4)
        self.keeps(play, 3, 3)
        self.keeps(play, 4, 2)
        self.keeps(play, 5, 1)
        self.assertEqual(self.keeps(play, 6, 0), ((0,), (3, 3)))
        self.assertEqual(self.keeps(play, 7, 0), ((0,), (3, 3)))

    def test_kinds(self):
        for play, most in [((), 0), (SHORT, 8), (SHORT, 9), (SHORT, 99), (UNEVEN, 5)]:
            found = thrifty(play, most)
            self.assertIs(type(found), tuple)
            for row in found:
                self.assertIs(type(row), tuple)
                self.assertEqual({type(number) for number in row}, {int})

    def test_the_refusal_is_of_its_own_class(self):
        error = self.too_few(SHORT, 0, 8)
        self.assertEqual(refusals_of(error), ["CueError", "TooFew"])
        self.assertIsInstance(error, ValueError)

    def test_the_same_again(self):
        for most in (8, 9, 10, 11, 40):
            self.assertEqual(thrifty(SHORT, most), thrifty(SHORT, most))


if __name__ == "__main__":
    unittest.main()
