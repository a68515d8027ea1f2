"""What is promised of plays and counts as a whole: performances, false moments and the least counts fit together."""

import itertools
import unittest

from cuebook.books import alike, cut, is_counts, whole_counts
from cuebook.matching import false_moments, least, shown
from cuebook.plays import begins, names_in, words_in
from cuebook.stage import performed
from samples import SHORT, drawn_counts, long_play, long_plays, numbers_from

ONE_WORD = tuple(((name,), ("a",)) for name in ("ann", "bob", "cid", "ann", "cid", "bob"))


def drawn_plays():
    return [(), SHORT, ONE_WORD] + [long_play(seed, 1 + seed % 14, 2 + seed % 6) for seed in range(60)] + long_plays()


def drawn_pairs():
    """Plays with counts of them: short cues, middling ones and long ones, and such near the least."""
    found = []
    for seed, play in enumerate(drawn_plays()):
        numbers = numbers_from(seed)
        near = tuple(
            tuple(max(min(size, 1), many - (next(numbers) % 25 == 0)) for many, size in zip(row, sizes))
            for row, sizes in zip(least(play), whole_counts(play))
        )
        choices = [alike(play, many) for many in (1, 2, 4, 9)] + [near, least(play), whole_counts(play)]
        found.extend((play, counts) for counts in choices + [drawn_counts(play, seed), drawn_counts(play, 999 - seed)])
    return found


def small_pairs():
    """Small plays with all of their counts."""
    found = []
    for seed in range(40):
        play = long_play(seed, 1 + seed % 4, 2 + seed % 3)
        choices = [range(min(size, 1), size + 1) for row in whole_counts(play) for size in row]
        ends = list(itertools.accumulate(len(names) for names, _ in play))
        for numbers in itertools.islice(itertools.product(*choices), 400):
            counts = tuple(numbers[end - len(names):end] for end, (names, _) in zip(ends, play))
            found.append((play, counts))
    return found


def one_fewer(counts, at, number):
    row = counts[at]
    return counts[:at] + (row[:number] + (row[number] - 1,) + row[number + 1:],) + counts[at + 1:]


class Promise(unittest.TestCase):
    @classmethod
    def setUpClass(cls):
        cls.pairs = drawn_pairs() + small_pairs()

    def test_the_pairs_are_of_both_kinds(self):
        good = [pair for pair in self.pairs if false_moments(*pair) == ()]
        self.assertGreater(len(good), 200)
        self.assertGreater(len(self.pairs) - len(good), 200)
        for play, counts in self.pairs:
            self.assertIs(is_counts(play, counts), True)

    def test_what_is_spoken_is_a_beginning_of_the_play(self):
        for play, counts in self.pairs:
            spoken, (kind, place, names) = performed(cut(play, counts))
            self.assertEqual(words_in(spoken), words_in(play)[:place])
            self.assertEqual([speech[0] for speech in spoken], [speech[0] for speech in play[:len(spoken)]])
            whole = spoken[:-1] if kind == "break" else spoken
            self.assertEqual(whole, play[:len(whole)])
            self.assertIn(kind, ("done", "break", "clash"))

    def test_it_is_the_whole_play_just_where_there_is_no_false_moment(self):
        for play, counts in self.pairs:
            found = performed(cut(play, counts))
            wanted = (play, ("done", len(words_in(play)), ()))
            self.assertEqual(found == wanted, false_moments(play, counts) == ())
            self.assertEqual(found[0] == play, false_moments(play, counts) == ())

    def test_else_it_ends_at_the_first_place_that_has_one(self):
        kinds = []
        for play, counts in self.pairs:
            moments = false_moments(play, counts)
            if moments == ():
                continue
            first = min(place for place, _, _ in moments)
            names = [name for place, name, _ in moments if place == first]
            kind = "break"
            if first in begins(play):
                kind = "clash"
                names.extend(play[begins(play).index(first)][0])
            self.assertEqual(performed(cut(play, counts))[1], (kind, first, tuple(sorted(names))))
            kinds.append(kind)
        self.assertGreater(min(kinds.count("break"), kinds.count("clash")), 50)

    def test_no_name_is_false_and_true_at_once(self):
        for play, counts in self.pairs:
            for place, name, at in false_moments(play, counts):
                self.assertLess(place, begins(play)[at])
                self.assertIn(name, play[at][0])
                if place in begins(play):
                    self.assertNotIn(name, play[begins(play).index(place)][0])

    def test_counts_are_good_just_where_none_is_below_the_least(self):
        for play, counts in self.pairs:
            below = [
                many < wanted for row, lowest in zip(counts, least(play)) for many, wanted in zip(row, lowest)
            ]
            self.assertEqual(any(below), false_moments(play, counts) != ())

    def test_the_least_counts_speak_the_play(self):
        for play in drawn_plays():
            self.assertEqual(false_moments(play, least(play)), ())
            self.assertEqual(performed(cut(play, least(play))), (play, ("done", len(words_in(play)), ())))

    def test_one_word_less_has_a_false_moment_at_the_told_place(self):
        for play in drawn_plays():
            counts = least(play)
            told = {(at, name): place for at, name, place in shown(play)}
            for at, (names, _) in enumerate(play):
                for number, name in enumerate(names):
                    self.assertEqual((at, name) in told, counts[at][number] > 1)
                    if (at, name) in told:
                        fewer = one_fewer(counts, at, number)
                        moments = false_moments(play, fewer)
                        self.assertIn((told[at, name], name, at), moments)
                        self.assertEqual({moment[1:] for moment in moments}, {(name, at)})
                        self.assertEqual(performed(cut(play, fewer))[1][1], moments[0][0])

    def test_holding_just_the_false_moments_brings_the_whole_play(self):
        for play, counts in self.pairs:
            holds = tuple((place, name) for place, name, _ in false_moments(play, counts))
            self.assertEqual(performed(cut(play, counts), holds), (play, ("done", len(words_in(play)), ())))

    def test_each_hold_of_a_false_moment_is_needed(self):
        for play, counts in self.pairs[::7]:
            holds = [(place, name) for place, name, _ in false_moments(play, counts)]
            for hold in holds[:5]:
                others = [other for other in holds if other != hold]
                end = performed(cut(play, counts), others)[1]
                self.assertEqual(end[1], hold[0])
                self.assertIn(hold[1], end[2])

    def test_the_names_that_are_told_are_of_the_play(self):
        for play, counts in self.pairs:
            self.assertLessEqual(set(performed(cut(play, counts))[1][2]), set(names_in(play)))


if __name__ == "__main__":
    unittest.main()
