"""What is promised of plays, counts and books as a whole: all that the program tells of them fits together."""

import unittest

from cuebook.books import cut, is_books, is_counts, total
from cuebook.casting import doubled, fitted
from cuebook.errors import Apart
from cuebook.joining import joined, plays_of
from cuebook.matching import false_moments, least, shown
from cuebook.plays import begins, is_play, names_in, words_in
from cuebook.prompting import holds_for
from cuebook.stage import performed
from cuebook.thrift import thrifty
from cuebook.texts import book_rows, play_rows, read_book, read_play
from drawn import cast_pairs, cast_triples, counts_as_in, drawn_books, drawn_pairs, drawn_plays, small_books, small_pairs


def doubled_pairs():
    """Doubled plays with the counts that are fitted to them."""
    return [(doubled(play, cast), fitted(play, cast, counts)) for play, cast, counts in cast_triples()]


def one_fewer(counts, at, number):
    row = counts[at]
    return counts[:at] + (row[:number] + (row[number] - 1,) + row[number + 1:],) + counts[at + 1:]


class Promise(unittest.TestCase):
    @classmethod
    def setUpClass(cls):
        cls.pairs = drawn_pairs() + small_pairs() + doubled_pairs()

    def test_the_pairs_are_of_both_kinds(self):
        good = [pair for pair in self.pairs if false_moments(*pair) == ()]
        self.assertGreater(len(good), 200)
        self.assertGreater(len(self.pairs) - len(good), 200)
        for play, counts in self.pairs:
            self.assertIs(is_counts(play, counts), True)

    def test_what_is_spoken_is_a_beginning_of_the_play(self):
        for play, counts in self.pairs:
            spoken, (kind, place, names) = performed(cut(play, counts))
            self.assertEqual(words_in(spoken), words_in(play)[:place])
            self.assertEqual([speech[0] for speech in spoken], [speech[0] for speech in play[:len(spoken)]])
            whole = spoken[:-1] if kind == "break" else spoken
            self.assertEqual(whole, play[:len(whole)])
            self.assertIn(kind, ("done", "break", "clash"))

    def test_it_is_the_whole_play_just_where_there_is_no_false_moment(self):
        for play, counts in self.pairs:
            found = performed(cut(play, counts))
            wanted = (play, ("done", len(words_in(play)), ()))
            self.assertEqual(found == wanted, false_moments(play, counts) == ())
            self.assertEqual(found[0] == play, false_moments(play, counts) == ())

    def test_else_it_ends_at_the_first_place_that_has_one(self):
        kinds = []
        for play, counts in self.pairs:
            moments = false_moments(play, counts)
            if moments == ():
                continue
            first = min(place for place, _, _ in moments)
            names = [name for place, name, _ in moments if place == first]
            kind = "break"
            if first in begins(play):
                kind = "clash"
                names.extend(play[begins(play).index(first)][0])
            self.assertEqual(performed(cut(play, counts))[1], (kind, first, tuple(sorted(names))))
            kinds.append(kind)
        self.assertGreater(min(kinds.count("break"), kinds.count("clash")), 50)

    def test_no_name_is_false_and_true_at_once(self):
        for play, counts in self.pairs:
            for place, name, at in false_moments(play, counts):
                self.assertLess(place, begins(play)[at])
                self.assertIn(name, play[at][0])
                if place in begins(play):
                    self.assertNotIn(name, play[begins(play).index(place)][0])

    def test_counts_are_good_just_where_none_is_below_the_least(self):
        for play, counts in self.pairs:
            below = [
                many < wanted for row, lowest in zip(counts, least(play)) for many, wanted in zip(row, lowest)
            ]
            self.assertEqual(any(below), false_moments(play, counts) != ())

    def test_the_least_counts_speak_the_play(self):
        for play in drawn_plays() + [doubled(*pair) for pair in cast_pairs()]:
            self.assertEqual(false_moments(play, least(play)), ())
            self.assertEqual(performed(cut(play, least(play))), (play, ("done", len(words_in(play)), ())))

    def test_one_word_less_has_a_false_moment_at_the_told_place(self):
        for play in drawn_plays() + [doubled(*pair) for pair in cast_pairs()[::3]]:
            counts = least(play)
            told = {(at, name): place for at, name, place in shown(play)}
            for at, (names, _) in enumerate(play):
                for number, name in enumerate(names):
                    self.assertEqual((at, name) in told, counts[at][number] > 1)
                    if (at, name) in told:
                        fewer = one_fewer(counts, at, number)
                        moments = false_moments(play, fewer)
                        self.assertIn((told[at, name], name, at), moments)
                        self.assertEqual({moment[1:] for moment in moments}, {(name, at)})
                        self.assertEqual(performed(cut(play, fewer))[1][1], moments[0][0])

    def test_holding_just_the_false_moments_brings_the_whole_play(self):
        for play, counts in self.pairs:
            wanted = (play, ("done", len(words_in(play)), ()))
            self.assertEqual(performed(cut(play, counts), holds_for(play, counts)), wanted)

    def test_each_hold_of_a_false_moment_is_needed(self):
        for play, counts in self.pairs[::7]:
            holds = holds_for(play, counts)
            for hold in holds[:5]:
                others = [other for other in holds if other != hold]
                end = performed(cut(play, counts), others)[1]
                self.assertEqual(end[1], hold[0])
                self.assertIn(hold[1], end[2])

    def test_thrifty_counts_held_speak_the_play(self):
        for play, counts in drawn_pairs()[::5]:
            found = thrifty(play, total(counts))
            self.assertLessEqual(len(false_moments(play, found)), len(false_moments(play, counts)))
            wanted = (play, ("done", len(words_in(play)), ()))
            self.assertEqual(performed(cut(play, found), holds_for(play, found)), wanted)

    def test_the_names_that_are_told_are_of_the_play(self):
        for play, counts in self.pairs:
            self.assertLessEqual(set(performed(cut(play, counts))[1][2]), set(names_in(play)))


class SpokenToTheEnd(unittest.TestCase):
    def spoken_from(self, books):
        """The play that the books are joined to; it is their only one. None, where they are apart."""
        try:
            play = joined(books)
        except Apart:
            return None
        self.assertIs(is_play(play), True)
        self.assertEqual(cut(play, counts_as_in(play, books)), books)
        self.assertEqual(plays_of(books), (play,))
        return play

    def test_books_of_any_kind(self):
        found = [self.spoken_from(books) for books in drawn_books() + small_books()]
        self.assertGreater(len(found) - found.count(None), 200)
        self.assertGreater(found.count(None), 100)

    def test_books_of_plays(self):
        for play, counts in drawn_pairs() + small_pairs()[::5] + doubled_pairs()[::2]:
            wanted = play if false_moments(play, counts) == () else None
            self.assertEqual(self.spoken_from(cut(play, counts)), wanted)

    def test_books_with_several_plays_or_none_are_apart(self):
        many = [len(plays_of(books)) for books in small_books()]
        for books, number in zip(small_books(), many):
            if number != 1:
                self.assertRaises(Apart, joined, books)
        self.assertGreater(min(many.count(0), many.count(2)), 30)


class RolesOfOnePlayer(unittest.TestCase):
    @classmethod
    def setUpClass(cls):
        cls.triples = cast_triples()
        cls.good = [triple for triple in cls.triples if false_moments(triple[0], triple[2]) == ()]

    def test_the_triples_are_of_both_kinds(self):
        self.assertGreater(len(self.good), 500)
        self.assertGreater(len(self.triples) - len(self.good), 500)

    def test_a_good_cutting_stays_good(self):
        for play, cast, counts in self.good:
            other = doubled(play, cast)
            books = cut(other, fitted(play, cast, counts))
            self.assertIs(is_books(books), True)
            self.assertEqual(performed(books), (other, ("done", len(words_in(play)), ())))
            self.assertEqual(joined(books), other)

    def test_a_bad_cutting_gains_no_false_moment(self):
        for play, cast, counts in self.triples:
            before = {(place, cast.get(name, name), at) for place, name, at in false_moments(play, counts)}
            self.assertLessEqual(set(false_moments(doubled(play, cast), fitted(play, cast, counts))), before)

    def test_what_is_written_speaks_alike(self):
        for play, cast, counts in self.triples[::4]:
            other = read_play(play_rows(doubled(play, cast)))
            books = cut(other, fitted(play, cast, counts))
            read = {name: read_book(name, book_rows(entries)) for name, entries in books.items()}
            self.assertEqual(read, books)
            self.assertEqual(performed(read), performed(books))


if __name__ == "__main__":
    unittest.main()
