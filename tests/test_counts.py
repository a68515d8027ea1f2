import unittest

from cuebook.books import alike, cut, is_counts, total, whole_counts
from cuebook.errors import NoCounts
from cuebook.plays import window
from samples import SHORT, SHORT_SIZES, Strange, long_plays, looped, nested, odd_things, plain_window

LOWEST = ((0,), (1,), (1, 1), (1,), (1, 1), (1, 1))


def changed(counts, at, row):
    return counts[:at] + (row,) + counts[at + 1:]


def amiss_rows(row, first):
    """What is no tuple of counts, made of such a tuple by one change."""
    size = row[-1]
    rest = row[:-1]
    found = [
        rest, row + (1,), row + (0,), row[:0], list(row), rest + (size + 1,), rest + (-1,), rest + (-size - 1,),
        rest + (10 ** 50,), rest + (None,), rest + ("1",), rest + ((1,),), rest + ([1],), rest + (1.0,), rest + (0.0,),
        rest + (True,), rest + (False,), rest + (Strange(),), None, 7, size, True, "1", {0: 1}, {}, Strange(), looped(),
    ]
    return found if first else found + [rest + (0,)]


class Counts(unittest.TestCase):
    def test_whole_counts(self):
        self.assertEqual(whole_counts(()), ())
        self.assertEqual(whole_counts(((("ann", "bob"), ("a", "b")),)), ((0, 0),))
        self.assertEqual(whole_counts(SHORT), SHORT_SIZES)

    def test_whole_counts_of_longer_plays(self):
        for play in long_plays():
            wanted = tuple(
                tuple(len(plain_window(play, at, name)) for name in names) for at, (names, _) in enumerate(play)
            )
            self.assertEqual(whole_counts(play), wanted)
            self.assertIs(is_counts(play, wanted), True)

    def test_alike(self):
        self.assertEqual(alike((), 1), ())
        self.assertEqual(alike(SHORT, 1), LOWEST)
        self.assertEqual(alike(SHORT, 2), ((0,), (2,), (2, 2), (2,), (2, 2), (2, 2)))
        self.assertEqual(alike(SHORT, 3), ((0,), (2,), (3, 3), (3,), (3, 2), (3, 3)))
        self.assertEqual(alike(SHORT, 4), ((0,), (2,), (3, 4), (4,), (3, 2), (4, 4)))
        self.assertEqual(alike(SHORT, 9), ((0,), (2,), (3, 5), (6,), (3, 2), (4, 9)))
        for many in (10, 11, 1000, 10 ** 50):
            self.assertEqual(alike(SHORT, many), SHORT_SIZES)

    def test_alike_of_longer_plays(self):
        for play in long_plays():
            for many in (1, 2, 5, 40, 1000):
                counts = alike(play, many)
                self.assertIs(is_counts(play, counts), True)
                for at, (names, _) in enumerate(play):
                    wanted = tuple(min(many, len(plain_window(play, at, name))) for name in names)
                    self.assertEqual(counts[at], wanted)

    def test_total(self):
        self.assertEqual(total(()), 0)
        self.assertEqual(total(((0,),)), 0)
        self.assertEqual(total(((0, 0), (3,), (1, 20), (4,))), 28)
        self.assertEqual(total(LOWEST), 8)
        self.assertEqual(total(SHORT_SIZES), 35)

    def test_tuples(self):
        for found in [whole_counts(SHORT), alike(SHORT, 2)]:
            self.assertIsInstance(found, tuple)
            for row in found:
                self.assertIsInstance(row, tuple)


class BeingCounts(unittest.TestCase):
    def test_counts(self):
        for counts in [LOWEST, SHORT_SIZES, ((0,), (2,), (1, 4), (6,), (2, 1), (3, 7))]:
            self.assertIs(is_counts(SHORT, counts), True)
        self.assertIs(is_counts((), ()), True)
        self.assertIs(is_counts(SHORT[:1], ((0,),)), True)

    def test_each_number_from_one_to_the_window(self):
        for at, row in enumerate(SHORT_SIZES):
            for number, size in enumerate(row):
                for many in range(-2, size + 3):
                    counts = changed(LOWEST, at, LOWEST[at][:number] + (many,) + LOWEST[at][number + 1:])
                    wanted = many == 0 if at == 0 else 1 <= many <= size
                    with self.subTest(at, number=number, many=many):
                        self.assertIs(is_counts(SHORT, counts), wanted)

    def test_rows_that_are_amiss(self):
        for base in [LOWEST, SHORT_SIZES]:
            for at in range(len(SHORT)):
                for number, row in enumerate(amiss_rows(SHORT_SIZES[at], at == 0)):
                    with self.subTest(at, number=number):
                        self.assertIs(is_counts(SHORT, changed(base, at, row)), False)

    def test_truths_are_no_numbers(self):
        self.assertIs(is_counts(SHORT, changed(LOWEST, 0, (False,))), False)
        self.assertIs(is_counts(SHORT, changed(LOWEST, 1, (True,))), False)
        self.assertIs(is_counts(SHORT, changed(LOWEST, 2, (True, 1))), False)
        self.assertIs(is_counts(SHORT, changed(LOWEST, 2, (1, True))), False)

    def test_a_tuple_more_or_fewer(self):
        for counts in [LOWEST + ((1,),), LOWEST + ((),), LOWEST + (None,), LOWEST[:-1], LOWEST[1:], (), LOWEST * 2]:
            self.assertIs(is_counts(SHORT, counts), False)
        for counts in [((),), ((0,),), (0,), (None,)]:
            self.assertIs(is_counts((), counts), False)

    def test_lists_in_the_place_of_tuples(self):
        self.assertIs(is_counts(SHORT, list(LOWEST)), False)
        self.assertIs(is_counts(SHORT, tuple(list(row) for row in LOWEST)), False)
        self.assertIs(is_counts((), []), False)

    def test_things_of_any_kind(self):
        for number, thing in enumerate(odd_things() + [{}, nested(100000), SHORT]):
            with self.subTest(number):
                self.assertIs(is_counts(SHORT, thing), False)
                self.assertIs(is_counts((), thing), False)
                self.assertIs(is_counts(SHORT, changed(LOWEST, 3, thing)), False)


class RefusingCounts(unittest.TestCase):
    def refused(self, play, counts, place):
        with self.assertRaises(NoCounts) as taken:
            cut(play, counts)
        self.assertEqual(taken.exception.place, place)

    def test_the_first_row_that_is_amiss(self):
        for at in range(len(SHORT)):
            for number, row in enumerate(amiss_rows(SHORT_SIZES[at], at == 0)):
                with self.subTest(at, number=number):
                    counts = changed(LOWEST, at, row)
                    self.refused(SHORT, counts, at)
                    self.refused(SHORT, counts[:at + 1], at)
                    self.refused(SHORT, counts + ((1,),), at)
                    self.refused(SHORT, counts[:at + 1] + (row,) * 9, at)

    def test_the_second_name_of_a_row(self):
        for row in [(1, 0), (1, 6), (1, True), (1, None), (0, 1), (4, 1), (True, 1), (None, 1)]:
            with self.subTest(row):
                self.refused(SHORT, changed(LOWEST, 2, row), 2)

    def test_too_few_rows(self):
        for many in range(len(SHORT)):
            self.refused(SHORT, LOWEST[:many], many)

    def test_too_many_rows(self):
        for more in [((1,),), ((),), (None,), (0,), (Strange(),), ((1,),) * 50]:
            self.refused(SHORT, LOWEST + more, len(SHORT))
            self.refused((), more, 0)

    def test_no_tuple(self):
        for thing in odd_things() + [{}, list(LOWEST), [], [None], {0: (0,)}]:
            if not isinstance(thing, tuple):
                self.refused(SHORT, thing, len(SHORT))
                self.refused(SHORT[:1], thing, 1)
                self.refused((), thing, 0)

    def test_things_of_any_kind(self):
        for number, thing in enumerate(odd_things()):
            with self.subTest(number):
                self.refused(SHORT, thing, 0 if isinstance(thing, tuple) else len(SHORT))

    def test_counts_of_another_play(self):
        play = SHORT[:3] + ((("dan", "eve"), ("that", "is")),) + SHORT[4:]
        self.refused(play, LOWEST, 3)
        self.assertEqual(window(play, 5, "eve"), ("the", "question"))
        self.refused(play, changed(changed(SHORT_SIZES, 3, (1, 1)), 5, (4, 3)), 5)


if __name__ == "__main__":
    unittest.main()
