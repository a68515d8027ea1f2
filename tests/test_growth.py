"""How time may grow: told by the number of the program's lines that are run, which is the same on every machine."""

import copy
import sys
import unittest

from cuebook.books import alike, cut, total, whole_counts
from cuebook.casting import doubled, fitted
from cuebook.changes import left_out, put_in, unlike
from cuebook.joining import joined, plays_of
from cuebook.matching import false_moments, false_places, least, shown
from cuebook.prompting import holds_for
from cuebook.stage import performed
from cuebook.texts import book_rows, play_rows, read_book, read_play
from cuebook.thrift import thrifty
from cuebook.troupe import Troupe
from samples import NAMES, long_play


def lines_run(asked):
    many = 0

    def trace(frame, event, argument):
        nonlocal many
        many += event == "line"
        return trace

    before = sys.gettrace()
    sys.settrace(trace)
    try:
        asked()
    finally:
        sys.settrace(before)
    return many


def by_turns(speeches, names=2, words=("a", "b")):
    """A play whose windows stay short, however long it is."""
    return tuple(((NAMES[at % names],), words) for at in range(speeches))


def one_long_window(many, names=1):
    """The same word again and again: each word is like each other one."""
    return ((("zoe",), ("a",) * many), (NAMES[:names], ("a",)))


def asked_of(play):
    at = len(play) - 1
    name = play[at][0][0]
    # Moments are asked with short cues, of which many come too early; spoken is with whole windows, so to the end.
    return {
        "performed": lambda: performed(cut(play, whole_counts(play))),
        "performed with holds": lambda: performed(
            cut(play, alike(play, 1)), [moment[:2] for moment in false_moments(play, alike(play, 1))]
        ),
        "false_places": lambda: false_places(play, at, name, 1),
        "false_moments": lambda: false_moments(play, alike(play, 1)),
        "false_moments of whole windows": lambda: false_moments(play, whole_counts(play)),
        "least": lambda: least(play),
        "shown": lambda: shown(play),
        "holds_for": lambda: holds_for(play, alike(play, 1)),
        "joined": lambda: joined(cut(play, whole_counts(play))),
    }


def asked_of_later_stages(play):
    name = play[-1][0][0]
    cast = {other: other[::-1] for other in NAMES}
    whole = cut(play, whole_counts(play))
    ones = cut(play, alike(play, 1))
    return {
        "doubled": lambda: doubled(play, cast),
        "fitted": lambda: fitted(play, cast, whole_counts(play)),
        "left_out": lambda: left_out(play, (0, len(play), 0)),
        "put_in": lambda: put_in(play, len(play), (("yan",), ("a",))),
        "unlike": lambda: unlike(whole, ones),
        "play_rows": lambda: play_rows(play),
        "book_rows": lambda: book_rows(whole[name]),
        "read_play": lambda: read_play(play_rows(play)),
        "read_book": lambda: read_book(name, book_rows(whole[name])),
    }


def asked_of_a_troupe(play):
    """Each line is said to a troupe of its own, which has been told the play."""
    troupe = Troupe()
    for row in play_rows(play):
        troupe.say("add " + row)
    troupe.say("cues 1")

    def said(line):
        other = copy.copy(troupe)
        return lambda: other.say(line)

    return {line: said(line) for line in (
        "add yan: a", "out 0", "double ann yan", "cues 3", "cues least", "go", "go held", "holds", "paper", "book ann", "size",
    )}


def thrift_bound(play):
    """The product of the cues, the sum of all windows and the longest window."""
    windows = [size for row in whole_counts(play)[1:] for size in row]
    return len(windows) * sum(windows) * max(windows)


def plays_of_a_hundred_words():
    many = [by_turns(50), by_turns(50, 8), by_turns(100, 3, ("a",)), by_turns(25, 8, ("a",) * 4)]
    many.extend(one_long_window(99, names) for names in (1, 3, 8))
    many.append((((NAMES[:4]), ("a",)), ((NAMES[4:]), ("a",))) * 50)
    drawn = [long_play(seed, 28, 2 + seed % 7, "a" * (seed % 2) + "ab") for seed in range(8)]
    return many + [play for play in drawn if sum(len(words) for _, words in play) <= 100]


class Growth(unittest.TestCase):
    asked = staticmethod(asked_of)

    def grows(self, small, large, most):
        """Lines grow at most so many times, with a tenth and some lines more allowed for what does not grow."""
        asked_of_large = self.asked(large)
        for what, asked in self.asked(small).items():
            with self.subTest(what):
                self.assertLessEqual(lines_run(asked_of_large[what]), lines_run(asked) * most * 1.1 + 200)

    def test_more_words_with_windows_as_they_were(self):
        self.grows(by_turns(50), by_turns(200), 4)
        self.grows(by_turns(50, 8), by_turns(200, 8), 4)

    def test_more_words_in_one_window(self):
        self.grows(one_long_window(50), one_long_window(200), 16)
        self.grows(one_long_window(50, 8), one_long_window(200, 8), 16)

    def test_more_names(self):
        self.grows(one_long_window(100, 2), one_long_window(100, 8), 4)

    def test_more_names_and_longer_windows(self):
        self.grows(by_turns(160, 2), by_turns(160, 8), 4 * 7)

    def test_the_largest_plays(self):
        play = one_long_window(391, 8)
        for what, asked in self.asked(play).items():
            with self.subTest(what):
                self.assertLessEqual(lines_run(asked), 10 * 400 * 8 * 400)


class LaterGrowth(Growth):
    asked = staticmethod(asked_of_later_stages)


class TroupeGrowth(Growth):
    asked = staticmethod(asked_of_a_troupe)


class ThriftGrowth(unittest.TestCase):
    def lines(self, play, most):
        return lines_run(lambda: thrifty(play, most))

    def grows(self, small, large):
        times = thrift_bound(large) / thrift_bound(small)
        for least_most in (True, False):
            few, many = [total(alike(play, 1)) if least_most else 10 ** 30 for play in (small, large)]
            self.assertLessEqual(self.lines(large, many), self.lines(small, few) * times * 1.1 + 300)

    def test_longer_windows(self):
        for names in (1, 2, 8):
            self.grows(one_long_window(24, names), one_long_window(96, names))

    def test_more_cues(self):
        self.grows(one_long_window(60, 2), one_long_window(60, 8))
        self.grows(by_turns(12), by_turns(48))
        self.grows(by_turns(16, 8, ("a", "a")), by_turns(48, 8, ("a", "a")))

    def test_plays_of_at_most_a_hundred_words(self):
        plays = plays_of_a_hundred_words()
        self.assertGreater(len(plays), 10)
        for play in plays:
            needed = total(alike(play, 1))
            whole = total(whole_counts(play))
            for most in (needed, (needed + whole) // 2, whole, 10 ** 30):
                self.assertLessEqual(self.lines(play, most), 3 * thrift_bound(play) + 3000)


class SearchGrowth(unittest.TestCase):
    def test_what_was_tried_in_vain_is_not_tried_again(self):
        # Nothing is promised for so many entries; but orders that come to the same would be tried by ten thousands.
        books = {name: ((("a",), (name,), ("a",)),) * 2 for name in NAMES[:5]}
        books["fay"] = (((), ("fay",), ("a",)), (("never",), ("fay",), ("a",)))
        self.assertLessEqual(lines_run(lambda: self.assertEqual(plays_of(books), ())), 500000)


if __name__ == "__main__":
    unittest.main()
