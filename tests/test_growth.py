"""How time may grow: told by the number of the program's lines that are run, which is the same on every machine."""

import sys
import unittest

from cuebook.books import alike, cut, whole_counts
from cuebook.matching import false_moments, false_places, least, shown
from cuebook.stage import performed
from samples import NAMES


def lines_run(asked):
    many = 0

    def trace(frame, event, argument):
        nonlocal many
        many += event == "line"
        return trace

    before = sys.gettrace()
    sys.settrace(trace)
    try:
        asked()
    finally:
        sys.settrace(before)
    return many


def by_turns(speeches, names=2, words=("a", "b")):
    """A play whose windows stay short, however long it is."""
    return tuple(((NAMES[at % names],), words) for at in range(speeches))


def one_long_window(many, names=1):
    """The same word again and again: each word is like each other one."""
    return ((("zoe",), ("a",) * many), (NAMES[:names], ("a",)))


def asked_of(play):
    at = len(play) - 1
    name = play[at][0][0]
    # Moments are asked with short cues, of which many come too early; spoken is with whole windows, so to the end.
    return {
        "performed": lambda: performed(cut(play, whole_counts(play))),
        "performed with holds": lambda: performed(
            cut(play, alike(play, 1)), [moment[:2] for moment in false_moments(play, alike(play, 1))]
        ),
        "false_places": lambda: false_places(play, at, name, 1),
        "false_moments": lambda: false_moments(play, alike(play, 1)),
        "false_moments of whole windows": lambda: false_moments(play, whole_counts(play)),
        "least": lambda: least(play),
        "shown": lambda: shown(play),
    }


class Growth(unittest.TestCase):
    def grows(self, small, large, most):
        """Lines grow at most so many times, with a tenth and some lines more allowed for what does not grow."""
        for what, asked in asked_of(small).items():
            with self.subTest(what):
                self.assertLessEqual(lines_run(asked_of(large)[what]), lines_run(asked) * most * 1.1 + 200)

    def test_more_words_with_windows_as_they_were(self):
        self.grows(by_turns(50), by_turns(200), 4)
        self.grows(by_turns(50, 8), by_turns(200, 8), 4)

    def test_more_words_in_one_window(self):
        self.grows(one_long_window(50), one_long_window(200), 16)
        self.grows(one_long_window(50, 8), one_long_window(200, 8), 16)

    def test_more_names(self):
        self.grows(one_long_window(100, 2), one_long_window(100, 8), 4)

    def test_more_names_and_longer_windows(self):
        self.grows(by_turns(160, 2), by_turns(160, 8), 4 * 7)

    def test_the_largest_plays(self):
        play = one_long_window(391, 8)
        for what, asked in asked_of(play).items():
            with self.subTest(what):
                self.assertLessEqual(lines_run(asked), 10 * 400 * 8 * 400)


if __name__ == "__main__":
    unittest.main()
