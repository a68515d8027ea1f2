import unittest

from cuebook.players import Held, Player
from samples import numbers_from

OPENING = ((), ("ann",), ("to", "be"))
REPLY = (("or", "not"), ("ann", "cid"), ("be",))
LAST = (("question",), ("ann",), ("that", "is"))
STUTTER = (("a", "a", "b"), ("ann",), ("c",))


def hear_all(player, words):
    for word in words:
        player.hear(word)


def ready_behind(player, words):
    """Whether it is ready ahead of the words, and behind each of them."""
    found = [player.ready()]
    for word in words:
        player.hear(word)
        found.append(player.ready())
    return found


class PlayerRules:
    """What holds for a Player, and for a Held one that is nowhere held."""

    def made(self, entries):
        raise NotImplementedError

    def test_entries_in_their_order(self):
        player = self.made((OPENING, REPLY, LAST))
        for entry in [OPENING, REPLY, LAST]:
            self.assertEqual(player.entry(), entry)
            self.assertEqual(player.entry(), entry)
            self.assertIsNone(player.spoke())
        self.assertIsNone(player.entry())

    def test_hearing_does_not_change_the_entry(self):
        player = self.made((REPLY, LAST))
        hear_all(player, ("or", "not", "question"))
        self.assertEqual(player.entry(), REPLY)

    def test_answers_none(self):
        player = self.made((REPLY,))
        self.assertIsNone(player.hear("or"))
        self.assertIsNone(player.spoke())

    def test_ready_tells_a_truth(self):
        player = self.made((OPENING, REPLY))
        self.assertIs(player.ready(), True)
        player.hear("to")
        self.assertIs(player.ready(), False)
        player.spoke()
        self.assertIs(player.ready(), False)
        hear_all(player, REPLY[0])
        self.assertIs(player.ready(), True)
        self.assertIs(player.ready(), True)
        player.spoke()
        self.assertIs(player.ready(), False)

    def test_a_cue_that_has_just_come(self):
        self.assertEqual(ready_behind(self.made((REPLY,)), ("or", "not")), [False, False, True])
        self.assertEqual(ready_behind(self.made((LAST,)), ("question",)), [False, True])
        words = ("that", "is", "or", "not")
        self.assertEqual(ready_behind(self.made((REPLY,)), words), [False] * 4 + [True])

    def test_a_cue_that_came_earlier(self):
        self.assertEqual(ready_behind(self.made((REPLY,)), ("or", "not", "to")), [False, False, True, False])
        words = ("or", "not", "not", "or", "not", "or")
        self.assertEqual(ready_behind(self.made((REPLY,)), words), [False, False, True, False, False, True, False])

    def test_a_cue_that_came_only_in_part(self):
        self.assertEqual(ready_behind(self.made((REPLY,)), ("not", "or", "be", "not")), [False] * 5)
        self.assertEqual(ready_behind(self.made((STUTTER,)), ("a", "b", "b", "a", "b")), [False] * 6)
        self.assertEqual(ready_behind(self.made((STUTTER,)), ("a", "a", "c", "b")), [False] * 5)

    def test_more_of_the_same_ahead_of_a_cue(self):
        words = ("a", "a", "a", "a", "b", "a", "a", "b", "b")
        self.assertEqual(ready_behind(self.made((STUTTER,)), words), [False] * 5 + [True, False, False, True, False])

    def test_a_cue_that_overlaps_itself(self):
        player = self.made(((("a", "b", "a"), ("ann",), ("c",)),))
        self.assertEqual(ready_behind(player, ("a", "b", "a", "b", "a")), [False, False, False, True, False, True])

    def test_words_are_heard_whole(self):
        for words in [("ornot",), ("or", "no"), ("or", "nott"), ("o", "r", "not"), ("oor", "not")]:
            self.assertEqual(ready_behind(self.made((REPLY,)), words), [False] * (len(words) + 1))

    def test_no_cue_ahead_of_anything_heard_or_spoken(self):
        self.assertIs(self.made((OPENING,)).ready(), True)
        self.assertIs(self.made((OPENING, REPLY)).ready(), True)

    def test_no_cue_behind_something_heard(self):
        self.assertEqual(ready_behind(self.made((OPENING, REPLY)), ("to", "or", "not")), [True, False, False, False])

    def test_no_cue_behind_something_spoken(self):
        player = self.made((REPLY, OPENING))
        self.assertIs(player.ready(), False)
        player.spoke()
        self.assertEqual(player.entry(), OPENING)
        self.assertEqual(ready_behind(player, ("or", "not")), [False, False, False])

    def test_what_was_heard_ahead_of_its_own_speech(self):
        player = self.made((OPENING, REPLY, LAST))
        player.hear("or")
        player.spoke()
        self.assertEqual(ready_behind(player, ("not", "or", "not")), [False, False, False, True])
        player.hear("question")
        player.spoke()
        self.assertEqual(ready_behind(player, ("or", "not", "question")), [False, False, False, True])

    def test_the_cue_of_the_entry_that_is_next(self):
        player = self.made((OPENING, REPLY, LAST))
        player.spoke()
        self.assertEqual(ready_behind(player, ("question", "or", "not")), [False, False, False, True])

    def test_the_same_cue_again(self):
        player = self.made((REPLY, REPLY, REPLY))
        for _ in range(3):
            self.assertEqual(ready_behind(player, ("or", "not")), [False, False, True])
            player.spoke()
        self.assertEqual(ready_behind(player, ("or", "not")), [False, False, False])

    def test_no_entry_left(self):
        player = self.made((REPLY,))
        hear_all(player, REPLY[0])
        player.spoke()
        self.assertIsNone(player.entry())
        self.assertEqual(ready_behind(player, ("or", "not", "question")), [False] * 4)
        self.assertIsNone(player.entry())

    def test_no_entries_at_all(self):
        player = self.made(())
        self.assertIsNone(player.entry())
        self.assertEqual(ready_behind(player, ("or", "not")), [False] * 3)

    def test_two_players_do_not_share_what_they_hear(self):
        first = self.made((REPLY, LAST))
        second = self.made((REPLY, LAST))
        hear_all(first, REPLY[0])
        self.assertIs(second.ready(), False)
        first.spoke()
        self.assertEqual(second.entry(), REPLY)

    def test_drawn_words(self):
        numbers = numbers_from(5)
        for _ in range(100):
            cue = tuple("ab"[next(numbers) % 2] for _ in range(1 + next(numbers) % 5))
            words = tuple("ab"[next(numbers) % 2] for _ in range(20))
            wanted = [words[:many][-len(cue):] == cue for many in range(len(words) + 1)]
            self.assertEqual(ready_behind(self.made(((cue, ("ann",), ("c",)),)), words), wanted)


class Players(PlayerRules, unittest.TestCase):
    def made(self, entries):
        return Player("ann", entries)


class HeldNowhere(PlayerRules, unittest.TestCase):
    def made(self, entries):
        return Held("ann", entries, [])


class HeldElsewhere(PlayerRules, unittest.TestCase):
    def made(self, entries):
        player = Held("ann", entries, (0, 1, 2, 9))
        player.count(3)
        return player


class HeldPlayers(unittest.TestCase):
    def ready_at(self, player, places):
        found = []
        for place in places:
            self.assertIsNone(player.count(place))
            found.append(player.ready())
        return found

    def test_it_is_a_player(self):
        self.assertIsInstance(Held("ann", (REPLY,), ()), Player)

    def test_places_as_a_list_and_as_a_tuple(self):
        for places in [[2, 4], (2, 4), [4, 2, 2, 4], (4, 4, 2)]:
            player = Held("ann", (REPLY,), places)
            hear_all(player, REPLY[0])
            self.assertEqual(self.ready_at(player, range(6)), [True, True, False, True, False, True])

    def test_ready_tells_a_truth(self):
        player = Held("ann", (OPENING,), [0])
        self.assertIs(player.ready(), False)
        player.count(1)
        self.assertIs(player.ready(), True)

    def test_zero_ahead_of_the_first_count(self):
        self.assertIs(Held("ann", (OPENING,), (0,)).ready(), False)
        self.assertIs(Held("ann", (OPENING,), (1, 2)).ready(), True)
        player = Held("ann", (REPLY,), (0,))
        hear_all(player, REPLY[0])
        self.assertIs(player.ready(), False)
        self.assertEqual(self.ready_at(player, [2, 0, 2]), [True, False, True])

    def test_words_heard_are_not_counted(self):
        player = Held("ann", (REPLY,), (2,))
        hear_all(player, REPLY[0])
        self.assertIs(player.ready(), True)

    def test_the_last_count_stays_behind_a_speech(self):
        player = Held("ann", (OPENING, REPLY), (5,))
        player.count(5)
        player.spoke()
        hear_all(player, REPLY[0])
        self.assertIs(player.ready(), False)
        player.count(6)
        self.assertIs(player.ready(), True)

    def test_not_held_but_its_cue_has_not_come(self):
        player = Held("ann", (REPLY,), (2,))
        self.assertEqual(self.ready_at(player, range(4)), [False] * 4)
        player.hear("or")
        self.assertEqual(self.ready_at(player, range(4)), [False] * 4)

    def test_held_where_its_cue_comes_and_not_where_it_comes_again(self):
        player = Held("ann", (REPLY,), (2,))
        found = []
        for place, word in enumerate(("or", "not", "to", "or", "not"), start=1):
            player.count(place)
            player.hear(word)
            found.append(player.ready())
        self.assertEqual(found, [False, False, False, False, True])

    def test_no_entry_left(self):
        player = Held("ann", (REPLY,), (2,))
        player.spoke()
        hear_all(player, REPLY[0])
        self.assertEqual(self.ready_at(player, range(4)), [False] * 4)

    def test_a_list_that_is_changed_behind_it(self):
        places = [2, 4]
        player = Held("ann", (REPLY,), places)
        hear_all(player, REPLY[0])
        places.append(3)
        places[0] = 1
        self.assertEqual(self.ready_at(player, range(6)), [True, True, False, True, False, True])
        places.clear()
        self.assertEqual(self.ready_at(player, range(6)), [True, True, False, True, False, True])

    def test_the_list_stays_as_it_was(self):
        places = [4, 2, 2]
        player = Held("ann", (OPENING, REPLY), places)
        self.ready_at(player, range(6))
        player.spoke()
        self.assertEqual(places, [4, 2, 2])


if __name__ == "__main__":
    unittest.main()
