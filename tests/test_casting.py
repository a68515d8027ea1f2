import collections
import copy
import unittest

from cuebook.books import alike, is_counts, total, whole_counts
from cuebook.casting import doubled, fitted
from cuebook.errors import Meets, NoCast, NoCounts
from cuebook.matching import false_moments, least
from cuebook.plays import is_play, names_in, words_in
from drawn import cast_pairs, cast_plays, cast_triples, drawn_cast
from samples import NAMES, SHORT, SHORT_SIZES, Strange, numbers_from, odd_things, plain_window, refusals_of

# Ann and bob are off when cid and dan speak; eve speaks with either.
ROLES = (
    (("ann", "eve"), ("a", "b")),
    (("bob",), ("c",)),
    (("ann",), ("a", "b", "d")),
    (("eve",), ("e",)),
    (("cid",), ("a", "b")),
    (("dan", "eve"), ("f", "g", "h")),
    (("cid",), ("b",)),
)

NO_CASTS = [
    {"ann": "Bob"}, {"Ann": "bob"}, {"ann": ""}, {"": "ann"}, {"ann": "abcdefghi"}, {"abcdefghi": "ann"},
    {"ann": "bob "}, {"ann ": "bob"}, {"ann": "bob\n"}, {"ann": "b b"}, {"ann": "b7"}, {"a_b": "ann"},
    {"ann": None}, {None: "ann"}, {"ann": 7}, {7: "ann"}, {"ann": True}, {True: "ann"}, {"ann": ("bob",)},
    {("ann",): "bob"}, {"ann": ["bob"]}, {"ann": {"ann": "bob"}}, {"ann": Strange()}, {Strange(): "ann"},
    {"ann": "bob", "zoe": 7}, {"ann": "bob", 7: "zoe"}, {"zoe": "Zoe"}, {"zoe": None}, {b"ann": "bob"}, {"ann": b"bob"},
]


def meeting_place(play, cast):
    """The fields of Meets by which a cast is refused, or None."""
    ahead = []
    for place, (names, _) in enumerate(play):
        players = [cast.get(name, name) for name in names]
        many = collections.Counter(ahead + players)
        if many and max(many.values()) > 1:
            return {"place": place, "name": min(name for name in many if many[name] > 1)}
        ahead = players
    return None


class Casting(unittest.TestCase):
    def meets(self, play, cast, place, name):
        for asked in [lambda: doubled(play, cast), lambda: fitted(play, cast, whole_counts(play))]:
            with self.assertRaises(Meets) as taken:
                asked()
            self.assertEqual(vars(taken.exception), {"place": place, "name": name})
            self.assertEqual(refusals_of(taken.exception), ["CueError", "Meets"])
            self.assertIsInstance(taken.exception, ValueError)

    def no_cast(self, asked):
        with self.assertRaises(NoCast) as taken:
            asked()
        self.assertEqual(vars(taken.exception), {})
        self.assertEqual(refusals_of(taken.exception), ["CueError", "NoCast"])
        self.assertIsInstance(taken.exception, ValueError)


class Doubling(Casting):
    def names_of(self, play, cast):
        """The names of each speech of the doubled play; the words are as they were."""
        found = doubled(play, cast)
        self.assertIs(is_play(found), True)
        self.assertEqual([words for _, words in found], [words for _, words in play])
        return [names for names, _ in found]

    def test_names_that_are_not_in_the_cast_play_themselves(self):
        self.assertEqual(doubled(ROLES, {}), ROLES)
        self.assertEqual(
            self.names_of(ROLES, {"bob": "fay"}),
            [("ann", "eve"), ("fay",), ("ann",), ("eve",), ("cid",), ("dan", "eve"), ("cid",)],
        )

    def test_names_that_play_themselves(self):
        self.assertEqual(doubled(ROLES, {name: name for name in NAMES}), ROLES)
        self.assertEqual(doubled(ROLES, {"ann": "ann"}), ROLES)

    def test_several_roles_of_one_player(self):
        self.assertEqual(
            self.names_of(ROLES, {"ann": "zoe", "cid": "zoe"}),
            [("eve", "zoe"), ("bob",), ("zoe",), ("eve",), ("zoe",), ("dan", "eve"), ("zoe",)],
        )
        self.assertEqual(
            self.names_of(ROLES, {"ann": "dan", "bob": "cid"}),
            [("dan", "eve"), ("cid",), ("dan",), ("eve",), ("cid",), ("dan", "eve"), ("cid",)],
        )
        self.assertEqual(
            self.names_of(SHORT[:5:4], {"ann": "zoe", "bob": "ann", "cid": "bob"}), [("zoe",), ("ann", "bob")]
        )

    def test_three_roles_of_one_player(self):
        play = tuple(((name,), (name,)) for name in ("ann", "zoe", "bob", "zoe", "cid", "zoe", "dan"))
        self.assertEqual(
            self.names_of(play, {"ann": "eve", "bob": "eve", "cid": "eve"}),
            [("eve",), ("zoe",), ("eve",), ("zoe",), ("eve",), ("zoe",), ("dan",)],
        )

    def test_names_that_exchange_their_players(self):
        self.assertEqual(
            self.names_of(ROLES, {"ann": "bob", "bob": "ann"}),
            [("bob", "eve"), ("ann",), ("bob",), ("eve",), ("cid",), ("dan", "eve"), ("cid",)],
        )
        self.assertEqual(
            self.names_of(SHORT, {"ann": "cid", "cid": "ann", "eve": "bob", "bob": "eve"}),
            [("cid",), ("eve",), ("ann", "cid"), ("dan",), ("ann", "eve"), ("bob", "cid")],
        )

    def test_a_player_is_not_given_on(self):
        self.assertEqual(
            self.names_of(ROLES[:3], {"ann": "bob", "bob": "cid", "eve": "ann"}), [("ann", "bob"), ("cid",), ("bob",)]
        )

    def test_names_are_rising_by_their_players(self):
        self.assertEqual(self.names_of(SHORT, {"cid": "abe"})[2], ("abe", "ann"))
        self.assertEqual(self.names_of(SHORT, {"ann": "zoe"})[2], ("cid", "zoe"))
        names = tuple(sorted(NAMES))
        turned = dict(zip(names, reversed(names)))
        self.assertEqual(doubled(((names, ("a",)),), turned), ((names, ("a",)),))

    def test_a_cast_with_names_that_the_play_lacks(self):
        self.assertEqual(doubled(ROLES, {"zoe": "ann", "hal": "eve"}), ROLES)
        self.assertEqual(doubled((), {"ann": "bob"}), ())
        self.assertEqual(doubled((), {}), ())

    def test_meeting_in_one_speech(self):
        self.meets(SHORT, {"ann": "zoe", "cid": "zoe"}, 2, "zoe")
        self.meets(SHORT, {"cid": "ann"}, 2, "ann")
        self.meets(ROLES, {"ann": "eve"}, 0, "eve")
        self.meets(ROLES, {"eve": "ann"}, 0, "ann")
        self.meets(((("ann", "bob", "cid", "dan"), ("a",)),), {"ann": "dan", "bob": "cid"}, 0, "cid")
        self.meets(((("ann", "bob", "cid", "dan"), ("a",)),), {name: "zoe" for name in NAMES}, 0, "zoe")

    def test_meeting_in_neighbouring_speeches(self):
        self.meets(SHORT, {"bob": "ann"}, 1, "ann")
        self.meets(SHORT, {"ann": "bob"}, 1, "bob")
        self.meets(SHORT, {"ann": "zoe", "bob": "zoe"}, 1, "zoe")
        self.meets(ROLES, {"bob": "eve"}, 1, "eve")
        self.meets(ROLES, {"cid": "eve"}, 4, "eve")
        self.meets(ROLES, {"cid": "dan"}, 5, "dan")
        self.meets(ROLES, {"dan": "cid"}, 5, "cid")

    def test_not_neighbours_do_not_meet(self):
        play = ((("ann",), ("a",)), (("bob",), ("b",)), (("cid",), ("c",)))
        self.assertEqual(self.names_of(play, {"ann": "cid"}), [("cid",), ("bob",), ("cid",)])

    def test_a_player_may_meet_who_is_not_in_the_cast(self):
        self.meets(SHORT, {"dan": "cid"}, 3, "cid")
        self.assertEqual(self.names_of(SHORT, {"dan": "eve"})[3], ("eve",))

    def test_the_first_meeting_is_told(self):
        cast = {"ann": "zoe", "eve": "zoe", "bob": "abe", "cid": "abe"}
        self.meets(SHORT, cast, 2, "abe")
        self.meets(SHORT[3:], cast, 1, "abe")
        self.meets(SHORT[5:], cast, 0, "zoe")

    def test_the_least_player_there_is_told(self):
        play = ((("ann", "bob", "cid"), ("a",)), (("dan", "eve", "fay", "gus"), ("b",)))
        self.meets(play, {"dan": "cid", "eve": "bob"}, 1, "bob")
        self.meets(play, {"dan": "bob", "eve": "cid"}, 1, "bob")
        # One stands twice, another one right ahead, either of them the lesser one.
        self.meets(play, {"dan": "hal", "eve": "hal", "fay": "cid"}, 1, "cid")
        self.meets(play, {"dan": "aa", "eve": "aa", "fay": "cid"}, 1, "aa")
        # The lesser one comes from the later role.
        self.meets(play, {"dan": "zoe", "eve": "zoe", "fay": "yan", "gus": "yan"}, 1, "yan")

    def test_drawn_casts(self):
        numbers = numbers_from(5)
        many = collections.Counter()
        for play in cast_plays():
            for _ in range(6):
                cast = drawn_cast(numbers)
                wanted = meeting_place(play, cast)
                many[wanted is None] += 1
                if wanted is None:
                    names = [tuple(sorted(cast.get(name, name) for name in speech[0])) for speech in play]
                    self.assertEqual(self.names_of(play, cast), names)
                else:
                    self.meets(play, cast, wanted["place"], wanted["name"])
        self.assertGreater(min(many.values()), 100)

    def test_drawn_casts_without_meeting(self):
        fewer = 0
        for play, cast in cast_pairs():
            names = self.names_of(play, cast)
            self.assertEqual(names, [tuple(sorted(cast[name] for name in speech[0])) for speech in play])
            fewer += len(names_in(doubled(play, cast))) < len(names_in(play))
        self.assertGreater(fewer, 200)

    def test_what_is_no_cast(self):
        for cast in odd_things() + NO_CASTS + [[("ann", "bob")], (("ann", "bob"),), "ann", {"ann", "bob"}]:
            for play in ((), ROLES, SHORT):
                self.no_cast(lambda: doubled(play, cast))

    def test_no_cast_comes_ahead_of_a_meeting(self):
        for amiss in NO_CASTS:
            self.no_cast(lambda: doubled(ROLES, {"eve": "bob", **amiss}))
            self.no_cast(lambda: doubled(SHORT, {**amiss, "bob": "cid"}))

    def test_longest_names(self):
        self.assertEqual(doubled(ROLES[1:2], {"bob": "abcdefgh"}), ((("abcdefgh",), ("c",)),))
        self.assertEqual(doubled(ROLES[1:2], {"bob": "z", "abcdefgh": "z"}), ((("z",), ("c",)),))

    def test_the_cast_stays_as_it_was(self):
        for cast in [{}, {"ann": "zoe", "cid": "zoe"}, {"ann": "eve"}, {"ann": "bob", "bob": "ann", "zoe": "dan"}]:
            before = list(cast.items())
            for asked in [lambda: doubled(ROLES, cast), lambda: fitted(ROLES, cast, whole_counts(ROLES))]:
                try:
                    asked()
                except Meets:
                    pass
                self.assertEqual(list(cast.items()), before)

    def test_the_cast_is_not_kept(self):
        cast = {"ann": "zoe"}
        first = doubled(ROLES, cast)
        cast["ann"] = "yan"
        cast["bob"] = "abe"
        self.assertEqual([names for names, _ in first][:2], [("eve", "zoe"), ("bob",)])
        self.assertEqual([names for names, _ in doubled(ROLES, cast)][:2], [("eve", "yan"), ("abe",)])

    def test_doubled_twice(self):
        once = doubled(ROLES, {"ann": "zoe"})
        self.assertEqual(doubled(once, {"zoe": "ann"}), ROLES)
        self.assertEqual(doubled(once, {"ann": "bob"}), once)


class Fitting(Casting):
    def fits(self, play, cast, counts, wanted):
        found = fitted(play, cast, counts)
        self.assertEqual(found, wanted)
        self.assertIs(is_counts(doubled(play, cast), found), True)

    def test_by_hand(self):
        # Ann's windows: 0, 1; bob's 2; eve's 0, 4, 2; cid's 7 and 3; dan's 9.
        whole = ((0, 0), (2,), (1,), (4,), (7,), (9, 2), (3,))
        self.assertEqual(whole_counts(ROLES), whole)
        self.fits(ROLES, {}, whole, whole)
        # By ann's player cid's first window begins behind ann's last speech.
        self.fits(ROLES, {"cid": "ann"}, whole, ((0, 0), (2,), (1,), (4,), (1,), (9, 2), (3,)))
        self.fits(ROLES, {"cid": "ann"}, alike(ROLES, 1), alike(ROLES, 1))
        self.fits(ROLES, {"dan": "bob"}, whole, ((0, 0), (2,), (1,), (4,), (7,), (6, 2), (3,)))
        self.fits(
            ROLES, {"dan": "bob"}, ((0, 0), (1,), (1,), (3,), (6,), (5, 1), (2,)),
            ((0, 0), (1,), (1,), (3,), (6,), (5, 1), (2,)),
        )
        self.fits(
            ROLES, {"dan": "bob"}, ((0, 0), (1,), (1,), (3,), (6,), (7, 1), (2,)),
            ((0, 0), (1,), (1,), (3,), (6,), (6, 1), (2,)),
        )

    def test_numbers_are_in_the_order_of_the_players(self):
        whole = ((0, 0), (2,), (1,), (4,), (7,), (9, 2), (3,))
        self.fits(ROLES, {"dan": "zoe"}, whole, ((0, 0), (2,), (1,), (4,), (7,), (2, 9), (3,)))
        self.fits(ROLES, {"eve": "abe"}, whole, ((0, 0), (2,), (1,), (4,), (7,), (2, 9), (3,)))
        self.fits(ROLES, {"dan": "eve", "eve": "dan"}, whole, ((0, 0), (2,), (1,), (4,), (7,), (2, 9), (3,)))
        # Dan's player is the later one now, and has spoken as bob.
        self.fits(
            ROLES, {"dan": "zoe", "bob": "zoe"}, ((0, 0), (2,), (1,), (4,), (7,), (8, 1), (3,)),
            ((0, 0), (2,), (1,), (4,), (7,), (1, 6), (3,)),
        )
        play = ((("zoe",), ("a", "b", "c")), (("ann", "bob", "cid"), ("d",)))
        self.fits(play, {"ann": "eve", "cid": "abe"}, ((0,), (1, 2, 3)), ((0,), (3, 2, 1)))
        self.fits(play, {"ann": "bob", "bob": "cid", "cid": "ann"}, ((0,), (1, 2, 3)), ((0,), (3, 1, 2)))

    def test_no_speeches(self):
        self.fits((), {}, (), ())
        self.fits((), {"ann": "bob"}, (), ())

    def test_a_first_speech_alone(self):
        self.fits(ROLES[:1], {"ann": "zoe"}, ((0, 0),), ((0, 0),))

    def test_drawn_ones(self):
        smaller = 0
        for play, cast, counts in cast_triples():
            other = doubled(play, cast)
            wanted = []
            for at, (names, _) in enumerate(play):
                row = {}
                for name, many in zip(names, counts[at]):
                    row[cast.get(name, name)] = min(many, len(plain_window(other, at, cast.get(name, name))))
                wanted.append(tuple(row[name] for name in sorted(row)))
            self.fits(play, cast, counts, tuple(wanted))
            smaller += total(wanted) < total(counts)
        self.assertGreater(smaller, 300)

    def test_counts_without_false_moments_have_none_in_the_doubled_play(self):
        good = [
            triple for triple in cast_triples() if false_moments(triple[0], triple[2]) == () and len(triple[0]) > 1
        ]
        self.assertGreater(len(good), 600)
        for play, cast, counts in good:
            self.assertEqual(false_moments(doubled(play, cast), fitted(play, cast, counts)), ())

    def test_no_least_count_is_above_the_one_of_the_role(self):
        below = 0
        for play, cast in cast_pairs():
            other = doubled(play, cast)
            for at, (names, _) in enumerate(play):
                lowest = dict(zip(other[at][0], least(other)[at]))
                for name, many in zip(names, least(play)[at]):
                    self.assertLessEqual(lowest[cast.get(name, name)], many)
                    below += lowest[cast.get(name, name)] < many
        self.assertGreater(below, 50)

    def test_counts_that_are_none(self):
        wrong = [
            (((0, 0), (3,)) + SHORT_SIZES[2:], 0),
            (SHORT_SIZES[:1] + ((3,),) + SHORT_SIZES[2:], 1),
            (SHORT_SIZES[:2] + ((5, 3),) + SHORT_SIZES[3:], 2),
            (SHORT_SIZES[:5] + ((0, 1),), 5),
            (SHORT_SIZES[:5] + ([4, 10],), 5),
            (SHORT_SIZES[:3], 3), (SHORT_SIZES + ((1,),), 6), (list(SHORT_SIZES), 6), ((), 0), (None, 6), (7, 6), ("", 6),
        ]
        casts = [{}, {"dan": "eve"}, {"ann": "zoe", "cid": "zoe"}, None, {"ann": 7}, [], {7: "ann"}]
        for counts, place in wrong:
            for cast in casts:
                with self.subTest(counts=counts, cast=cast):
                    with self.assertRaises(NoCounts) as taken:
                        fitted(SHORT, cast, counts)
                    self.assertEqual(vars(taken.exception), {"place": place})
                    self.assertEqual(refusals_of(taken.exception), ["CueError", "NoCounts"])

    def test_counts_of_the_doubled_play_are_refused(self):
        # Counts are those of the play as it was, also where the doubled one has others.
        with self.assertRaises(NoCounts) as taken:
            fitted(ROLES, {"dan": "zoe"}, ((0, 0), (2,), (1,), (4,), (7,), (2, 9), (3,)))
        self.assertEqual(taken.exception.place, 5)

    def test_odd_things_for_counts(self):
        for thing in odd_things():
            with self.assertRaises(NoCounts):
                fitted(SHORT, {}, thing)

    def test_what_is_no_cast(self):
        for cast in odd_things() + NO_CASTS:
            self.no_cast(lambda: fitted(SHORT, cast, SHORT_SIZES))
            self.no_cast(lambda: fitted((), cast, ()))

    def test_no_cast_comes_ahead_of_a_meeting(self):
        self.no_cast(lambda: fitted(SHORT, {"bob": "ann", "zoe": 7}, SHORT_SIZES))
        self.meets(SHORT, {"bob": "ann"}, 1, "ann")

    def test_nothing_is_changed(self):
        cast = {"eve": "zoe", "dan": "zoe", "bob": "abe"}
        things = (SHORT, cast, SHORT_SIZES)
        before = copy.deepcopy(things)
        first = fitted(*things)
        self.assertEqual(things, before)
        self.assertEqual(fitted(*things), first)

    def test_kinds(self):
        for play, cast, counts in cast_triples()[::9]:
            found = fitted(play, cast, counts)
            self.assertIs(type(found), tuple)
            for row in found:
                self.assertIs(type(row), tuple)
                self.assertEqual({type(number) for number in row}, {int})
            self.assertEqual(words_in(doubled(play, cast)), words_in(play))


if __name__ == "__main__":
    unittest.main()
