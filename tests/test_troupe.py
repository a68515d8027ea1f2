import re
import unittest

from cuebook.books import alike, cut, total, whole_counts
from cuebook.casting import doubled
from cuebook.changes import left_out
from cuebook.errors import CueError, Meets, NoLine, NoPlay, TooFew, Unknown
from cuebook.matching import false_moments, least
from cuebook.plays import names_in, words_in
from cuebook.prompting import holds_for
from cuebook.stage import performed
from cuebook.texts import play_rows, read_play
from cuebook.troupe import Troupe
from drawn import drawn_plays, in_acts
from rows import NO_SPEECH, with_one_sign_changed
from samples import NAMES, SHORT, SHORT_SIZES, numbers_from, odd_things, refusals_of

# By one word each, cid comes in behind "to", dan behind "be" with bob.
SHORT_LEAST = ((0,), (1,), (1, 2), (3,), (1, 1), (1, 1))
SHORT_ONES = ((0,), (1,), (1, 1), (1,), (1, 1), (1, 1))

NUMBER = "(0|[1-9][0-9]{0,3})"
NAME = "[a-z]{1,8}"
LINES = (
    f"add {NAME}( {NAME}){{0,7}}:( [a-z]{{1,12}})+", f"out {NUMBER}", f"double {NAME} {NAME}", "cues [1-9][0-9]{0,3}",
    "cues least", "go", "go held", "holds", "paper", f"thrift {NUMBER}", f"book {NAME}", "size",
)

SAMPLE_LINES = (
    "add zoe: to be", "add zo zu: a b", "out 0", "out 10", "out 1234", "double ann zoe", "cues 1", "cues 10", "cues 9999",
    "cues least", "go", "go held", "holds", "paper", "thrift 0", "thrift 8", "thrift 9999", "book ann", "size",
)

# Numbers that aren't written as one.
NO_NUMBERS = (
    "", "00", "01", "007", "0000", "10000", "99999", "00001", "-1", "+1", "-0", "1.0", "1e2", "1_0", "one", "x", "0x1",
    "1\n", "\t1", "1,", "k", "K", "2 ", " 2",
)


def troupe_with(play, *lines):
    troupe = Troupe()
    for line in ["add " + row for row in play_rows(play)] + list(lines):
        troupe.say(line)
    return troupe


def is_line(line):
    """Whether a text is one of the lines, whatever it asks."""
    if not any(re.fullmatch(form, line) for form in LINES):
        return False
    names = line.partition(":")[0].split()[1:]
    return not line.startswith("add ") or names == sorted(set(names))


class Troupes(unittest.TestCase):
    def refused(self, troupe, line, kind, **fields):
        before = (troupe.play(), troupe.counts())
        with self.assertRaises(kind) as taken:
            troupe.say(line)
        self.assertEqual(vars(taken.exception), fields)
        self.assertEqual(refusals_of(taken.exception), ["CueError", kind.__name__])
        self.assertIsInstance(taken.exception, ValueError)
        self.assertEqual((troupe.play(), troupe.counts()), before)

    def answers(self, troupe, line, wanted):
        found = troupe.say(line)
        self.assertEqual(found, wanted)
        self.assertIs(type(found), str)

    def keeps(self, troupe, play, counts):
        self.assertEqual(troupe.play(), play)
        self.assertEqual(troupe.counts(), counts)


class Lines(Troupes):
    def setUp(self):
        self.troupe = troupe_with(SHORT)

    def test_at_first(self):
        troupe = Troupe()
        self.keeps(troupe, (), ())
        for line, wanted in [
            ("go", "done"), ("go held", "done"), ("holds", "none"), ("paper", "0"), ("thrift 0", "0"), ("thrift 9", "0"),
            ("size", "0 0"), ("cues 3", "ok"), ("cues least", "ok"),
        ]:
            self.answers(troupe, line, wanted)
            self.keeps(troupe, (), ())
        self.refused(troupe, "out 0", Unknown, what="0")
        self.refused(troupe, "book ann", Unknown, what="ann")
        self.refused(troupe, "double ann bob", Unknown, what="ann")

    def test_add(self):
        troupe = Troupe()
        for many, row in enumerate(play_rows(SHORT), start=1):
            self.answers(troupe, "add " + row, "ok")
            self.keeps(troupe, SHORT[:many], least(SHORT[:many]))
        self.keeps(troupe, SHORT, SHORT_LEAST)
        self.answers(troupe, "add " + " ".join(sorted(set(NAMES) - {"ann", "eve"})) + ": a", "ok")
        self.assertEqual(len(troupe.play()), 7)

    def test_add_eight_names(self):
        troupe = Troupe()
        self.answers(troupe, "add " + " ".join(NAMES) + ": abcdefghijkl", "ok")
        self.keeps(troupe, ((NAMES, ("abcdefghijkl",)),), ((0,) * 8,))

    def test_add_a_row_that_is_amiss(self):
        for troupe in (Troupe(), self.troupe):
            for what, row in NO_SPEECH.items():
                if isinstance(row, str):
                    with self.subTest(what):
                        self.refused(troupe, "add " + row, NoLine)
            for line in ("add", "add ", "add  zoe: a", "add\tzoe: a", "add zoe:a", "addzoe: a", "ADD zoe: a", " add zoe: a"):
                self.refused(troupe, line, NoLine)

    def test_add_a_name_of_the_last_speech(self):
        self.refused(self.troupe, "add ann: a", NoPlay, place=6)
        self.refused(self.troupe, "add bob eve: a", NoPlay, place=6)
        self.refused(troupe_with(SHORT[:1]), "add ann zoe: a", NoPlay, place=1)
        self.answers(self.troupe, "add cid: a", "ok")

    def test_add_what_is_no_row_comes_ahead_of_no_play(self):
        for row in ("zoe ann: a", "ann", "ann:", "ann ann: a", "ann: A", "ann:  a", "ann: a "):
            self.refused(self.troupe, "add " + row, NoLine)

    def test_out(self):
        self.answers(self.troupe, "out 5", "ok")
        self.keeps(self.troupe, SHORT[:5], least(SHORT[:5]))
        self.answers(self.troupe, "out 0", "ok")
        self.keeps(self.troupe, SHORT[1:5], least(SHORT[1:5]))
        self.answers(self.troupe, "out 1", "ok")
        self.keeps(self.troupe, SHORT[1:2] + SHORT[3:5], least(SHORT[1:2] + SHORT[3:5]))
        for _ in range(2):
            self.answers(self.troupe, "out 0", "ok")
        self.answers(self.troupe, "out 0", "ok")
        self.keeps(self.troupe, (), ())

    def test_out_a_number_that_is_not_there(self):
        for word in ("6", "7", "60", "9999", "1000"):
            self.refused(self.troupe, "out " + word, Unknown, what=word)
        self.refused(Troupe(), "out 0", Unknown, what="0")

    def test_out_makes_neighbours(self):
        self.refused(self.troupe, "out 1", NoPlay, place=1)
        self.refused(self.troupe, "out 3", NoPlay, place=3)
        troupe = troupe_with(tuple(((name,), ("a",)) for name in ("ann", "bob", "ann", "cid", "ann")))
        self.refused(troupe, "out 1", NoPlay, place=1)
        self.refused(troupe, "out 3", NoPlay, place=3)
        self.answers(troupe, "out 2", "ok")

    def test_double(self):
        self.answers(self.troupe, "double dan eve", "ok")
        play = doubled(SHORT, {"dan": "eve"})
        self.keeps(self.troupe, play, least(play))
        self.assertEqual(names_in(play), ("ann", "bob", "cid", "eve"))
        self.answers(self.troupe, "double cid abcdefgh", "ok")
        self.assertEqual(self.troupe.play()[2][0], ("abcdefgh", "ann"))

    def test_double_by_itself(self):
        self.answers(self.troupe, "double ann ann", "ok")
        self.keeps(self.troupe, SHORT, SHORT_LEAST)

    def test_double_holds_for_the_speeches_that_stand(self):
        self.answers(self.troupe, "double bob zoe", "ok")
        self.answers(self.troupe, "add bob: hello", "ok")
        self.assertEqual([names for names, _ in self.troupe.play()], [
            ("ann",), ("zoe",), ("ann", "cid"), ("dan",), ("cid", "zoe"), ("ann", "eve"), ("bob",),
        ])
        self.answers(self.troupe, "double bob cid", "ok")
        self.assertEqual(self.troupe.play()[6][0], ("cid",))

    def test_double_a_name_that_is_not_there(self):
        self.refused(self.troupe, "double zoe ann", Unknown, what="zoe")
        self.refused(self.troupe, "double zoe zoe", Unknown, what="zoe")
        self.answers(self.troupe, "double dan zoe", "ok")
        self.refused(self.troupe, "double dan ann", Unknown, what="dan")

    def test_double_meets(self):
        self.refused(self.troupe, "double bob ann", Meets, place=1, name="ann")
        self.refused(self.troupe, "double cid ann", Meets, place=2, name="ann")
        self.refused(self.troupe, "double dan cid", Meets, place=3, name="cid")
        self.refused(self.troupe, "double eve bob", Meets, place=5, name="bob")

    def test_double_no_names(self):
        for line in [
            "double ann Bob", "double Ann bob", "double ann abcdefghi", "double abcdefghi ann", "double ann b7",
            "double ann", "double", "double ann bob cid", "double ann  bob", "double  ann bob", "double ann bob ",
            "double ann ", "double  ann", "double zoe Bob", "double Zoe bob", "double ann bob\n", "double 1 2",
        ]:
            self.refused(self.troupe, line, NoLine)

    def test_cues(self):
        self.answers(self.troupe, "cues 1", "ok")
        self.keeps(self.troupe, SHORT, SHORT_ONES)
        self.answers(self.troupe, "cues 3", "ok")
        self.keeps(self.troupe, SHORT, ((0,), (2,), (3, 3), (3,), (3, 2), (3, 3)))
        for word in ("10", "11", "9999"):
            self.answers(self.troupe, "cues " + word, "ok")
            self.keeps(self.troupe, SHORT, SHORT_SIZES)
        self.answers(self.troupe, "cues least", "ok")
        self.keeps(self.troupe, SHORT, SHORT_LEAST)

    def test_cues_that_are_none(self):
        for word in NO_NUMBERS + ("0", "most", "Least", "least ", " least", "leas", "least 1", "1 2", "held", "ann"):
            self.refused(self.troupe, "cues " + word, NoLine)
        self.refused(self.troupe, "cues", NoLine)

    def test_go(self):
        self.answers(self.troupe, "go", "done")
        self.troupe.say("cues 1")
        self.answers(self.troupe, "go", "break 1 cid")
        troupe = troupe_with((
            (("zoe",), ("a", "b")), (("ann", "bob"), ("b",)), (("zoe",), ("b",)), (("cid", "dan"), ("b",)),
        ), "cues 1")
        self.answers(troupe, "go", "clash 2 ann bob cid dan")
        troupe = troupe_with((((("zoe",), ("x",) * 7 + ("a", "b"))), (("cid",), ("a",)), (("ann", "bob"), ("c",))), "cues 1")
        self.answers(troupe, "go", "break 8 ann bob")

    def test_go_changes_nothing(self):
        self.troupe.say("cues 1")
        for line in ("go", "go held", "holds", "paper", "size", "book ann"):
            self.troupe.say(line)
            self.keeps(self.troupe, SHORT, SHORT_ONES)

    def test_go_held(self):
        for line in ("cues 1", "cues 2", "cues least"):
            self.troupe.say(line)
            self.answers(self.troupe, "go held", "done")

    def test_holds(self):
        self.answers(self.troupe, "holds", "none")
        self.troupe.say("cues 1")
        self.answers(self.troupe, "holds", "1 cid; 2 dan")
        troupe = troupe_with((((("zoe",), ("a",) * 12)), (("ann", "bob"), ("c",))), "cues 10")
        self.answers(troupe, "holds", "10 ann; 10 bob; 11 ann; 11 bob")

    def test_one_hold(self):
        troupe = troupe_with(SHORT[:3], "cues 1")
        self.answers(troupe, "holds", "1 cid")

    def test_paper(self):
        self.answers(self.troupe, "paper", "11")
        self.troupe.say("cues 1")
        self.answers(self.troupe, "paper", "8")
        self.troupe.say("cues 99")
        self.answers(self.troupe, "paper", "35")

    def test_thrift(self):
        for word, moments in [("8", "2"), ("9", "1"), ("10", "1"), ("11", "0"), ("12", "0"), ("9999", "0")]:
            self.answers(self.troupe, "thrift " + word, moments)
            counts = self.troupe.counts()
            self.assertLessEqual(total(counts), int(word))
            self.assertEqual(str(len(false_moments(SHORT, counts))), moments)
            self.assertEqual(self.troupe.play(), SHORT)

    def test_thrift_that_is_too_small(self):
        for word in ("0", "1", "7"):
            self.refused(self.troupe, "thrift " + word, TooFew, needed=8)
        self.answers(troupe_with(SHORT[:1]), "thrift 0", "0")

    def test_book(self):
        self.troupe.say("cues 99")
        self.answers(
            self.troupe, "book ann", "> ann: to be | or not to > ann cid: be | that is the question > ann eve: to be"
        )
        self.troupe.say("cues 1")
        self.answers(self.troupe, "book ann", "> ann: to be | to > ann cid: be | question > ann eve: to be")
        self.answers(self.troupe, "book dan", "be > dan: that is")
        self.troupe.say("cues least")
        self.answers(self.troupe, "book dan", "not to be > dan: that is")

    def test_book_of_a_name_that_is_not_there(self):
        for name in ("zoe", "an", "abcdefgh", "to", "be"):
            self.refused(self.troupe, "book " + name, Unknown, what=name)
        self.troupe.say("double dan zoe")
        self.refused(self.troupe, "book dan", Unknown, what="dan")
        self.answers(self.troupe, "book zoe", "not to be > zoe: that is")

    def test_book_of_no_name(self):
        for word in ("", "Ann", "abcdefghi", "ann bob", "ann ", " ann", "ann\n", "7", "a-b", "ann:"):
            self.refused(self.troupe, "book " + word, NoLine)
        self.refused(self.troupe, "book", NoLine)

    def test_size(self):
        self.answers(self.troupe, "size", "6 12")
        self.troupe.say("out 5")
        self.answers(self.troupe, "size", "5 10")

    def test_numbers(self):
        for troupe in (self.troupe, Troupe()):
            for word in NO_NUMBERS:
                for command in ("out ", "thrift ", "cues "):
                    self.refused(troupe, command + word, NoLine)

    def test_words_more_or_fewer(self):
        for line in [
            "go on", "go held on", "go go", "held", "go  held", "go held ", " go", "go ", "holds 1", "holds ann", "paper 1",
            "size 1", "size ", " size", "out", "out 1 2", "out 1 ", "out  1", "thrift", "thrift 1 2", "thrift  9", "cues",
            "", " ", "  ", "\n", "go\n", "\ngo", "go\theld", "go\t", "GO", "Go", "go;", "play", "counts", "say go", "out ann",
            "out least", "thrift least", "holds; 1", "gone", "g", "add", "out five", "ok", "none",
        ]:
            self.refused(self.troupe, line, NoLine)

    def test_what_is_no_text(self):
        things = [thing for thing in odd_things() if not isinstance(thing, str)]
        for thing in things + [["go"], ("go",), b"go", {"go": 1}, ["cues", "1"], Troupe()]:
            self.refused(self.troupe, thing, NoLine)
            self.refused(Troupe(), thing, NoLine)

    def test_odd_texts(self):
        for thing in odd_things() + ["go " * 10000, " " * 100000, "1" * 100000, "cues " + "1" * 100000]:
            if isinstance(thing, str):
                self.refused(self.troupe, thing, NoLine)

    def test_one_sign_changed(self):
        many = {True: 0, False: 0}
        for sample in SAMPLE_LINES:
            for line in with_one_sign_changed(sample):
                troupe = troupe_with(SHORT[:3])
                many[is_line(line)] += 1
                try:
                    self.assertIs(type(troupe.say(line)), str)
                except NoLine:
                    self.assertIs(is_line(line), False, line)
                except CueError:
                    self.assertIs(is_line(line), True, line)
                else:
                    self.assertIs(is_line(line), True, line)
        self.assertGreater(min(many.values()), 100)


class CountsMadeAnew(Troupes):
    def test_by_the_last_line_cues(self):
        for words in (["1"], ["2"], ["least"], ["2", "1"], ["3", "least"], ["least", "4"]):
            troupe = troupe_with(SHORT[:4], *["cues " + word for word in words])
            for line in ("add bob cid: the question", "add ann eve: to be", "double eve dan", "out 0"):
                self.assertEqual(troupe.say(line), "ok")
                play = troupe.play()
                wanted = least(play) if words[-1] == "least" else alike(play, int(words[-1]))
                self.assertEqual(troupe.counts(), wanted)

    def test_cues_told_ahead_of_all_speeches(self):
        troupe = Troupe()
        troupe.say("cues 2")
        for row in play_rows(SHORT):
            troupe.say("add " + row)
        self.keeps(troupe, SHORT, alike(SHORT, 2))

    def test_windows_that_grow(self):
        # All counts are made anew, also those that were smaller for their windows.
        troupe = troupe_with((
            (("ann",), ("a", "b", "c")), (("bob",), ("d",)), (("ann",), ("e",)), (("cid",), ("f",)), (("bob",), ("g",)),
        ), "cues 9")
        self.assertEqual(troupe.counts(), ((0,), (3,), (1,), (5,), (2,)))
        troupe.say("double ann eve")
        self.assertEqual(troupe.counts(), ((0,), (3,), (1,), (5,), (2,)))
        troupe.say("out 0")
        self.assertEqual(troupe.counts(), ((0,), (1,), (2,), (2,)))
        troupe.say("out 0")
        self.assertEqual(troupe.counts(), ((0,), (1,), (2,)))

    def test_behind_thrift(self):
        for line in ("cues 1", "cues least", "cues 5"):
            for change in ("add zoe: a", "out 5", "double dan zoe", "double ann ann"):
                troupe = troupe_with(SHORT, line)
                troupe.say("thrift 9")
                self.assertEqual(total(troupe.counts()), 9)
                self.assertEqual(troupe.say(change), "ok")
                fresh = troupe_with(troupe.play(), line)
                self.keeps(troupe, fresh.play(), fresh.counts())

    def test_also_where_the_play_is_as_it_was(self):
        troupe = troupe_with(SHORT)
        troupe.say("thrift 8")
        self.keeps(troupe, SHORT, SHORT_ONES)
        self.assertEqual(troupe.say("double bob bob"), "ok")
        self.keeps(troupe, SHORT, SHORT_LEAST)
        troupe.say("cues 1")
        troupe.say("thrift 11")
        self.keeps(troupe, SHORT, SHORT_LEAST)
        self.assertEqual(troupe.say("double eve eve"), "ok")
        self.keeps(troupe, SHORT, SHORT_ONES)

    def test_thrift_is_not_what_cues_told(self):
        troupe = troupe_with(SHORT, "cues 2", "thrift 9")
        troupe.say("cues least")
        self.keeps(troupe, SHORT, SHORT_LEAST)

    def test_refused_lines_leave_thrifty_counts(self):
        troupe = troupe_with(SHORT, "thrift 9")
        counts = troupe.counts()
        self.assertNotEqual(counts, SHORT_LEAST)
        for line, kind, fields in [
            ("add ann: a", NoPlay, {"place": 6}), ("out 1", NoPlay, {"place": 1}), ("out 6", Unknown, {"what": "6"}),
            ("double zoe ann", Unknown, {"what": "zoe"}), ("double bob ann", Meets, {"place": 1, "name": "ann"}),
            ("thrift 7", TooFew, {"needed": 8}), ("cues 0", NoLine, {}), ("book zoe", Unknown, {"what": "zoe"}),
            ("add zoe:", NoLine, {}), (None, NoLine, {}),
        ]:
            self.refused(troupe, line, kind, **fields)
            self.keeps(troupe, SHORT, counts)

    def test_refused_cues_are_not_told(self):
        troupe = troupe_with(SHORT[:5], "cues 2")
        for line in ("cues 0", "cues 01", "cues 12345", "cues", "cues least ", "cues 3 "):
            self.refused(troupe, line, NoLine)
        troupe.say("add ann eve: to be")
        self.keeps(troupe, SHORT, alike(SHORT, 2))


class SeveralTroupes(Troupes):
    def test_two_know_nothing_of_each_other(self):
        one, other = Troupe(), Troupe()
        one.say("cues 1")
        for row in play_rows(SHORT):
            one.say("add " + row)
        self.keeps(other, (), ())
        for row in play_rows(SHORT):
            other.say("add " + row)
        self.keeps(one, SHORT, SHORT_ONES)
        self.keeps(other, SHORT, SHORT_LEAST)
        other.say("out 5")
        other.say("cues 2")
        self.keeps(one, SHORT, SHORT_ONES)
        one.say("double dan zoe")
        self.keeps(other, SHORT[:5], alike(SHORT[:5], 2))
        self.keeps(Troupe(), (), ())

    def test_what_was_told_stays_as_it_was(self):
        troupe = troupe_with(SHORT[:3])
        play, counts = troupe.play(), troupe.counts()
        troupe.say("add dan: that is")
        troupe.say("cues 1")
        self.assertEqual((play, counts), (SHORT[:3], least(SHORT[:3])))


class Model:
    """What a troupe keeps and answers, told by the other stages."""

    def __init__(self):
        self.play = ()
        self.told = "least"
        self.counts = ()

    def anew(self, play):
        self.play = play
        self.counts = least(play) if self.told == "least" else alike(play, int(self.told))
        return "ok"

    def answer(self, line):
        command, _, rest = line.partition(" ")
        if command == "add":
            speech = read_play([rest])[0]
            if self.play and set(self.play[-1][0]) & set(speech[0]):
                raise NoPlay(len(self.play))
            return self.anew(self.play + (speech,))
        if command == "out":
            if int(rest) >= len(self.play):
                raise Unknown(rest)
            return self.anew(left_out(self.play, [int(rest)]))
        if command == "double":
            role, player = rest.split()
            if role not in names_in(self.play):
                raise Unknown(role)
            return self.anew(doubled(self.play, {role: player}))
        if command == "cues":
            self.told = rest
            return self.anew(self.play)
        return self.told_of(command, rest)

    def told_of(self, command, rest):
        if command == "go":
            holds = holds_for(self.play, self.counts) if rest else ()
            kind, place, names = performed(cut(self.play, self.counts), holds)[1]
            return kind if kind == "done" else " ".join((kind, str(place)) + names)
        if command == "holds":
            return "; ".join("%d %s" % hold for hold in holds_for(self.play, self.counts)) or "none"
        if command == "paper":
            return str(sum(map(sum, self.counts)))
        if command == "size":
            return "%d %d" % (len(self.play), len(words_in(self.play)))
        if rest not in names_in(self.play):
            raise Unknown(rest)
        rows = []
        for cue, names, words in cut(self.play, self.counts)[rest]:
            rows.append(" ".join(cue + (">",) + names) + ": " + " ".join(words))
        return " | ".join(rows)


def drawn_line(numbers, many):
    name, other = [NAMES[next(numbers) % 6] for _ in range(2)]
    words = " ".join("ab"[next(numbers) % 2] for _ in range(1 + next(numbers) % 3))
    return [
        f"add {name}: {words}", f"add {' '.join(sorted({name, other}))}: {words}", f"add {other}: {words}",
        f"out {next(numbers) % (many + 2)}", f"double {name} {other}", f"double {name} {name}",
        f"cues {1 + next(numbers) % 4}", "cues least", "go", "go held", "holds", "paper", "size", f"book {name}",
        f"thrift {next(numbers) % 25}", f"add {name}: {words}",
    ][next(numbers) % 16]


class DrawnLines(Troupes):
    def told(self, asked):
        try:
            return (asked(),)
        except CueError as error:
            return (refusals_of(error), vars(error))

    def thrifty_answer(self, troupe, model, line):
        """Which thrifty counts are told isn't promised: the model takes them over."""
        before = troupe.counts()
        found = self.told(lambda: troupe.say(line))
        most = int(line.split()[1])
        needed = total(alike(model.play, 1))
        if most < needed:
            self.assertEqual(found, (["CueError", "TooFew"], {"needed": needed}))
            self.assertEqual(troupe.counts(), before)
        else:
            self.assertEqual(found, (str(len(false_moments(model.play, troupe.counts()))),))
            self.assertLessEqual(total(troupe.counts()), most)
            model.counts = troupe.counts()
        return found

    def test_against_a_model(self):
        kinds = {}
        for seed in range(60):
            numbers = numbers_from(seed)
            troupe, model = Troupe(), Model()
            for _ in range(60):
                line = drawn_line(numbers, len(model.play))
                if line.startswith("thrift"):
                    found = self.thrifty_answer(troupe, model, line)
                else:
                    found = self.told(lambda: troupe.say(line))
                    self.assertEqual(found, self.told(lambda: model.answer(line)), line)
                self.keeps(troupe, model.play, model.counts)
                kind = found[0][-1] if len(found) == 2 else line.split()[0]
                kinds[kind] = kinds.get(kind, 0) + 1
        self.assertEqual(sorted(kinds), [
            "Meets", "NoPlay", "TooFew", "Unknown", "add", "book", "cues", "double", "go", "holds", "out", "paper", "size",
            "thrift",
        ])
        self.assertGreater(min(kinds.values()), 10)

    def test_longer_plays(self):
        for play in drawn_plays()[::4] + [in_acts(seed) for seed in range(5)]:
            troupe = troupe_with(play, "cues 1")
            self.keeps(troupe, play, alike(play, 1))
            model = Model()
            model.play = play
            model.counts = alike(play, 1)
            lines = ["go", "go held", "holds", "paper", "size"] + ["book " + name for name in names_in(play)]
            for counts, line in [(alike(play, 1), "cues 1"), (whole_counts(play), "cues 9999"), (least(play), "cues least")]:
                troupe.say(line)
                model.counts = counts
                for asked in lines:
                    self.answers(troupe, asked, model.answer(asked))


if __name__ == "__main__":
    unittest.main()
