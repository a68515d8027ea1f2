"""The troupe: it keeps a play and counts of it, and answers lines."""

from cuebook.books import alike, cut, total
from cuebook.casting import doubled
from cuebook.changes import left_out, put_in
from cuebook.errors import NoLine, Unknown
from cuebook.matching import false_moments, least
from cuebook.plays import is_name, names_in, words_in
from cuebook.prompting import holds_for
from cuebook.stage import performed
from cuebook.texts import book_rows, speech_in
from cuebook.thrift import thrifty

ADD = "add "
MOST_FIGURES = 4


def number_in(word):
    # By itself int would take signs, line ends and a 0 ahead, too.
    if not 1 <= len(word) <= MOST_FIGURES or not all(["0" <= sign <= "9" for sign in word]):
        raise NoLine()
    number = int(word)
    if str(number) != word:
        raise NoLine()
    return number


def check_name(word):
    if not is_name(word):
        raise NoLine()


def check_known(play, name):
    if name not in names_in(play):
        raise Unknown(name)


def counts_told(play, cue_words):
    return least(play) if cue_words is None else alike(play, cue_words)


def ending_text(end):
    if end[0] == "done":
        return "done"
    return " ".join([end[0], str(end[1])] + list(end[2]))


def holds_text(holds):
    return "; ".join([f"{place} {name}" for place, name in holds]) if len(holds) > 0 else "none"


def size_text(play):
    return " ".join([str(len(play)), str(len(words_in(play)))])


class Troupe:
    def __init__(self):
        self.speeches = ()
        self.cue_sizes = ()
        # How many alike the last line cues told; None stands for the least ones.
        self.cue_words = None

    def play(self):
        return self.speeches

    def counts(self):
        return self.cue_sizes

    def say(self, line):
        if not isinstance(line, str):
            raise NoLine()
        if line.startswith(ADD):
            return self.add_row(line[len(ADD):])
        words = line.split(" ")
        if len(words) == 1:
            return self.say_alone(line)
        if len(words) == 2:
            return self.say_with(words[0], words[1])
        if len(words) == 3 and words[0] == "double":
            return self.give_role(words[1], words[2])
        raise NoLine()

    def say_alone(self, command):
        if command == "go":
            return self.perform(())
        if command == "holds":
            return holds_text(self.holds_now())
        if command == "paper":
            return str(total(self.cue_sizes))
        if command == "size":
            return size_text(self.speeches)
        raise NoLine()

    def say_with(self, command, word):
        if command == "out":
            return self.leave_out(word)
        if command == "cues":
            return self.tell_cues(word)
        if command == "go" and word == "held":
            return self.perform(self.holds_now())
        if command == "thrift":
            return self.spend(number_in(word))
        if command == "book":
            return self.show_book(word)
        raise NoLine()

    def keep(self, play, cue_words):
        self.cue_sizes = counts_told(play, cue_words)
        self.speeches = play
        self.cue_words = cue_words
        return "ok"

    def add_row(self, row):
        speech = speech_in(row)
        if speech is None:
            raise NoLine()
        return self.keep(put_in(self.speeches, len(self.speeches), speech), self.cue_words)

    def leave_out(self, word):
        number = number_in(word)
        if number >= len(self.speeches):
            raise Unknown(word)
        return self.keep(left_out(self.speeches, (number,)), self.cue_words)

    def give_role(self, role, name):
        check_name(role)
        check_name(name)
        check_known(self.speeches, role)
        return self.keep(doubled(self.speeches, {role: name}), self.cue_words)

    def tell_cues(self, word):
        many = None if word == "least" else number_in(word)
        if many == 0:
            raise NoLine()
        return self.keep(self.speeches, many)

    def holds_now(self):
        return holds_for(self.speeches, self.cue_sizes)

    def books_now(self):
        return cut(self.speeches, self.cue_sizes)

    def perform(self, holds):
        return ending_text(performed(self.books_now(), holds)[1])

    def spend(self, most):
        self.cue_sizes = thrifty(self.speeches, most)
        return str(len(false_moments(self.speeches, self.cue_sizes)))

    def show_book(self, name):
        check_name(name)
        check_known(self.speeches, name)
        return " | ".join(book_rows(self.books_now()[name]))
