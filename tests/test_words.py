import unittest

from cuebook.plays import is_name, is_whole, is_word
from samples import odd_things

LETTERS = "abcdefghijklmnopqrstuvwxyz"

# All signs of which something is promised, but the small letters.
OTHER_SIGNS = [chr(number) for number in range(32, 127) if chr(number) not in LETTERS] + ["\t", "\n", "\r"]


class Words(unittest.TestCase):
    def test_lengths(self):
        for many, word, name in [
            (0, False, False), (1, True, True), (7, True, True), (8, True, True), (9, True, False),
            (11, True, False), (12, True, False), (13, False, False), (10 ** 6, False, False),
        ]:
            with self.subTest(many):
                self.assertIs(is_word("a" * many), word)
                self.assertIs(is_name("a" * many), name)

    def test_every_small_letter(self):
        for letter in LETTERS:
            for text in [letter, "b" + letter, letter + "b", "b" + letter + "b"]:
                with self.subTest(text):
                    self.assertIs(is_word(text), True)
                    self.assertIs(is_name(text), True)

    def test_other_signs_at_any_place(self):
        for sign in OTHER_SIGNS:
            for many in (0, 1, 4, 7, 11):
                for place in range(many + 1):
                    text = "a" * place + sign + "a" * (many - place)
                    with self.subTest(text):
                        self.assertIs(is_word(text), False)
                        self.assertIs(is_name(text), False)

    def test_things_that_are_no_texts(self):
        for thing in [None, 7, True, False, [], ["a"], (), ("a",), {}, {"a": "a"}, b"a", 1.5, ["a", "b"], ("a", "b")]:
            with self.subTest(thing):
                self.assertIs(is_word(thing), False)
                self.assertIs(is_name(thing), False)

    def test_things_of_any_kind(self):
        for number, thing in enumerate(odd_things()):
            with self.subTest(number):
                self.assertIs(is_word(thing), False)
                self.assertIs(is_name(thing), False)


class WholeNumbers(unittest.TestCase):
    def test_whole_numbers(self):
        for thing in [0, 1, -1, 400, 10 ** 50]:
            with self.subTest(thing):
                self.assertIs(is_whole(thing), True)

    def test_others(self):
        for thing in [True, False, None, "1", 1.0, [1], (1,), {1: 1}]:
            with self.subTest(thing):
                self.assertIs(is_whole(thing), False)


if __name__ == "__main__":
    unittest.main()
