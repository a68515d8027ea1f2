"""Rows and lines that are written amiss."""

from samples import NAMES, Strange, looped

SIGNS = " \t\n:>aAz7~|"

# Rows that are written like no speech, whatever stands ahead of them.
NO_SPEECH = {
    "no signs": "",
    "a blank": " ",
    "a colon alone": ":",
    "a colon and a blank": ": ",
    "names alone": "zoe",
    "names without words": "zoe:",
    "names, a colon and a blank": "zoe: ",
    "words alone": ": hello",
    "words without names": " : hello",
    "no colon": "zoe hello",
    "no blank behind the colon": "zoe:hello",
    "a blank ahead of the colon": "zoe : hello",
    "two blanks behind the colon": "zoe:  hello",
    "two colons": "zoe:: hello",
    "a colon behind": "zoe: hello:",
    "a colon amid": "zoe: hello: there",
    "two blanks between words": "zoe: hello  there",
    "two blanks between names": "yan  zoe: hello",
    "a blank ahead": " zoe: hello",
    "a blank behind": "zoe: hello ",
    "a tab ahead": "\tzoe: hello",
    "a tab behind the colon": "zoe:\thello",
    "a tab between words": "zoe: hello\tthere",
    "a tab between names": "yan\tzoe: hello",
    "a tab behind": "zoe: hello\t",
    "a line end behind": "zoe: hello\n",
    "a line end ahead": "\nzoe: hello",
    "a line end amid": "zoe: hello\nthere",
    "a carriage return": "zoe: hello\r",
    "a capital in a name": "Zoe: hello",
    "a capital in a word": "zoe: Hello",
    "a figure in a name": "zo3: hello",
    "a figure in a word": "zoe: hell0",
    "another sign in a name": "zo-e: hello",
    "another sign in a word": "zoe: hello,",
    "a comma between names": "yan, zoe: hello",
    "a name of nine letters": "abcdefghi: hello",
    "a word of thirteen letters": "zoe: abcdefghijklm",
    "nine names": " ".join(NAMES) + " zoe: hello",
    "a name twice": "zoe zoe: hello",
    "names that fall": "zoe yan: hello",
    "names that rise and fall": "xan zoe yan: hello",
    "a name twice, apart": "yan zoe yan: hello",
    "a row of a book": "> zoe: hello",
    "a row of a book with a cue": "be > zoe: hello",
    "None": None,
    "a number": 7,
    "a truth": True,
    "a list": ["zoe: hello"],
    "a tuple": ("zoe: hello",),
    "a speech": (("zoe",), ("hello",)),
    "a dict": {"zoe": "hello"},
    "bytes": b"zoe: hello",
    "something strange": Strange(),
    "itself": looped(),
}


def with_one_sign_changed(row):
    """The row itself, and rows that have one sign more, one fewer, one that is unlike, or two that are exchanged."""
    found = [row]
    for place in range(len(row) + 1):
        found.extend(row[:place] + sign + row[place:] for sign in SIGNS)
        if place < len(row):
            found.append(row[:place] + row[place + 1:])
            found.extend(row[:place] + sign + row[place + 1:] for sign in SIGNS)
            found.append(row[:place] + row[place + 1:place + 2] + row[place] + row[place + 2:])
    return found
