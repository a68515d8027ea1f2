"""Words, names, speeches and plays: what they are, how a play is made, and what is heard ahead of a speech."""

from cuebook.errors import NoPlay

WORD_LETTERS = 12
NAME_LETTERS = 8
SPEECH_NAMES = 8


def is_whole(thing):
    # To Python True and False are ints, too.
    return isinstance(thing, int) and not isinstance(thing, bool)


def is_series(thing):
    return isinstance(thing, (list, tuple))


def is_letters(thing, most):
    # The length is asked ahead of the letters, so that a huge text is not walked.
    return isinstance(thing, str) and 1 <= len(thing) <= most and all(["a" <= sign <= "z" for sign in thing])


def is_word(thing):
    return is_letters(thing, WORD_LETTERS)


def is_name(thing):
    return is_letters(thing, NAME_LETTERS)


def are_names(things):
    return all([is_name(thing) for thing in things])


def are_words(things):
    return all([is_word(thing) for thing in things])


def is_rising(names):
    return all([early < late for early, late in zip(names, names[1:])])


def is_speech_names(thing):
    # Only names are compared: other things may have no order.
    return isinstance(thing, tuple) and 1 <= len(thing) <= SPEECH_NAMES and are_names(thing) and is_rising(thing)


def is_speech_words(thing):
    return isinstance(thing, tuple) and len(thing) > 0 and are_words(thing)


def is_speech(thing):
    return isinstance(thing, tuple) and len(thing) == 2 and is_speech_names(thing[0]) and is_speech_words(thing[1])


def have_common(names, others):
    return any([name in others for name in names])


def is_play(thing):
    if not isinstance(thing, tuple) or not all([is_speech(part) for part in thing]):
        return False
    return not any([have_common(early[0], late[0]) for early, late in zip(thing, thing[1:])])


def speech_of(pair):
    # None stands for a pair that makes no speech.
    if not is_series(pair) or len(pair) != 2 or not is_series(pair[0]) or not is_series(pair[1]):
        return None
    if not are_names(pair[0]):
        return None
    speech = (tuple(sorted(pair[0])), tuple(pair[1]))
    return speech if is_speech(speech) else None


def play_of(pairs):
    if not is_series(pairs):
        raise NoPlay(0)
    speeches = []
    names_ahead = ()
    for place, pair in enumerate(pairs):
        speech = speech_of(pair)
        if speech is None or have_common(speech[0], names_ahead):
            raise NoPlay(place)
        speeches.append(speech)
        names_ahead = speech[0]
    return tuple(speeches)


def names_in(play):
    found = []
    for names, words in play:
        found.extend(names)
    return tuple(sorted(set(found)))


def words_in(play):
    found = []
    for names, words in play:
        found.extend(words)
    return tuple(found)


def begins(play):
    places = []
    spoken = 0
    for names, words in play:
        places.append(spoken)
        spoken += len(words)
    return tuple(places)


def window(play, at, name):
    heard = []
    for names, words in play[:at]:
        if name in names:
            heard = []
        else:
            heard.extend(words)
    return tuple(heard)
