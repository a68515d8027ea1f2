"""The prompter: whom to hold, and where, so that a cut play is spoken to its end."""

from cuebook.matching import false_moments


def holds_for(play, counts):
    # A name waits for one speech at a time, so that no pair stands here twice, and they stay sorted.
    return tuple([(place, name) for place, name, at in false_moments(play, counts)])
