"""The performance: a play spoken word by word from the books alone."""

from cuebook.players import Held


def places_by_name(holds):
    found = {}
    for place, name in holds:
        found.setdefault(name, []).append(place)
    return found


def players_from(books, holds):
    places = places_by_name(holds)
    return [Held(name, books[name], places.get(name, ())) for name in sorted(books)]


def ready_ones(players):
    return [player for player in players if player.ready()]


def names_of(players):
    return tuple([player.name for player in players])


def are_together(players):
    # Names and words stand behind the cue; the cues of those who speak together may differ.
    if len(players) == 0:
        return False
    speech = players[0].entry()[1:]
    return speech[0] == names_of(players) and all([player.entry()[1:] == speech for player in players])


def words_spoken(listeners, words, place):
    # Tells how many of the words are spoken: not all of them where some begin ahead of the last one.
    for many, word in enumerate(words, start=1):
        for listener in listeners:
            listener.count(place + many)
            listener.hear(word)
        if len(ready_ones(listeners)) > 0:
            return many
    return len(words)


def ending(players, begun, place):
    if len(begun) > 0:
        return ("clash", place, names_of(begun))
    waiting = [player for player in players if player.entry() is not None]
    return ("silence" if len(waiting) > 0 else "done", place, names_of(waiting))


def performed(books, holds=None):
    players = players_from(books, () if holds is None else holds)
    spoken = []
    place = 0
    begun = ready_ones(players)
    while are_together(begun):
        names = begun[0].entry()[1]
        words = begun[0].entry()[2]
        # Who speaks has heard nothing behind it, so that only the others can begin next.
        listeners = [player for player in players if player.name not in names]
        many = words_spoken(listeners, words, place)
        spoken.append((names, words[:many]))
        place += many
        for player in begun:
            player.spoke()
        begun = ready_ones(listeners)
        if many < len(words):
            return (tuple(spoken), ("break", place, names_of(begun)))
    return (tuple(spoken), ending(players, begun, place))
