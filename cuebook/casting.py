"""Casts: a play with its roles given to players, and counts that are fitted to it."""

from cuebook.books import check_counts, whole_counts
from cuebook.errors import Meets, NoCast
from cuebook.plays import is_name


def check_cast(thing):
    if not isinstance(thing, dict) or not all([is_name(role) and is_name(name) for role, name in thing.items()]):
        raise NoCast()


def player_of(cast, role):
    return cast.get(role, role)


def meeting(players, players_ahead):
    return [name for name in players if players.count(name) > 1 or name in players_ahead]


def doubled(play, cast):
    check_cast(cast)
    speeches = []
    players_ahead = []
    for place, speech in enumerate(play):
        players = [player_of(cast, role) for role in speech[0]]
        met = meeting(players, players_ahead)
        if len(met) > 0:
            raise Meets(place, min(met))
        speeches.append((tuple(sorted(players)), speech[1]))
        players_ahead = players
    return tuple(speeches)


def by_player(cast, roles, row):
    numbers = {}
    for role, many in zip(roles, row):
        numbers[player_of(cast, role)] = many
    return numbers


def fitted(play, cast, counts):
    check_counts(play, counts)
    other = doubled(play, cast)
    rows = []
    for at, whole in enumerate(whole_counts(other)):
        numbers = by_player(cast, play[at][0], counts[at])
        rows.append(tuple([min(numbers[name], size) for name, size in zip(other[at][0], whole)]))
    return tuple(rows)
