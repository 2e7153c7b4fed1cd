"""Rounds in which an even number of players meet, each two of them once."""

from paironce.errors import InvalidQuestion

MOST_PLAYERS = 10 ** 30
MOST_PLANNED = 100


def opponent(players, turn, player):
    """Whom a player meets in a round."""
    _check_turn(players, turn)
    _check_below(players, player)
    last = players - 1
    middle = _middle(players, turn)
    if player == last:
        return middle
    if player == middle:
        return last
    return (turn - player) % last


def round_of(players, one, other):
    """The round in which two players meet."""
    _check_players(players)
    _check_below(players, one)
    _check_below(players, other)
    if one == other:
        raise InvalidQuestion("one player alone does not meet anybody")
    last = players - 1
    if other == last:
        return 2 * one % last
    if one == last:
        return 2 * other % last
    return (one + other) % last


def place_of(players, turn, player):
    """The place at which a player meets somebody in a round."""
    _check_turn(players, turn)
    _check_below(players, player)
    last = players - 1
    if player == last:
        return 0
    ahead = (player - _middle(players, turn)) % last
    return min(ahead, last - ahead)


def players_at(players, turn, place):
    """The two players at a place of a round, ascending."""
    _check_turn(players, turn)
    _check_below(players // 2, place)
    last = players - 1
    middle = _middle(players, turn)
    if place == 0:
        return (middle, last)
    low, high = sorted([(middle - place) % last, (middle + place) % last])
    return (low, high)


def plan(players):
    """The list of all rounds, each the list of the two players at each place."""
    _check_players(players)
    if players > MOST_PLANNED:
        raise InvalidQuestion("so many players are not planned for")
    return [[players_at(players, turn, place) for place in range(players // 2)] for turn in range(players - 1)]


def _middle(players, turn):
    # Twice half of the players is 1 more than the rounds, so twice the middle leaves the number of the round.
    return turn * (players // 2) % (players - 1)


def _check_players(players):
    if not 2 <= players <= MOST_PLAYERS or players % 2 == 1:
        raise InvalidQuestion("rounds are those of an even number of players, from 2 on")


def _check_turn(players, turn):
    _check_players(players)
    _check_below(players - 1, turn)


def _check_below(count, number):
    if not 0 <= number < count:
        raise InvalidQuestion("there is no such round, player or place")
