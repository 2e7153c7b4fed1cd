import random
import unittest
from itertools import combinations

from paironce.errors import InvalidQuestion
from paironce.rounds import opponent, place_of, plan, players_at, round_of
from helper import raised, run_examples

MOST = 10 ** 30
GREAT = (MOST, MOST - 2, 10 ** 29 + 4, 2 ** 98, 1000, 62, 123456789012345678901234567890)
NO_PLAYERS = (-10 ** 40, -2, -1, 0, 1, 3, 5, 29, 99, 101, MOST - 1, MOST + 1, MOST + 2, 10 ** 40)


def turn_by_words(players, one, other):
    """The round in which two players meet (point 92)."""
    n = players - 1
    if n in (one, other):
        return 2 * min(one, other) % n
    return (one + other) % n


def met_by_words(players, turn):
    """The opponent of each player in a round, found among all players."""
    return {one: [other for other in range(players) if other != one and turn_by_words(players, one, other) == turn]
            for one in range(players)}


class Small(unittest.TestCase):
    def test_examples(self):
        run_examples(self, """
>>> from paironce.rounds import opponent, plan, round_of
>>> plan(4)
[[(0, 3), (1, 2)], [(2, 3), (0, 1)], [(1, 3), (0, 2)]]
>>> (opponent(10 ** 30, 5, 2), round_of(10 ** 30, 0, 10 ** 30 - 1))
(3, 0)
""")

    def test_opponents(self):
        for players in range(2, 32, 2):
            for turn in range(players - 1):
                met = met_by_words(players, turn)
                for player in range(players):
                    self.assertEqual([opponent(players, turn, player)], met[player])

    def test_rounds(self):
        for players in range(2, 32, 2):
            for one in range(players):
                for other in range(players):
                    if one != other:
                        self.assertEqual(round_of(players, one, other), turn_by_words(players, one, other))

    def test_places(self):
        for players in range(2, 32, 2):
            n = players - 1
            for turn in range(n):
                met = met_by_words(players, turn)
                middle = met[n][0]
                places = {0: sorted([middle, n])}
                for d in range(1, players // 2):
                    places[d] = sorted([(middle + d) % n, (middle - d) % n])
                for place, pair in places.items():
                    self.assertEqual(repr(players_at(players, turn, place)), repr(tuple(pair)))
                    self.assertEqual(met[pair[0]], pair[1:])
                    for player in pair:
                        self.assertEqual(place_of(players, turn, player), place)
                self.assertEqual(sorted(player for pair in places.values() for player in pair), list(range(players)))

    def test_each_two_meet_once(self):
        for players in range(2, 32, 2):
            told = plan(players)
            self.assertEqual(sorted(pair for turn in told for pair in turn), list(combinations(range(players), 2)))
            for turn, pairs in enumerate(told):
                self.assertEqual(sorted(player for pair in pairs for player in pair), list(range(players)))
                self.assertEqual(pairs, [players_at(players, turn, place) for place in range(players // 2)])
                self.assertTrue(all(turn_by_words(players, *pair) == turn for pair in pairs))
        self.assertEqual(plan(2), [[(0, 1)]])

    def test_plans(self):
        told = plan(100)
        self.assertEqual((len(told), {len(pairs) for pairs in told}), (99, {50}))
        self.assertEqual(len({pair for pairs in told for pair in pairs}), 4950)
        self.assertEqual(told[98], [players_at(100, 98, place) for place in range(50)])
        for players in (102, 104, 1000, MOST, MOST - 2):
            raised(self, InvalidQuestion, plan, players)

    def test_lists_are_new(self):
        plan(4)[0].clear()
        plan(4).clear()
        self.assertEqual(plan(4)[0], [(0, 3), (1, 2)])
        self.assertIs(type(plan(4)[0]), list)
        self.assertIs(type(plan(4)[0][0]), tuple)


class Great(unittest.TestCase):
    def test_great_numbers(self):
        chance = random.Random(14)
        for players in GREAT:
            n = players - 1
            for _ in range(200):
                one, other = chance.sample(range(min(n, 10 ** 18)), 2)
                one, other = [chance.choice([player, n - 1 - player, n // 2 + player % 5]) for player in (one, other)]
                if one == other:
                    continue
                turn = round_of(players, one, other)
                self.assertEqual(turn, (one + other) % n)
                self.assertEqual((opponent(players, turn, one), opponent(players, turn, other)), (other, one))
                place = place_of(players, turn, one)
                self.assertEqual(place_of(players, turn, other), place)
                self.assertEqual(players_at(players, turn, place), tuple(sorted((one, other))))

    def test_the_last_player(self):
        chance = random.Random(15)
        for players in GREAT:
            n = players - 1
            for turn in [0, 1, n - 1, n // 2] + [chance.randrange(n) for _ in range(50)]:
                middle = opponent(players, turn, n)
                self.assertEqual(2 * middle % n, turn)
                self.assertEqual(opponent(players, turn, middle), n)
                self.assertEqual((round_of(players, middle, n), round_of(players, n, middle)), (turn, turn))
                self.assertEqual((place_of(players, turn, n), place_of(players, turn, middle)), (0, 0))
                self.assertEqual(players_at(players, turn, 0), (middle, n))

    def test_places(self):
        for players in GREAT:
            n = players - 1
            for turn in (0, 3, n - 1):
                middle = opponent(players, turn, n)
                for place in (1, 2, players // 4, players // 2 - 1):
                    told = players_at(players, turn, place)
                    self.assertEqual(told, tuple(sorted(((middle + place) % n, (middle - place) % n))))
                    self.assertEqual([place_of(players, turn, player) for player in told], [place, place])


class Errors(unittest.TestCase):
    def refused(self, call, *told):
        raised(self, InvalidQuestion, call, *told)

    def test_players(self):
        for players in NO_PLAYERS:
            self.refused(opponent, players, 0, 0)
            self.refused(round_of, players, 0, 1)
            self.refused(round_of, players, 0, 0)
            self.refused(place_of, players, 0, 0)
            self.refused(players_at, players, 0, 0)
            self.refused(plan, players)

    def test_rounds_players_and_places(self):
        for players in (2, 4, 10, 100, MOST):
            for turn in (-1, players - 1, players, -10 ** 40, 10 ** 40):
                self.refused(opponent, players, turn, 0)
                self.refused(place_of, players, turn, 0)
                self.refused(players_at, players, turn, 0)
            for player in (-1, players, players + 1, -10 ** 40, 10 ** 40):
                self.refused(opponent, players, 0, player)
                self.refused(place_of, players, 0, player)
                self.refused(round_of, players, player, 0)
                self.refused(round_of, players, 0, player)
                self.refused(round_of, players, player, player)
            for place in (-1, players // 2, players, 10 ** 40):
                self.refused(players_at, players, 0, place)
            self.assertEqual(opponent(players, players - 2, opponent(players, players - 2, players - 1)), players - 1)
            self.assertEqual(len(players_at(players, players - 2, players // 2 - 1)), 2)

    def test_one_player_alone(self):
        for players in (2, 4, 10, 100, MOST):
            for player in (0, players // 2, players - 1):
                self.refused(round_of, players, player, player)
