import unittest
from itertools import combinations, permutations

from paironce.completing import check_none, complete, completion_count, filled, is_completion, none_paper
from paironce.errors import InvalidSystem, TooMany
from paironce.threes import all_threes
from helper import FANO, NINE, raised, run_examples, unchanged
from test_partial import NO_COUNTS, NO_THREES, as_kept, open_by_rules

# Systems of which the words of the document can be tried out quickly.
TRIED = [
    (1, []), (2, []), (3, []), (3, [(2, 1, 0)]), (4, []), (4, [(1, 3, 2)]), (5, []), (5, [(0, 1, 2)]),
    (5, [[4, 0, 1], (2, 3, 4)]), (6, []), (6, [(5, 4, 3), (0, 1, 5)]), (7, []), (7, [(6, 1, 0)]),
    (7, [(0, 1, 2), (3, 4, 5)]), (7, FANO), (7, tuple(FANO[2:])), (7, [[4, 2, 5], (6, 3, 2), (0, 6, 5)]),
    (8, []), (8, [(7, 0, 4), [6, 5, 0]]), (9, [(0, 1, 2)]), (9, [(8, 7, 6), (0, 1, 2)]), (9, NINE[:4]), (9, NINE[::-2]),
    (9, NINE), (9, [(0, 1, 2), (0, 3, 4), (1, 3, 5), (2, 4, 5)]), (9, [(0, 1, 2), (0, 3, 4), (1, 3, 5), (2, 6, 3)]),
    (13, all_threes(("skolem", 13))[5:]), (13, all_threes(("skolem", 13))[:12]), (10, NINE[:8]), (10, FANO),
    (11, NINE[:9]), (15, all_threes(("binary", 4))[9:]), (15, all_threes(("bose", 15))[4::2] + [(0, 5, 10)]),
    (13, [(0, 1, 2), (3, 4, 5), (6, 7, 8), (9, 10, 11), (0, 3, 6), (1, 4, 7), (2, 5, 8), (0, 4, 8), (1, 5, 6),
          (2, 3, 7), (0, 5, 7), (1, 3, 8), (2, 4, 6)]),
]


def joined(threes, three):
    return threes + [tuple(sorted(three))]


def thirds(count, threes, pair):
    pairs = set(open_by_rules(count, threes))
    a, b = pair
    return [c for c in range(count) if c not in pair and tuple(sorted((a, c))) in pairs
            and tuple(sorted((b, c))) in pairs]


def search(count, threes):
    """All completions in the order of point 35, each with the number of threes tried until then, and all tried."""
    told = []
    tried = 0

    def enter(threes):
        nonlocal tried
        pairs = open_by_rules(count, threes)
        if not pairs:
            told.append((sorted(threes), tried))
            return
        for c in thirds(count, threes, pairs[0]):
            tried += 1
            enter(joined(threes, pairs[0] + (c,)))

    enter(as_kept(threes))
    return told, tried


def paper_by_rules(count, threes):
    """The pairs that point 40 takes, and whether a whole system is come to behind them."""
    paper = []

    def enter(threes):
        pairs = open_by_rules(count, threes)
        if not pairs:
            return True
        pair = min(pairs, key=lambda pair: (len(thirds(count, threes, pair)), pair))
        paper.append(pair)
        return any(enter(joined(threes, pair + (c,))) for c in thirds(count, threes, pair))

    return paper, enter(as_kept(threes))


def rest_of_refusal(count, threes, paper):
    """What stands behind a right refusal, None if there is none at the beginning (point 39)."""
    if not paper or paper[0] not in open_by_rules(count, threes):
        return None
    rest = paper[1:]
    for c in thirds(count, threes, paper[0]):
        rest = rest_of_refusal(count, joined(threes, paper[0] + (c,)), rest)
        if rest is None:
            return None
    return rest


def is_refusal(count, threes, paper):
    return rest_of_refusal(count, as_kept(threes), [tuple(pair) for pair in paper]) == []


class Completions(unittest.TestCase):
    def test_examples(self):
        run_examples(self, """
>>> from paironce.completing import check_none, complete, none_paper
>>> complete(7, [(6, 1, 0)])
[(0, 1, 6), (0, 2, 3), (0, 4, 5), (1, 2, 4), (1, 3, 5), (2, 5, 6), (3, 4, 6)]
>>> (none_paper(4, []), check_none(4, [], [(0, 1), (0, 3), (0, 2)]))
([(0, 1), (0, 3), (0, 2)], True)
""")

    def test_search(self):
        for count, threes in TRIED:
            told, tried = search(count, threes)
            first, until = told[0] if told else (None, tried)
            self.assertEqual(repr(unchanged(self, complete, count, threes, limit=until)), repr(first))
            self.assertEqual(complete(count, threes), first)
            self.assertEqual(unchanged(self, completion_count, count, threes, limit=tried), len(told))
            self.assertEqual(completion_count(count, threes), len(told))
            self.assertEqual([whole for whole, _ in told], sorted(whole for whole, _ in told))
            if until > 0:
                self.assertEqual(raised(self, TooMany, complete, count, threes, limit=until - 1).limit, until - 1)
                self.assertEqual(raised(self, TooMany, complete, count, threes, limit=0).limit, 0)
            if tried > 0:
                error = raised(self, TooMany, completion_count, count, threes, limit=tried - 1)
                self.assertEqual(error.limit, tried - 1)

    def test_least_completion_of_seven(self):
        whole = {tuple(as_kept([[names[point] for point in three] for three in FANO]))
                 for names in permutations(range(7))}
        self.assertEqual(len(whole), 30)
        for given in ([], [(0, 1, 4)], [(2, 5, 6)], [(0, 3, 6), (1, 3, 5)], [(4, 5, 6), (3, 5, 2)], [(0, 5, 3)]):
            kept = set(as_kept(given))
            told = [list(threes) for threes in whole if kept <= set(threes)]
            self.assertEqual(complete(7, given), min(told))
            self.assertEqual(completion_count(7, given), len(told))

    def test_counts_that_are_known(self):
        self.assertEqual([completion_count(count, []) for count in range(1, 9)], [1, 0, 1, 0, 0, 0, 30, 0])
        self.assertEqual(completion_count(9, []), 840)

    def test_whole_systems_and_none(self):
        self.assertEqual(complete(1, [], limit=0), [])
        self.assertEqual(completion_count(1, [], limit=0), 1)
        self.assertIsNone(complete(2, [], limit=0))
        self.assertEqual(completion_count(2, (), limit=0), 0)
        self.assertEqual(complete(7, FANO, limit=0), as_kept(FANO))
        self.assertEqual(complete(9, tuple(NINE[::-1]), limit=0), as_kept(NINE))
        self.assertEqual(completion_count(9, NINE, limit=0), 1)
        whole = as_kept(all_threes(("bose", 57)))
        self.assertEqual(complete(57, whole, limit=0), whole)
        self.assertEqual(complete(57, whole[1:], limit=1), whole)
        raised(self, TooMany, complete, 57, whole[1:], limit=0)

    def test_great_searches(self):
        self.assertEqual(complete(31, []), as_kept(all_threes(("binary", 5))))
        for count in (19, 57, 60):
            self.assertEqual(raised(self, TooMany, complete, count, []).limit, 20000)
            self.assertEqual(raised(self, TooMany, completion_count, count, []).limit, 20000)
        self.assertEqual(raised(self, TooMany, none_paper, 60, []).limit, 20000)
        self.assertIsNone(none_paper(57, []))

    def test_lists_are_new(self):
        threes = [(0, 1, 2)]
        for call in (complete, filled):
            told = call(3, threes)
            told.append(5)
            self.assertEqual(threes, [(0, 1, 2)])
            self.assertEqual(call(3, threes), [(0, 1, 2)])

    def test_limits_go_by_name(self):
        for call in (complete, completion_count, none_paper):
            with self.assertRaises(TypeError):
                call(3, [], 5)

    def test_is_completion(self):
        for count, threes in TRIED:
            for whole, _ in search(count, threes)[0][:20]:
                self.assertIs(unchanged(self, is_completion, count, threes, whole), True)
                turned = tuple([list(three)[::-1] for three in whole[::-1]])
                self.assertIs(unchanged(self, is_completion, count, threes, turned), True)
                if len(whole) > 1:
                    self.assertIs(is_completion(count, threes, whole[1:]), False)
                    self.assertIs(is_completion(count, threes, whole + whole[:1]), False)
                    self.assertIs(is_completion(count, threes, whole[1:] + whole[-1:]), False)
            self.assertIs(is_completion(count, threes, as_kept(threes)), not open_by_rules(count, threes))

    def test_whole_systems_without_the_threes(self):
        self.assertIs(is_completion(7, [(0, 1, 3)], FANO), False)
        self.assertIs(is_completion(7, FANO[:1] + [(4, 1, 3)], FANO), False)
        self.assertIs(is_completion(7, [(6, 4, 1), (1, 0, 2)], FANO), True)
        self.assertIs(is_completion(1, [], []), True)
        self.assertIs(is_completion(2, [], []), False)
        self.assertIs(is_completion(9, [], FANO), False)

    def test_filled(self):
        for count, threes in TRIED + [(12, []), (20, NINE), (21, [(20, 19, 0)])]:
            told = as_kept(threes)
            fits = True
            while fits:
                pairs = set(open_by_rules(count, told))
                fits = [three for three in combinations(range(count), 3) if set(combinations(three, 2)) <= pairs]
                told += fits[:1]
            self.assertEqual(repr(unchanged(self, filled, count, threes)), repr(sorted(told)))
        self.assertEqual(filled(6, []), [(0, 1, 2), (0, 3, 4), (1, 3, 5), (2, 4, 5)])
        self.assertEqual(filled(2, []), [])
        self.assertEqual(filled(15, []), as_kept(all_threes(("binary", 4))))
        self.assertEqual(filled(60, [])[:3], [(0, 1, 2), (0, 3, 4), (0, 5, 6)])


class Papers(unittest.TestCase):
    def test_papers(self):
        for count, threes in TRIED:
            paper, is_there = paper_by_rules(count, threes)
            told = None if is_there else paper
            self.assertEqual(repr(unchanged(self, none_paper, count, threes, limit=len(paper))), repr(told))
            self.assertEqual(none_paper(count, threes), told)
            self.assertEqual(is_there, complete(count, threes) is not None)
            if paper:
                error = raised(self, TooMany, none_paper, count, threes, limit=len(paper) - 1)
                self.assertEqual(error.limit, len(paper) - 1)
                self.assertEqual(raised(self, TooMany, none_paper, count, threes, limit=0).limit, 0)
            if told is not None:
                self.assertTrue(is_refusal(count, threes, told))
                self.assertIs(unchanged(self, check_none, count, threes, told), True)
                turned = [list(three)[::-1] for three in threes][::-1]
                self.assertIs(unchanged(self, check_none, count, turned, tuple([list(pair) for pair in told])), True)

    def test_changed_papers(self):
        for count, threes in TRIED:
            paper = none_paper(count, threes)
            if paper is None or len(paper) > 120:
                continue
            for at in range(len(paper)):
                a, b = paper[at]
                changed = [paper[:at] + paper[at + 1:], paper[:at], paper[:at] + paper[at:at + 1] + paper[at:],
                           paper[:at] + [(b, a)] + paper[at + 1:], paper[:at] + [[a]] + paper[at + 1:],
                           paper[:at] + [(a, b, b)] + paper[at + 1:], paper[:at] + [()] + paper[at + 1:],
                           paper[:at] + [(a, a)] + paper[at + 1:], paper[:at] + [(a, count)] + paper[at + 1:],
                           paper[:at] + [(-1, b)] + paper[at + 1:], paper[:at] + [(a, 10 ** 40)] + paper[at + 1:]]
                for told in changed:
                    self.assertIs(check_none(count, threes, told), False, (count, threes, told))
                if at + 1 < len(paper):
                    told = paper[:at] + [paper[at + 1], paper[at]] + paper[at + 2:]
                    self.assertIs(check_none(count, threes, told), is_refusal(count, threes, told))
                told = paper[:at] + [(0, 1)] + paper[at + 1:]
                self.assertIs(check_none(count, threes, told), is_refusal(count, threes, told))
            for pair in ((0, 1), paper[0], paper[-1], (), (count, count + 1)):
                self.assertIs(check_none(count, threes, paper + [pair]), False)

    def test_other_right_refusals(self):
        # The first open pair is taken everywhere, and then the last one.
        for at in (0, -1):
            for count, threes in TRIED:
                if complete(count, threes) is not None or count > 9:
                    continue
                paper = []

                def enter(threes):
                    pair = open_by_rules(count, threes)[at]
                    paper.append(list(pair))
                    for c in thirds(count, threes, pair):
                        enter(joined(threes, pair + (c,)))

                enter(as_kept(threes))
                self.assertTrue(is_refusal(count, threes, paper))
                self.assertIs(unchanged(self, check_none, count, threes, paper), True)
                self.assertIs(check_none(count, threes, paper[:-1]), False)

    def test_all_short_papers(self):
        pairs = list(combinations(range(4), 2)) + [(1, 0)]
        for first in pairs:
            for second in pairs:
                self.assertIs(check_none(2, [], [first]), first == (0, 1))
                for third in pairs:
                    told = [first, second, third]
                    self.assertIs(check_none(4, [], told), is_refusal(4, [], told))

    def test_systems_with_completions(self):
        for count, threes in ((1, []), (3, []), (3, [(0, 1, 2)]), (7, FANO), (7, [(0, 1, 2)])):
            self.assertIsNone(none_paper(count, threes))
            for paper in ([], [(0, 1)], [(0, 1), (0, 2)], [(0, 1), (0, 2), (1, 2)], [(0, 3)], [(5, 6)]):
                self.assertIs(check_none(count, threes, paper), False)
        self.assertIsNone(none_paper(7, FANO, limit=0))
        self.assertIsNone(none_paper(1, [], limit=0))
        self.assertIsNone(none_paper(3, [], limit=1))
        raised(self, TooMany, none_paper, 3, [], limit=0)

    def test_pairs_that_are_not_open(self):
        self.assertIs(check_none(2, [], []), False)
        self.assertIs(check_none(2, [], [(0, 1)]), True)
        self.assertIs(check_none(2, [], ([0, 1],)), True)
        self.assertIs(check_none(5, [(0, 1, 2)], [(0, 1)]), False)
        self.assertIs(check_none(5, [(0, 1, 2), (2, 3, 4)], [(0, 3)]), True)
        self.assertIs(check_none(5, [(0, 1, 2), (2, 3, 4)], [(3, 0)]), False)
        self.assertIs(check_none(5, [(0, 1, 2), (2, 3, 4)], [(0, 3), (0, 4)]), False)


class Errors(unittest.TestCase):
    CALLS = ((complete, ()), (completion_count, ()), (filled, ()), (none_paper, ()), (is_completion, ([(0, 1)],)),
             (is_completion, (FANO,)), (check_none, ([],)), (check_none, ([(0, 1)],)))

    def test_numbers_of_points(self):
        for call, more in self.CALLS:
            for count in NO_COUNTS:
                raised(self, InvalidSystem, call, count, [], *more)

    def test_what_is_no_partial_system(self):
        for call, more in self.CALLS:
            for three in NO_THREES:
                raised(self, InvalidSystem, call, 9, [three], *more)
                raised(self, InvalidSystem, call, 9, ([8, 7, 6], three), *more)
            for threes in ([(0, 1, 2), (2, 1, 0)], [(0, 1, 2), (2, 3, 4), (8, 2, 1)], NINE + [(0, 1, 2)]):
                raised(self, InvalidSystem, call, 9, threes, *more)

    def test_ahead_of_the_limit(self):
        for call in (complete, completion_count, none_paper):
            raised(self, InvalidSystem, call, 9, [(0, 1, 9)], limit=0)

    def test_threes_of_completions(self):
        for three in NO_THREES:
            raised(self, InvalidSystem, is_completion, 9, [], [three])
            raised(self, InvalidSystem, is_completion, 9, NINE, NINE + [three])
            raised(self, InvalidSystem, is_completion, 9, [(0, 1, 3)], [(0, 1, 2), (0, 1, 2), three])
