import unittest
from itertools import combinations

from paironce.completing import check_none, complete, is_completion, none_paper
from paironce.errors import InvalidNotation, InvalidPaper, InvalidSystem, TooMany
from paironce.texts import check_text, paper_text, parse_paper, parse_threes, threes_text
from paironce.threes import all_threes
from helper import FANO, NINE, raised, run_examples, unchanged
from test_completing import TRIED, paper_by_rules, search
from test_partial import NO_COUNTS, NO_THREES, PARTIAL, as_kept

# What is no integer of point 9.
NO_INTEGERS = ("", "00", "01", "007", "-1", "+1", "-0", "1.0", "1_0", "1e3", "a", "x1", "0x1", "9" * 32, "1" + "0" * 31,
               "\u0661", "\u00b2", "\uff11", "\t1", "1\t", "1\r", "(1)", "1,")
GREATEST = int("9" * 31)


def lines_of(first, word, rows):
    return "\n".join([first] + [" ".join([word] + [str(number) for number in row]) for row in rows])


def threes_lines(count, threes):
    return lines_of("threes %d" % count, "three", threes)


class Threes(unittest.TestCase):
    def test_examples(self):
        run_examples(self, '''
>>> from paironce.texts import check_text, paper_text, parse_paper, threes_text
>>> threes_text(7, [(4, 3, 0), (2, 0, 1)])
'threes 7\\nthree 0 1 2\\nthree 0 3 4'
>>> (paper_text(3, []), paper_text(2, []), parse_paper("none\\nopen 1 0"))
('whole\\nthree 0 1 2', 'none\\nopen 0 1', ('none', [(1, 0)]))
>>> (check_text(3, [], "whole\\nthree 2 1 0"), check_text(3, [], "whole"))
(True, False)
>>> parse_paper("threes 3")
raises InvalidPaper
''')

    def test_written_and_read(self):
        for count, threes in PARTIAL:
            text = unchanged(self, threes_text, count, threes)
            self.assertEqual(text, threes_lines(count, as_kept(threes)))
            self.assertEqual(repr(parse_threes(text)), repr((count, as_kept(threes))))

    def test_read_in_any_order(self):
        for count, threes in PARTIAL:
            for rows in (threes, threes[::-1], [tuple(three)[::-1] for three in threes], [tuple(three[k] for k in (1, 2, 0)) for three in threes]):
                self.assertEqual(repr(parse_threes(threes_lines(count, rows))), repr((count, as_kept(threes))))

    def test_lists_are_new(self):
        text = threes_lines(7, FANO)
        parse_threes(text)[1].clear()
        self.assertEqual(parse_threes(text), (7, as_kept(FANO)))

    def test_no_partial_systems(self):
        for count in NO_COUNTS:
            raised(self, InvalidSystem, threes_text, count, [])
            raised(self, InvalidSystem, threes_text, count, [(0, 1, 2)])
        for three in NO_THREES:
            raised(self, InvalidSystem, threes_text, 9, [(3, 4, 5), three])
        for threes in ([(0, 1, 2), (1, 0, 2)], [(0, 1, 2), (0, 1, 3)], [(0, 1, 2), [2, 3, 1]], FANO + [(0, 1, 2)]):
            raised(self, InvalidSystem, threes_text, 9, threes)
            raised(self, InvalidSystem, parse_threes, threes_lines(9, threes))
        for count in (0, 61, 62, GREATEST):
            raised(self, InvalidSystem, parse_threes, "threes %d" % count)
        for three in ((0, 1, 9), (9, 8, 0), (0, 0, 1), (1, 0, 1), (3, 3, 3), (0, 1, GREATEST)):
            raised(self, InvalidSystem, parse_threes, threes_lines(9, [(3, 4, 5), three]))
        self.assertEqual(parse_threes("threes 60"), (60, []))
        self.assertEqual(parse_threes("threes 1"), (1, []))
        raised(self, InvalidSystem, parse_threes, "threes 2\nthree 0 1 2")

    def wrong(self, text, line):
        self.assertEqual(raised(self, InvalidNotation, parse_threes, text).line, line, text)

    def test_first_line(self):
        for line in ("", "threes", "three", "threes ", " threes 7", "threes 7 ", "threes  7", "threes 7 7", "Threes 7", "threes7", "7",
                     "system", "listed 7", "partial 7", "whole", "none", "three 0 1 2", "three 7", "threes\t7", "threes 7\r"):
            for rest in ("", "\nthree 0 1 2", "\nbox", "\n"):
                self.wrong(line + rest, 1)
        for number in NO_INTEGERS:
            self.wrong("threes " + number, 1)
            self.wrong("threes " + number + "\nthree 0 1 2", 1)

    def test_lines_of_threes(self):
        good = ["threes 7"] + ["three %d %d %d" % tuple(three) for three in FANO]
        strange = ["", "three", "three 0", "three 0 1", "three 0 1 2 3", "three 0 1 2 ", " three 0 1 2", "three  0 1 2", "three 0  1 2",
                   "threes 0 1 2", "Three 0 1 2", "open 0 1", "open 0 1 2", "0 1 2", "threes 7", "end", "three 0 1 2\r", "three\t0 1 2"]
        for number in NO_INTEGERS:
            strange += ["three %s 1 2" % number, "three 0 %s 2" % number, "three 0 1 %s" % number]
        for line in strange:
            for at in range(1, len(good) + 1):
                self.wrong("\n".join(good[:at] + [line] + good[at:]), at + 1)
        # The first of several, and ahead of what is no partial system.
        self.wrong("\n".join(good[:3] + ["box"] + good[3:] + ["box", ""]), 4)
        self.wrong("\n".join(good + good + [""]), len(good) + 1)
        self.wrong("threes 61\nthree 0 0 0\nthree 0 0 0\nthree", 4)
        self.wrong("threes 0\n", 2)
        self.wrong("\n" + "\n".join(good), 1)


class Papers(unittest.TestCase):
    def test_paper_text(self):
        for count, threes in TRIED:
            text = unchanged(self, paper_text, count, threes)
            whole = complete(count, threes)
            if whole is None:
                self.assertEqual(text, lines_of("none", "open", none_paper(count, threes)))
            else:
                self.assertEqual(text, lines_of("whole", "three", whole))
            self.assertIs(unchanged(self, check_text, count, threes, text), True)

    def test_limits(self):
        for count, threes in TRIED:
            found, tried = search(count, threes)
            needed = found[0][1] if found else max(tried, len(paper_by_rules(count, threes)[0]))
            self.assertEqual(paper_text(count, threes, limit=needed), paper_text(count, threes))
            if needed > 0:
                self.assertEqual(raised(self, TooMany, paper_text, count, threes, limit=needed - 1).limit, needed - 1)

    def test_both_searches_count_by_themselves(self):
        # No three is tried here, but one pair is come to; and here more threes are tried than pairs are come to.
        self.assertEqual(search(2, []), ([], 0))
        self.assertEqual(raised(self, TooMany, paper_text, 2, [], limit=0).limit, 0)
        self.assertEqual(paper_text(2, [], limit=1), "none\nopen 0 1")
        more = [(search(count, threes)[1], len(none_paper(count, threes))) for count, threes in TRIED
                if none_paper(count, threes) is not None]
        self.assertTrue([told for told in more if told[0] > told[1]])
        self.assertTrue([told for told in more if told[0] < told[1]])

    def test_no_partial_system(self):
        for count in NO_COUNTS:
            raised(self, InvalidSystem, paper_text, count, [])
            for text in ("whole", "none", "", "box"):
                raised(self, InvalidSystem, check_text, count, [], text)
        for three in NO_THREES:
            raised(self, InvalidSystem, paper_text, 9, [three], limit=0)
            raised(self, InvalidSystem, check_text, 9, [three], "box")
        for threes in ([(0, 1, 2), (1, 0, 2)], [(0, 1, 2), (0, 1, 3)]):
            raised(self, InvalidSystem, paper_text, 9, threes, limit=0)
            raised(self, InvalidSystem, check_text, 9, threes, "\n")

    def test_parse_paper(self):
        for word, first, many in (("whole", "three", 3), ("none", "open", 2)):
            for rows in ([], [(0,) * many], [(2, 1, 0)[:many]] * 5, [(GREATEST,) * many, (7, 0, 7)[:many]], [(61, 60, 59)[:many]] * 700):
                self.assertEqual(repr(parse_paper(lines_of(word, first, rows))), repr((word, rows)))
        for text in ("whole", "none"):
            parse_paper(text)[1].append(0)
            self.assertEqual(parse_paper(text), (text, []))

    def wrong(self, text, line):
        self.assertEqual(raised(self, InvalidPaper, parse_paper, text).line, line, text)
        self.assertEqual(raised(self, InvalidPaper, check_text, 7, [], text).line, line, text)

    def test_first_words(self):
        for line in ("", " ", "box", "Whole", "NONE", "whole ", " none", "whole 7", "none 0 1", "wholenone", "whole none", "three 0 1 2",
                     "open 0 1", "threes 3", "system", "whole\r", "none\t"):
            for rest in ("", "\nthree 0 1 2", "\nopen 0 1", "\nbox", "\n"):
                self.wrong(line + rest, 1)

    def test_other_lines(self):
        strange = {"whole": ["open 0 1", "three 0 1", "three 0 1 2 3"], "none": ["three 0 1 2", "open 0", "open 0 1 2"]}
        both = ["", " ", "box", "whole", "none", "three", "open", "0 1", "0 1 2"]
        for word, first, row in (("whole", "three", "0 1 2"), ("none", "open", "0 1")):
            good = [word] + [first + " " + row] * 4
            lines = strange[word] + both + [first + "  " + row, " " + first + " " + row, first + " " + row + " ", first + "\t" + row,
                                            first.upper() + " " + row, first + " " + row + "\r"]
            for number in NO_INTEGERS:
                lines += [first + " " + row.replace(figure, number) for figure in row.split(" ")]
            for line in lines:
                for at in range(1, len(good) + 1):
                    self.wrong("\n".join(good[:at] + [line] + good[at:]), at + 1)
            self.wrong("\n".join(good[:2] + ["box"] + good + [""]), 3)
            self.wrong("\n" + "\n".join(good), 1)
            self.wrong(word + "\n", 2)


class Checked(unittest.TestCase):
    def test_papers_of_whole_systems(self):
        for count, threes in TRIED:
            for whole in (FANO, NINE, all_threes(("skolem", 13)), all_threes(("binary", 4)), [(0, 1, 2)], []):
                right = is_completion(count, threes, whole) if not [p for three in whole for p in three if p >= count] else False
                text = lines_of("whole", "three", whole)
                self.assertIs(unchanged(self, check_text, count, threes, text), right)

    def test_changed_papers_of_whole_systems(self):
        for count, threes in ((7, []), (7, FANO[:3]), (9, NINE[:4]), (9, []), (3, []), (3, [(0, 1, 2)])):
            lines = paper_text(count, threes).split("\n")
            for at in range(1, len(lines)):
                rows = lines[:at] + lines[at + 1:]
                self.assertIs(check_text(count, threes, "\n".join(rows)), False)
                self.assertIs(check_text(count, threes, "\n".join(lines + [lines[at]])), False)
                # The order of threes and of their points makes no difference.
                words = lines[at].split(" ")
                self.assertIs(check_text(count, threes, "\n".join(rows + [lines[at]])), True)
                self.assertIs(check_text(count, threes, "\n".join(rows + [" ".join([words[0], words[3], words[1], words[2]])])), True)
                for other in (["three", words[1], words[2], str(count)], ["three", words[1], words[1], words[2]],
                              ["three", words[3], words[2], words[3]], ["three", str(GREATEST), "0", "1"], ["three", "0", "0", "0"]):
                    self.assertIs(check_text(count, threes, "\n".join(rows + [" ".join(other)])), False)
                    self.assertIs(check_text(count, threes, "\n".join(lines + [" ".join(other)])), False)

    def test_whole_systems_with_other_threes(self):
        for names in ((1, 0, 2, 3, 4, 5, 6), (6, 5, 4, 3, 2, 1, 0), (0, 1, 3, 2, 4, 5, 6)):
            other = [tuple(names[point] for point in three) for three in FANO]
            text = lines_of("whole", "three", other)
            self.assertIs(check_text(7, [], text), True)
            for three in combinations(range(7), 3):
                self.assertIs(check_text(7, [three], text), three in as_kept(other))

    def test_papers_that_there_is_none(self):
        for count, threes in TRIED:
            paper = none_paper(count, threes)
            if paper is None:
                for pairs in ([], [(0, 1)], [(0, 1), (0, 2)]):
                    self.assertIs(check_text(count, threes, lines_of("none", "open", pairs)), False)
                continue
            text = lines_of("none", "open", paper)
            self.assertIs(unchanged(self, check_text, count, threes, text), True)
            for at in range(min(len(paper), 12)):
                a, b = paper[at]
                changed = [paper[:at] + paper[at + 1:], paper[:at] + [paper[at]] + paper[at:], paper + [paper[at]],
                           paper[:at] + [(b, a)] + paper[at + 1:], paper[:at] + [(a, a)] + paper[at + 1:],
                           paper[:at] + [(a, count)] + paper[at + 1:], paper[:at] + [(a, GREATEST)] + paper[at + 1:],
                           paper[:at] + paper[at + 1:at + 2] + [paper[at]] + paper[at + 2:]]
                for pairs in changed:
                    self.assertIs(check_text(count, threes, lines_of("none", "open", pairs)), check_none(count, threes, pairs))
                for pairs in changed[:7]:
                    self.assertIs(check_text(count, threes, lines_of("none", "open", pairs)), False)

    def test_the_word_makes_a_difference(self):
        self.assertIs(check_text(1, [], "whole"), True)
        self.assertIs(check_text(1, [], "none"), False)
        self.assertIs(check_text(2, [], "whole"), False)
        self.assertIs(check_text(2, [], "none\nopen 0 1"), True)
        self.assertIs(check_text(2, [], "none"), False)
        self.assertIs(check_text(4, [], "none\nopen 0 1\nopen 0 3\nopen 0 2"), True)
        self.assertIs(check_text(4, [], "none\nopen 0 1\nopen 0 2\nopen 0 3"), False)
