import random
import unittest

from paironce.errors import PaironceError
from paironce.library import Library
from paironce.notation import format_system, parse_system
from paironce.session import Session
from paironce.subsystems import least_points
from helper import FANO, GREAT, NINE, SMALL, doubled, points_in, run_examples

# A library with two systems, one made of them, and a question of each kind.
BEGIN = """system s
skolem 7
end
system b
bose 9
end
double d s
ask n size d
ask t third s 0 1
ask c closed d 0 1 2
ask l least b"""
GREATEST = "9" * 31


def begun():
    session = Session()
    assert session.run(BEGIN) == ["ok"] * 9
    return session


def state(session):
    """All that is defined, and what can be undone and redone, told by undoing and redoing all of it."""
    library = session.library
    told = [defined(library)]
    for step, back in ((library.redo, library.undo), (library.undo, library.redo)):
        many = 0
        while True:
            try:
                step()
            except PaironceError:
                break
            many += 1
            told.append(defined(library))
        for _ in range(many):
            back()
        told.append(None)
    return told


def defined(library):
    return ([(name, library.system(name)) for name in library.system_names()],
            [(name, library.question(name)) for name in library.question_names()])


class Examples(unittest.TestCase):
    def test_examples(self):
        run_examples(self, '''
>>> from paironce.session import Session
>>> session = Session()
>>> session.run("system s\\nskolem 7\\nend\\ndouble d s\\nask n size d\\nask t third d 0 14\\nanswers\\ntake e d 0 1\\nprint e")
['ok', 'ok', 'ok', 'ok', 'ok', 'n: size 15', 't: third 7', 'ok', 'system', 'listed 3', 'three 0 1 2']
''')

    def test_a_session_of_its_own(self):
        session = Session()
        self.assertIsInstance(session.library, Library)
        self.assertEqual((session.library.decided, session.library.kept), (0, 0))
        self.assertEqual(session.run("systems\nquestions\nanswers"), ["systems:", "questions:"])
        other = Session()
        begun()
        self.assertIsNot(session.library, other.library)
        self.assertEqual(other.run("systems"), ["systems:"])


class Lines(unittest.TestCase):
    def refused(self, session, line, answer):
        """A line that answers one line and does nothing."""
        before = state(session)
        self.assertEqual(session.run(line), [answer])
        self.assertEqual(state(session), before)

    def test_no_lines(self):
        session = begun()
        before = state(session)
        for text in ("", " ", "\n", "\n\n  \n", "   \n "):
            self.assertEqual(session.run(text), [])
        self.assertEqual(state(session), before)

    def test_numbers_of_lines(self):
        session = begun()
        self.assertEqual(session.run("\n\nbox\n   \nundo x\nsystems"),
                         ["line 3: invalid command", "line 5: invalid command", "systems: b d s"])
        # Each call numbers its lines from 1 on.
        self.assertEqual(session.run("box"), ["line 1: invalid command"])
        self.assertEqual(session.run("systems\nremove s\n\nanswer x"),
                         ["systems: b d s", "line 2: name in use s", "line 4: unknown name x"])

    def test_spaces(self):
        session = begun()
        self.assertEqual(session.run("  double   e    d  "), ["ok"])
        self.assertEqual(session.run("ask  m  third  e  0   7   "), ["ok"])
        self.assertEqual(session.run("   answer m"), ["m: third 14"])
        for line in ("double e\td", "\tundo", "undo\r", "undo\t", "undo\u00a0", "double\u2003e d", "undo\x0b", "undo\x0c"):
            self.refused(session, line, "line 1: invalid command")
        # Only newlines part lines.
        self.refused(session, "undo\rundo", "line 1: invalid command")
        self.refused(session, "undo\x0bundo", "line 1: invalid command")
        self.refused(session, "undo\u2028undo", "line 1: invalid command")

    def test_no_commands(self):
        session = begun()
        for line in ("end", "End", "bose 9", "three 0 1 2", "system", "system s s", "system 1s", "system " + "s" * 13, "double",
                     "double e", "double e d d", "product e d", "product e d d d", "take e d", "take e d 0 1 2 3 4 5 6", "take e d x",
                     "take e d -1", "remove", "remove d d", "ask", "ask q", "ask q size", "ask q size d 0", "ask q least d 0",
                     "ask q third d", "ask q third d 0", "ask q third d 0 1 2", "ask q closed d 0 1 2 3 4 5 6", "ask q box d",
                     "ask q Size d", "ask size q d", "drop", "drop n n", "answer", "answer n n", "answers n", "print", "print d d",
                     "systems d", "questions n", "undo 1", "redo 1", "Undo", "undo undo", "set s", "decide size s"):
            self.refused(session, line, "line 1: invalid command")

    def test_words_alone_decide(self):
        # What stands in a library makes no difference: the line is a command, or it is none.
        for session in (Session(), begun()):
            for line in ("take x s 01", "take x nothing 0 1 2 3 4 5 6", "ask q third nothing 0", "drop 1"):
                self.refused(session, line, "line 1: invalid command")

    def test_numbers_and_names(self):
        session = begun()
        for number in ("0" * 2, "01", "-1", "+1", "1.0", "1_0", "1e1", "\u0661", "\u00b2", "0x1", "9" * 32, "1" + "0" * 31):
            for line in ("take e d " + number, "take e d 0 " + number, "ask q third d 0 " + number, "ask q third d " + number + " 0",
                         "ask q closed d " + number, "ask q closed d 0 1 2 3 4 " + number):
                self.refused(session, line, "line 1: invalid command")
        self.refused(session, "take e d 0 " + GREATEST, "line 1: unknown point " + GREATEST)
        self.assertEqual(session.run("ask q third d " + GREATEST + " 0\nanswer q"), ["ok", "q: unknown " + GREATEST])
        for name in ("abcdefghijkl", "a0", "end", "system", "undo", "size", "x" * 12):
            self.assertEqual(session.run("double " + name + " s\nask " + name + " size " + name + "\nanswer " + name),
                             ["ok", "ok", name + ": size 15"])
        for name in ("abcdefghijklm", "0a", "A", "aB", "a_", "a-b", "\u00e4", "x" * 13):
            for line in ("system " + name, "double " + name + " s", "double e " + name, "remove " + name, "ask " + name + " size s",
                         "ask q size " + name, "drop " + name, "answer " + name, "print " + name):
                self.refused(session, line, "line 1: invalid command")

    def test_lines_behind_an_error(self):
        session = begun()
        self.assertEqual(session.run("double e x\nremove s\nbox\ndouble e d\nask q size e\nanswer q\ndrop x\nundo\nquestions"),
                         ["line 1: unknown name x", "line 2: name in use s", "line 3: invalid command", "ok", "ok", "q: size 31",
                          "line 7: unknown name x", "ok", "questions: c l n t"])


class Commands(unittest.TestCase):
    def refused(self, session, line, answer):
        before = state(session)
        self.assertEqual(session.run("\n" + line), ["line 2: " + answer])
        self.assertEqual(state(session), before)

    def test_double(self):
        session = begun()
        self.assertEqual(session.run("double e b"), ["ok"])
        self.assertEqual(session.library.system("e"), ("double", ("bose", 9)))
        self.assertEqual(session.run("double b b"), ["ok"])
        self.assertEqual(session.library.system("b"), ("double", ("bose", 9)))
        self.refused(session, "double e x", "unknown name x")
        session.library.set_system("a", doubled(("bose", 9), 11))
        self.refused(session, "double e a", "invalid system")
        session.library.set_system("a", ("skolem", 10 ** 30 - 3))
        self.refused(session, "double e a", "invalid system")

    def test_product(self):
        session = begun()
        self.assertEqual(session.run("product e s b"), ["ok"])
        self.assertEqual(session.library.system("e"), ("product", ("skolem", 7), ("bose", 9)))
        self.assertEqual(session.run("product e e b\nproduct s b s"), ["ok", "ok"])
        self.assertEqual(session.library.system("e"), ("product", ("product", ("skolem", 7), ("bose", 9)), ("bose", 9)))
        self.assertEqual(session.library.system("s"), ("product", ("bose", 9), ("skolem", 7)))
        self.refused(session, "product e x y", "unknown name x")
        self.refused(session, "product e s y", "unknown name y")
        self.refused(session, "product e x s", "unknown name x")
        session.library.set_system("a", ("skolem", 10 ** 15 + 3))
        self.refused(session, "product e a a", "invalid system")

    def test_take(self):
        session = begun()
        self.assertEqual(session.run("take e d 14 0\ntake f s 6 6 6 6 6 6\ntake g b 0 1 3\nprint e\nprint f"),
                         ["ok", "ok", "ok", "system", "listed 3", "three 0 1 2", "system", "listed 1"])
        self.assertEqual(points_in(session.library.system("g")), 9)
        self.refused(session, "take e x 0", "unknown name x")
        self.refused(session, "take e x 99", "unknown name x")
        self.refused(session, "take e s 0 8 7", "unknown point 8")
        self.refused(session, "take e s 7 8", "unknown point 7")
        session.library.set_system("a", ("bose", 63))
        self.refused(session, "take e a 0 1 2 5", "invalid question")
        self.refused(session, "take e a 63 0 1 2 5", "unknown point 63")

    def test_remove(self):
        session = begun()
        self.refused(session, "remove x", "unknown name x")
        self.refused(session, "remove n", "unknown name n")
        for name in ("d", "s", "b"):
            self.refused(session, "remove " + name, "name in use " + name)
        self.assertEqual(session.run("drop l\nremove b\nsystems"), ["ok", "ok", "systems: d s"])
        self.refused(session, "remove b", "unknown name b")

    def test_ask(self):
        session = begun()
        self.assertEqual(session.run("ask s size s\nask n third b 3 7\nask c closed b\nask w closed d 99 98 0 0 0 0"), ["ok"] * 4)
        library = session.library
        self.assertEqual([library.question(name) for name in ("s", "n", "c", "w")],
                         [("size", "s", ()), ("third", "b", (3, 7)), ("closed", "b", ()), ("closed", "d", (99, 98, 0, 0, 0, 0))])
        for line in ("ask q size x", "ask q least x", "ask q third x 0 0", "ask q closed x 99", "ask q size n"):
            self.refused(session, line, "unknown name " + line.split(" ")[3])

    def test_drop(self):
        session = begun()
        self.refused(session, "drop x", "unknown name x")
        self.refused(session, "drop s", "unknown name s")
        self.assertEqual(session.run("drop t\nquestions\nanswer t"), ["ok", "questions: c l n", "line 3: unknown name t"])

    def test_answer(self):
        session = begun()
        self.assertEqual(session.run("answer n\nanswer t\nanswer c\nanswer l"),
                         ["n: size 15", "t: third 3", "c: closed 7", "l: least " + " ".join(map(str, least_points(("bose", 9))))])
        self.refused(session, "answer x", "unknown name x")
        self.refused(session, "answer s", "unknown name s")

    def test_each_answer(self):
        session = begun()
        session.library.set_system("m", ("bose", 2001))
        session.library.set_system("g", ("skolem", 10 ** 30 - 3))
        session.library.set_system("one", ("listed", 1, ()))
        for line, answer in (("size g", "size " + str(10 ** 30 - 3)), ("size one", "size 1"), ("third s 5 5", "refused"),
                             ("third s 5 7", "unknown 7"), ("third s 8 7", "unknown 8"), ("third g 0 1", None),
                             ("closed m 0 1 2", "many 2000"), ("closed m 2001", "unknown 2001"), ("closed m", "closed 0"),
                             ("closed s 3 3", "closed 1"), ("closed s 3 3 3 9", "unknown 9"), ("least m", "refused"),
                             ("least one", "least 0"), ("least s", "least 0 1 2")):
            told = session.run("ask q " + line + "\nanswer q")
            self.assertEqual(told[0], "ok")
            if answer is None:
                self.assertEqual(told[1], "q: third " + str(session.library.answer("q")[1]))
            else:
                self.assertEqual(told[1:], ["q: " + answer])

    def test_answers(self):
        session = begun()
        told = ["c: closed 7", "l: least 0 1 2", "n: size 15", "t: third 3"]
        self.assertEqual(session.run("answers"), told)
        self.assertEqual(session.run("drop n\nask a size s\nanswers"), ["ok", "ok", "a: size 7", told[0], told[1], told[3]])
        self.assertEqual(session.run("drop a\ndrop c\ndrop l\ndrop t\nanswers"), ["ok"] * 4)

    def test_counting(self):
        session = begun()
        library = session.library
        self.assertEqual((library.decided, library.kept), (0, 0))
        session.run("answer n")
        self.assertEqual((library.decided, library.kept), (1, 0))
        session.run("answers")
        self.assertEqual((library.decided, library.kept), (4, 1))
        session.run("answers\nanswer n\nanswer x\nask m size d\nanswer m")
        self.assertEqual((library.decided, library.kept), (4, 7))
        session.run("print d\nsystems\nquestions\nundo\nredo")
        self.assertEqual((library.decided, library.kept), (4, 7))

    def test_print(self):
        session = Session()
        for tree in SMALL + GREAT:
            session.library.set_system("s", tree)
            self.assertEqual(session.run("print s"), format_system(tree).split("\n"))
        self.assertEqual(session.run("print x\nprint s"), ["line 1: unknown name x"] + format_system(GREAT[-1]).split("\n"))

    def test_names(self):
        session = begun()
        self.assertEqual(session.run("systems\nquestions"), ["systems: b d s", "questions: c l n t"])
        self.assertEqual(session.run("double a2 s\ndouble a10 s\nask b size s\nsystems\nquestions"),
                         ["ok", "ok", "ok", "systems: a10 a2 b d s", "questions: b c l n t"])
        self.assertEqual(Session().run("systems\nquestions"), ["systems:", "questions:"])

    def test_undo_and_redo(self):
        session = begun()
        self.refused(session, "redo", "nothing to redo")
        self.assertEqual(session.run("undo\nquestions\nredo\nquestions"), ["ok", "questions: c n t", "ok", "questions: c l n t"])
        self.assertEqual(session.run("\n".join(["undo"] * 9)), ["ok"] * 7 + ["line 8: nothing to undo", "line 9: nothing to undo"])
        self.assertEqual(session.run("systems\nquestions"), ["systems:", "questions:"])
        self.assertEqual(session.run("\n".join(["redo"] * 8)), ["ok"] * 7 + ["line 8: nothing to redo"])
        self.assertEqual(session.run("systems\nquestions"), ["systems: b d s", "questions: c l n t"])
        self.assertEqual(session.run("undo\ndrop n\nredo"), ["ok", "ok", "line 3: nothing to redo"])
        self.refused(Session(), "undo", "nothing to undo")

    def test_only_changes_can_be_undone(self):
        session = begun()
        session.run("undo")
        before = state(session)
        session.run("answers\nanswer n\nprint d\nsystems\nquestions\nbox\nremove d\ndrop x\nsystem s\nbox\nend")
        self.assertEqual(state(session), before)

    def test_the_library_is_the_same(self):
        session = Session()
        library = session.library
        session.run(BEGIN)
        self.assertIs(session.library, library)
        self.assertEqual(library.system_names(), ["b", "d", "s"])
        library.set_system("z", ("affine", 60))
        library.undo()
        library.double("y", "b")
        self.assertEqual(session.run("systems\nundo\nsystems"), ["systems: b d s y", "ok", "systems: b d s"])

    def test_commands_against_a_library(self):
        chance = random.Random(3)
        for _ in range(60):
            session, library = Session(), Library()
            session.run("system a\nlisted 1\nend\nsystem b\nbose 3\nend")
            library.set_system("a", ("listed", 1, ()))
            library.set_system("b", ("bose", 3))
            for _ in range(40):
                line, method, told = self.any_change(chance)
                answer = session.run(line)
                try:
                    getattr(library, method)(*told)
                    self.assertEqual(answer, ["ok"])
                except PaironceError as error:
                    self.assertEqual(len(answer), 1)
                    self.assertIn(type(error).__name__.lower(), answer[0].replace(" ", ""))
                self.assertEqual(defined(session.library), defined(library))

    def any_change(self, chance):
        a, b, c = [chance.choice("abc") for _ in range(3)]
        points = [chance.randrange(9) for _ in range(chance.randrange(1, 5))]
        words = " ".join(map(str, points))
        return chance.choice([
            (f"double {a} {b}", "double", (a, b)), (f"product {a} {b} {c}", "product", (a, b, c)),
            (f"take {a} {b} {words}", "take_out", (a, b, points)), (f"remove {a}", "remove_system", (a,)),
            (f"ask {a} size {b}", "ask", (a, "size", b, [])), (f"ask {a} closed {b} {words}", "ask", (a, "closed", b, points)),
            (f"drop {a}", "drop", (a,)), ("undo", "undo", ()), ("redo", "redo", ()),
        ])


class Blocks(unittest.TestCase):
    def test_each_system(self):
        session = Session()
        for tree in SMALL + GREAT:
            lines = format_system(tree).split("\n")
            self.assertEqual(session.run("\n".join(["system s"] + lines[1:] + ["end"])), ["ok", "ok"])
            self.assertEqual(session.library.system("s"), parse_system("\n".join(lines)))

    def test_what_a_block_answers(self):
        session = Session()
        self.assertEqual(session.run("system s"), ["ok"])
        self.assertEqual(session.run("double"), [])
        self.assertEqual(session.library.system_names(), [])
        self.assertEqual(session.run("bose 9\n"), [])
        self.assertEqual(session.run("end"), ["ok"])
        self.assertEqual(session.library.system("s"), ("double", ("bose", 9)))
        self.assertEqual(session.run("end"), ["line 1: invalid command"])

    def test_words_and_lines_without_words(self):
        session = Session()
        self.assertEqual(session.run("  system   s \n\n   listed    3 \n  \n\n three   2  0 1\n\n   end  \nprint s"),
                         ["ok", "ok", "system", "listed 3", "three 0 1 2"])

    def test_points_in_any_order(self):
        session = Session()
        lines = ["three %d %d %d" % tuple(three) for three in FANO]
        self.assertEqual(session.run("\n".join(["system s", "listed 7"] + lines + ["end"])), ["ok", "ok"])
        self.assertEqual(session.library.system("s"), ("listed", 7, tuple(tuple(sorted(three)) for three in FANO)))

    def test_commands_in_a_block(self):
        for line in ("undo", "systems", "system t", "answers", "box", "double d s", "end x", "x end", "End", "end end", "\tend"):
            session = begun()
            before = state(session)
            self.assertEqual(session.run("system z\n" + line + "\nbose 9\nend"), ["ok", "line 4: invalid notation 1"])
            self.assertEqual(state(session), before)

    def test_no_written_form(self):
        session = begun()
        before = state(session)
        for lines, wrong in (([], 1), (["double"], 2), (["product", "bose 9"], 3), (["bose 9", "bose 9"], 2), (["bose"], 1),
                             (["bose 09"], 1), (["bose 9 9"], 1), (["system", "bose 9"], 1), (["bose 9", "three 0 1 2"], 2),
                             (["listed 3", "three 0 1 2", "three 0 1"], 3), (["double", "double", "x", "y"], 3), (["bose\t9"], 1),
                             (["listed 3", "", "  ", "three 0 1 2", "", "box"], 3), (["", "", "product", "", "affine 1", " "], 3),
                             (["bose " + "1" * 32], 1), (["bose -9"], 1), (["bose 10", "box"], 2), (["bose 9", "systems"], 2)):
            number = len(lines) + 2
            self.assertEqual(session.run("\n".join(["system s"] + lines + ["end"])),
                             ["ok", "line %d: invalid notation %d" % (number, wrong)], lines)
            # The block is closed, and what stood under the name is still there.
            self.assertEqual(state(session), before)
            self.assertEqual(session.run("systems"), ["systems: b d s"])

    def test_no_system(self):
        session = begun()
        before = state(session)
        for text in ("bose 10", "skolem 9", "affine 0", "affine 61", "binary 1", "listed 0", "listed 3", "listed 61",
                     "listed 3\nthree 0 1 1", "listed 3\nthree 0 1 3", "double\naffine 63", "product\naffine 60\naffine 60",
                     "\n".join(["double"] * 12 + ["listed 1"]), "\n".join(["double"] * 3000 + ["listed 1"]), "bose " + GREATEST,
                     "listed 7\n" + "\n".join(["three %d %d %d" % tuple(three) for three in FANO[1:]])):
            number = len(text.split("\n")) + 3
            self.assertEqual(session.run("\nsystem s\n" + text + "\nend"), ["ok", "line %d: invalid system" % number])
            self.assertEqual(state(session), before)
            self.assertEqual(session.run("questions"), ["questions: c l n t"])

    def test_open_at_the_end_of_a_call(self):
        session = begun()
        self.assertEqual(session.run("systems\nsystem z\nlisted 9"), ["systems: b d s", "ok"])
        for three in NINE:
            self.assertEqual(session.run("three %d %d %d" % three), [])
        self.assertEqual(session.run(""), [])
        self.assertEqual(session.run("\n\nend\nsystems"), ["ok", "systems: b d s z"])
        self.assertEqual(points_in(session.library.system("z")), 9)
        # The lines of an error have the numbers of its own call, and those among all that were taken.
        self.assertEqual(session.run("\n\nsystem z\nlisted 3\nthree 0 1 2"), ["ok"])
        self.assertEqual(session.run("\nbox\n\nend\nend"), ["line 4: invalid notation 3", "line 5: invalid command"])
        self.assertEqual(points_in(session.library.system("z")), 9)

    def test_one_block_behind_another(self):
        session = Session()
        self.assertEqual(session.run("system s\nbose 10\nend\nsystem t\nbose 9\nend\nsystem s\nbose 3\nend\nsystems"),
                         ["ok", "line 3: invalid system", "ok", "ok", "ok", "ok", "systems: s t"])
        self.assertEqual(session.run("undo\nsystems\nundo\nundo"), ["ok", "systems: t", "ok", "line 4: nothing to undo"])

    def test_changes_of_the_library_while_a_block_is_open(self):
        session = Session()
        session.run("system s\naffine 2")
        session.library.set_system("t", ("bose", 3))
        session.library.undo()
        self.assertEqual(session.run("end\nsystems\nredo"), ["ok", "systems: s", "line 3: nothing to redo"])

    def test_a_name_of_both(self):
        session = Session()
        self.assertEqual(session.run("system s\nbose 9\nend\nask s size s\nsystems\nquestions\nanswer s\nremove s\ndrop s\nremove s"),
                         ["ok", "ok", "ok", "systems: s", "questions: s", "s: size 9", "line 8: name in use s", "ok", "ok"])
