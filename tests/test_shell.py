"""Stage 25: a shell."""
import unittest

from seenanddone.ask.questions import decide
from seenanddone.errors import InvalidOperation
from seenanddone.house.hands import Hand, House
from seenanddone.house.log import read_log, write_log
from seenanddone.house.views import View
from seenanddone.text.shell import Shell
from seenanddone.text.texts import read_data, read_diagram, read_question, write_data, write_question
from seenanddone.web.diagrams import Diagram
from tests.helper import FRONT, ODDER, check_errors

FLU = "x y z: x>z, z>y, x-y"


def told(*texts):
    """A house, and a shell that has been told some texts."""
    house = House()
    shell = Shell(house)
    for text in texts:
        shell.say(text)
    return house, shell


def state(house, shell):
    """All that texts can change."""
    return house.commits, house.undone, shell.author, shell.authors, [str(shell._hands[name]) for name in shell.authors], [
        (shell._hands[name].deeds, shell._hands[name].has_read) for name in shell.authors]


class ShellTest(unittest.TestCase):
    def test_each_text(self):
        house, shell = told()
        say = shell.say
        self.assertEqual([say(""), say("   ")], ["", ""])
        self.assertEqual((shell.author, shell.authors, str(shell), len(shell)), ("me", ("me",), "shell of 1 authors, at 0", 1))
        self.assertEqual([say(f"begin flu {FLU}"), say("pin flu told x y"), say("pin flu free x y z"), say("ask flu told x y"), say("ask flu free x y z")], ["1", "1", "2", "yes", "no"])
        self.assertEqual(house.commits, ())
        self.assertEqual(say("words flu"), "invalid")
        self.assertEqual([say("commit"), say("words flu"), str(shell)], ["1", "1 stands, 2 stands", "shell of 1 authors, at 1"])
        self.assertEqual(house.commits, ((1, "me", (("begin", "flu", FRONT.things, FRONT.arrows, FRONT.bows), ("pin", "flu", ("told", ("x",), ("y",))), ("pin", "flu", ("free", ("x",), ("y",), ("z",))))),))
        self.assertEqual(say("why flu told x y"), write_data(decide(FRONT, ("told", ("x",), ("y",)))[1]))
        self.assertEqual(read_data(say("why flu free x y z")), decide(FRONT, ("free", ("x",), ("y",), ("z",)))[1])
        self.assertEqual([say("see flu x+y told x y"), say("see flu z+y+x told x y"), say("see flu y told - y")], ["no", "yes", "yes"])
        self.assertEqual([say("edit flu hide z"), say("words flu"), say("ask flu told x y"), say("see flu x+y+z told x y")], ["2", "1 stands, 2 stands", "no", "yes"])
        self.assertEqual([say("commit"), say("commit flu 2"), say("commit flu 1")], ["refused fallen", "refused fallen", "refused fallen"])
        # Both claims would fall: so there has to be a commit for each.
        self.assertEqual([say("drop"), say("edit flu arrow x y"), say("ask flu told x y")], ["ok", "2", "no"])
        self.assertEqual([say("commit flu 1"), say("words flu"), say("edit flu drop z"), say("commit flu 2"), say("words flu")], ["2", "1 fallen, 2 stands", "3", "3", "1 fallen, 2 fallen"])
        self.assertEqual([say("back"), say("words flu"), say("back"), say("words flu"), say("back"), say("back"), say("forward"), say("forward"), say("forward"), say("forward")],
                         ["2", "1 fallen, 2 stands", "1", "1 stands, 2 stands", "0", "no more", "1", "2", "3", "no more"])
        self.assertEqual(say("begin none a"), "1")
        self.assertEqual([say("commit"), say("words none")], ["4", "none"])

    def test_edits(self):
        _, shell = told("begin s a b c: a>b")
        texts = ("arrow b c", "bow c b", "thing q", "no  arrow a b", "no bow b c", "turn b c", "drop q", "hide c", " arrow  a b ")
        self.assertEqual(shell.run(tuple("edit s " + text for text in texts)), tuple(str(at) for at in range(2, 11)))
        self.assertEqual(shell.say("ask s free a b -"), "no")
        self.assertEqual(shell._hands["me"].deeds[4], ("edit", "s", (("no arrow", "a", "b"),)))

    def test_several_authors(self):
        house, shell = told("begin s a b: a>b", "commit")
        say = shell.say
        self.assertEqual([say("as ann"), say("ask s free a b -"), say("edit s bow a b"), say("as bob"), say("edit s no arrow a b"), say("commit")], ["ann on 1", "no", "2", "bob on 1", "2", "2"])
        self.assertEqual((shell.author, shell.authors, len(shell), str(shell)), ("bob", ("ann", "bob", "me"), 3, "shell of 3 authors, at 2"))
        self.assertEqual([value in shell for value in ("ann", "cid", None, [], {}, ("ann",), "me")], [True, False, False, False, False, False, True])
        self.assertEqual([say("as ann"), say("commit"), say("drop"), say("as ann"), say("edit s bow a b"), say("commit"), say("as me"), say("commit")],
                         ["ann on 1", "refused read", "ok", "ann on 2", "3", "3", "me on 1", "refused empty"])
        self.assertEqual([author for _, author, _ in house.commits], ["me", "bob", "ann"])
        self.assertEqual([say("edit s thing q"), say("as bob"), say("back"), say("back"), say("back"), say("as me"), say("commit")], ["2", "bob on 2", "2", "1", "0", "me on 1", "refused adrift"])

    def test_the_house_itself(self):
        house, shell = told("begin s a", "commit")
        hand = Hand(house, "ann")
        hand.do(("edit", "s", (("thing", "b"),)))
        self.assertEqual(hand.commit(), 2)
        self.assertEqual([shell.say("see s a+b free a b -"), shell.say("ask s free a b -"), shell.say("drop"), shell.say("ask s free a b -")], ["yes", "invalid", "ok", "yes"])
        self.assertEqual([shell.say("back"), house.present], ["1", 1])
        self.assertEqual(read_log(write_log(house)).commits, house.commits)

    def test_wrong_pieces(self):
        house, shell = told("begin s a b: a>b", "commit")
        cases = {
            "foo": 0, "  foo": 2, "As x": 0, "begins s a": 0, "as": 2, "as ": 3, "as A": 3, "as ann bob": 7, " as  ann  bob": 10, "as a+b": 3, "as abcdefghi": 3, "as -": 3,
            "begin": 5, "begin t": 7, "begin t ": 8, "begin T a": 6, "begin t a:": 10, "begin t  a  b": 11, "begin t a b: a>b,": 17, "begin t a ": 10, "begin t 1a": 8, "begin t a b: a+b": 14,
            "edit": 4, "edit s": 6, "edit s foo": 7, "edit s no": 9, "edit s no foo a b": 10, "edit s no arrow": 15, "edit s arrow a": 14, "edit s arrow a B": 15, "edit s arrow a b c": 17, "edit S arrow a b": 5,
            "edit s drop": 11, "edit s drop a b": 14, "edit s thing 1": 13, "edit s arrow a>b": 13, "edit s  no  bow  a": 18, "edit s no-arrow a b": 7, "edit s no drop a": 10, "edit s arrow a -": 15,
            "pin": 3, "pin s": 5, "pin s ": 6, "pin s foo": 7, "pin s free a b": 14, "pin S free": 4, "pin s told  a": 11, "pin s free a b - c": 16, "pin s  told - a ": 15,
            "ask": 3, "ask s": 5, "ask s tell": 10, "ask s same a>b,b": 16, "why s pays a b": 14, "why s x": 6, "why 1 told - a": 4,
            "see": 3, "see s": 5, "see s a": 7, "see s a++b told": 6, "see s a+ told - a": 6, "see s A told - a": 6, "see S a told - a": 4, "see s a told - a b": 16, "see s a told": 12, "see s a,b told": 6, "see s --": 6,
            "words": 5, "words S": 6, "words s s": 8, "commit s": 8, "commit S 1": 7, "commit s x": 9, "commit s 01": 9, "commit s 1000": 9, "commit s 1 t": 11, "commit s -1": 9, "commit s 00": 9, "commit s 1+": 9,
            "back 1": 5, "forward s": 8, "drop me": 5, "drop  ": None, "commit ": None, "?": 0, "words": 5}
        for text, spot in cases.items():
            if spot is not None:
                before = state(house, shell)
                self.assertEqual(shell.say(text), f"wrong at {spot}", text)
                self.assertEqual(state(house, shell), before, text)

    def test_what_is_refused_has_no_effect(self):
        house, shell = told(f"begin flu {FLU}", "pin flu told x y", "commit", "as ann", "edit flu thing q", "as bob", "ask flu told x y", "as me")
        answers = {
            "begin t a a": "invalid", "begin t a b: a>b, b>a": "invalid", "begin flu a": "invalid", "begin t a b c d e f g": "invalid", "edit t drop a": "invalid", "edit flu arrow x x": "invalid",
            "edit flu drop q": "refused edit", "edit flu arrow y x": "refused edit", "pin t told - a": "invalid", "pin flu told x q": "invalid", "pin flu told x x": "invalid", "pin flu same -": "invalid",
            "ask t told x y": "invalid", "ask flu tells": "invalid", "why flu told x q": "invalid", "see t x told - x": "invalid", "see flu x+x told - x": "invalid", "see flu q told - x": "invalid",
            "see flu - told - x": "invalid", "see flu x told x y": "invalid", "words t": "invalid", "commit": "refused empty", "commit flu 1": "refused empty", "commit t 0": "refused empty", "commit t 100": "refused empty", "commit t 999": "refused empty", "forward": "no more"}
        for text, answer in answers.items():
            before = state(house, shell)
            self.assertEqual(shell.say(text), answer, text)
            self.assertEqual(state(house, shell), before, text)

    def test_too_many(self):
        house, shell = told(*(f"begin s{at} a b: a>b" for at in range(8)))
        self.assertEqual([shell.say("begin t a"), shell.say("commit")], ["too many 8", "1"])
        for at in range(2, 41):
            self.assertEqual(shell.run((f"edit s0 {'bow' if at % 2 == 0 else 'no bow'} a b", "commit")), (str(at), str(at)))
        self.assertEqual(shell.say("edit s0 no bow a b"), "too many 40")
        for at in range(1, 21):
            self.assertEqual(shell.run(("pin s1 told a b", "commit")), (str(at), str(at + 40)))
        self.assertEqual(shell.say("pin s1 told a b"), "too many 20")
        for at in range(10):
            self.assertEqual(shell.say(f"edit s2 {'bow' if at % 2 == 0 else 'no bow'} a b"), str(at + 2))
        self.assertEqual([shell.say("edit s2 bow a b"), shell.say("commit")], ["too many 10", "61"])
        for at in range(62, 101):
            shell.run((f"edit s{at % 4 + 3} {'turn a b' if at // 4 % 2 else 'turn b a'}", "commit"))
            if len(house) < at:
                self.assertEqual(shell.run((f"edit s{at % 4 + 3} {'turn b a' if at // 4 % 2 else 'turn a b'}", "commit")), (str(house.at().editions(f"s{at % 4 + 3}")), str(at)))
        self.assertEqual((len(house), shell.run(("edit s7 turn a b", "commit"))), (100, ("2", "too many 100")))

    def test_run(self):
        house, shell = told()
        self.assertEqual(shell.run(()), ())
        self.assertEqual(shell.run(("begin s a b", "", "commit", "as", "words s")), ("1", "", "1", "wrong at 2", "none"))
        texts = ("begin t a",) * 99
        for value in (texts + ("a", "b"), list(texts), ("begin t a", "x" * 2001), ("begin t a", None), ("begin t a", "a\tb"), ("begin t a", "a\n"), "begin t a", None, {}, (("begin t a",),), ("\x7f",), ("\u00e9",)):
            with self.assertRaises(InvalidOperation):
                shell.run(value)
            self.assertEqual(shell.say("ask t told - a"), "invalid")
        self.assertEqual(len(shell.run(("",) * 100)), 100)
        for value in ODDER + ("x" * 2001, "a\tb", "a\n", "\x7f", "\u00e9"):
            if not isinstance(value, str) or len(value) > 2000 or not value.isprintable():
                with self.assertRaises(InvalidOperation):
                    shell.say(value)
        self.assertEqual([shell.say("x" * 2000), shell.say(" " * 2000), shell.say("~")], ["wrong at 0", "", "wrong at 0"])
        self.assertEqual(len(house), 1)
        check_errors(self, Shell, (house,), {0: (InvalidOperation, ODDER)})
        with self.assertRaises(TypeError):
            iter(shell)

    def test_answers_are_those_of_the_stages(self):
        house, shell = told("begin s a b c d: a>b, b>c, d-b", "begin t a b c: a>b, c>b", "commit")
        for name, questions in (("s", ("free a c b", "free a c b+d", "adjusts b c -", "adjusts b c a", "told b c", "told b c+d", "told - a", "pays b c a", "pays b c d")),
                                ("t", ("same b>a,b>c", "same a>b,c>b", "tells", "tells b -", "free a c b"))):
            diagram = house.at().diagram_at(name)
            for text in questions:
                question = read_question(text)
                if shell.say(f"ask {name} {text}") == "invalid":
                    self.assertEqual(text, "pays b c a")
                    continue
                verdict, paper = decide(diagram, question)
                self.assertEqual(shell.say(f"ask {name} {text}"), "yes" if verdict else "no")
                self.assertEqual(shell.say(f"why {name} {text}"), write_data(paper))
                self.assertEqual(shell.say(f"ask {name} {write_question(question)}"), "yes" if verdict else "no")
        view = View(read_diagram("a b c d: a>b, b>c, d-b"), ("a", "c", "d"))
        self.assertEqual(shell.say("see s d+a+c told d c"), "yes" if view.decide(("told", ("d",), ("c",)))[0] else "no")
        self.assertEqual(shell._hands["me"].has_read, ("s", "t"))
        self.assertEqual(Diagram(("a",)), read_diagram("a"))


if __name__ == "__main__":
    unittest.main()
