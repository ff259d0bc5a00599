"""Stage 25: texts of diagrams, of questions, and of data."""
import ast
import itertools
import random
import re
import string
import unittest

from seenanddone.ask.questions import decide
from seenanddone.errors import InvalidDiagram, InvalidOperation, InvalidQuestion, ParseError, TooMany
from seenanddone.text.texts import is_data, read_data, read_diagram, read_question, write_data, write_diagram, write_question
from seenanddone.web.diagrams import Diagram
from tests.helper import BOW, FORK, FRONT, NO_DIAGRAMS, ODDER, TOO_LONG, check_errors, small_diagrams, some_diagrams
from tests.test_questions import FORMS, cases

# Texts of such signs, whatever they tell, as rows of choices: regular expressions for all that can be read.
NAME = "[a-z][a-z0-9]{0,7}"
LOT = rf"(?:-|{NAME}(?:\+{NAME})*)"
ARROWS = rf"(?:-|{NAME}>{NAME}(?:,{NAME}>{NAME})*)"
TIE = rf"{NAME}[->]{NAME}"
DIAGRAM = rf"{NAME}(?: {NAME})*(?:: {TIE}(?:, {TIE})*)?"
QUESTION = rf"(?:(?:free|adjusts) {LOT} {LOT} {LOT}|told {LOT} {LOT}|same {ARROWS}|tells(?: {LOT})*|pays {NAME} {NAME} {NAME})"
SIGNS = "ab1 :>-,+ zZ.'"


def wrong(test, call, text):
    with test.assertRaises(ParseError, msg=text[:80]) as caught:
        call(text)
    return caught.exception.spot


def goes_on(prefix, whole, tails):
    """Whether some text of such signs begins with a prefix: one of many tails makes one."""
    return any(whole.fullmatch(prefix + tail) for tail in tails)


def check_against(test, read, pattern, texts, tails, invalid):
    """Each text is read, or is wrong at the first sign with which no text of such signs goes on."""
    whole = re.compile(pattern)
    for text in texts:
        try:
            read(text)
        except ParseError as error:
            spot = error.spot
            test.assertIsNone(whole.fullmatch(text), text)
            test.assertLessEqual(spot, len(text))
            test.assertTrue(goes_on(text[:spot], whole, tails), (text, spot))
            if spot < len(text):
                test.assertFalse(goes_on(text[:spot + 1], whole, tails), (text, spot))
        except invalid:
            test.assertIsNotNone(whole.fullmatch(text), text)
        else:
            test.assertIsNotNone(whole.fullmatch(text), text)


def spoilt(text, draw, signs=SIGNS):
    """Texts that are spoilt at one sign, cut off, or have further blanks."""
    for at in range(len(text) + 1):
        yield text[:at]
        yield text[:at] + " " + text[at:]
        yield text[:at] + draw.choice(signs) + text[at:]
        yield text[:at] + draw.choice(signs) + text[at + 1:]
        yield text[:at] + text[at + 1:]


class DiagramTextTest(unittest.TestCase):
    def test_written_and_read_back(self):
        for diagram in list(small_diagrams())[::2] + list(some_diagrams(40, 6, 251)) + [Diagram(("abcdefgh", "b2"), (("b2", "abcdefgh"),))]:
            text = write_diagram(diagram)
            self.assertEqual(read_diagram(text), diagram)
            ties = [f"{a}>{b}" for a, b in diagram.arrows] + [f"{a}-{b}" for a, b in diagram.bows]
            self.assertEqual(text, " ".join(diagram.things) + (": " + ", ".join(ties) if ties else ""))
            draw = random.Random(text)
            things = list(diagram.things)
            turned = [f"{a}>{b}" for a, b in diagram.arrows] + ["-".join(draw.sample(bow, 2)) for bow in diagram.bows]
            draw.shuffle(things)
            draw.shuffle(turned)
            self.assertEqual(read_diagram(" ".join(things) + (": " + ", ".join(turned) if turned else "")), diagram)
        self.assertEqual([write_diagram(FRONT), write_diagram(Diagram(("a",)))], ["x y z: x>z, z>y, x-y", "a"])

    def test_spoilt_texts(self):
        draw = random.Random(1)
        texts = []
        for text in ("a b1: a>b1, a-b1", "z", "ab a", "abcdefgh z: z>abcdefgh", "a b: a-b"):
            texts += list(spoilt(text, draw))
        tails = ["", "a", ": a>a", " a>a", "a>a", ">a", " a", "-a", ", a>a"]
        check_against(self, read_diagram, DIAGRAM, texts, tails, InvalidDiagram)

    def test_indices(self):
        for text, spot in (("", 0), (" a", 0), ("a ", 2), ("a  b", 2), ("a b:", 4), ("a b: ", 5), ("a b:a>b", 4), ("a b: a", 6), ("a b: a>", 7), ("a b: a>b,", 9), ("a b: a>b,a>b", 9),
                           ("a b: a>b ", 8), ("a b: a=b", 6), ("abcdefghi", 8), ("a, b", 1), ("1a", 0), ("A", 0), ("a\tb", 1), ("a b: a>b>a", 8), ("a b: a>b, ", 10), ("a b:  a>b", 5), ("a\n", 1)):
            self.assertEqual(wrong(self, read_diagram, text), spot, text)
        for text in ("a a", "a b c d e f g", "a: a>b", "a b: a>a", "a b: a>b, b>a", "a b: a>b, a>b", "a b: a-b, b-a", "a b: a-a", "a b c: a>b, b>c, c>a"):
            with self.assertRaises(InvalidDiagram):
                read_diagram(text)

    def test_errors(self):
        for value in ODDER:
            if not isinstance(value, str):
                self.assertIsNone(wrong_value(self, read_diagram, value))
                self.assertIsNone(wrong_value(self, read_question, value))
                self.assertIsNone(wrong_value(self, read_data, value))
        check_errors(self, write_diagram, (FORK,), {0: (InvalidDiagram, NO_DIAGRAMS)})


def wrong_value(test, call, value):
    with test.assertRaises(ParseError) as caught:
        call(value)
    return caught.exception.spot


class QuestionTextTest(unittest.TestCase):
    def test_written_and_read_back(self):
        for _, question in itertools.islice(cases(), 0, None, 3):
            self.assertEqual(read_question(write_question(question)), question)
        told = {
            ("free", ("a", "b"), ("c",), ()): "free a+b c -", ("adjusts", ("x",), ("y",), ("u", "v2")): "adjusts x y u+v2", ("told", (), ("y", "z")): "told - y+z",
            ("same", ()): "same -", ("same", (("a", "b"), ("c", "b"))): "same a>b,c>b", ("tells", ()): "tells", ("tells", ((), ("a",), ("a", "b"))): "tells - a a+b", ("pays", "d", "g", "w"): "pays d g w",
            ("pays", "deed", "gain9", "look"): "pays deed gain9 look"}
        for question, text in told.items():
            self.assertEqual((write_question(question), read_question(text)), (text, question))
        for text, question in (("tells b+a -", ("tells", (("a", "b"), ()))), ("free b+a d+c f+e", ("free", ("a", "b"), ("c", "d"), ("e", "f"))), ("same c>b,a>b", ("same", (("a", "b"), ("c", "b"))))):
            self.assertEqual(read_question(text), question)
        # By its form alone: rings, and more names than a diagram has.
        self.assertEqual(read_question("same b>a,a>b"), ("same", (("a", "b"), ("b", "a"))))
        self.assertEqual(read_question("told - a+b+c+d+e+f+g")[2], tuple("abcdefg"))

    def test_spoilt_texts(self):
        draw = random.Random(2)
        texts = []
        for text in ("free a+b c -", "adjusts a b z1", "told - abcdefgh", "same a>b,b>z", "same -", "tells a - a+b", "pays a b1 c"):
            texts += list(spoilt(text, draw))
        parts = ["", "a", "+a", ">a", " a", " -", "a>a", "-", "ree", "djusts", "old", "ame", "ells", "ays", "ree a a a", " a a", " a a a", "a a", "a a a", " a>a", "s a a a"]
        words = ["free", "adjusts", "told", "same", "tells", "pays"]
        rests = [word[at:] for word in words for at in range(len(word) + 1)]
        tails = parts + [one + two for one in rests for two in ("", " a", " a a", " a a a", " a>a")] + [">a" + two for two in ("", ",a>a")]
        check_against(self, read_question, QUESTION, texts, tails, InvalidQuestion)

    def test_indices(self):
        for text, spot in (("", 0), ("f", 1), ("fr", 2), ("free", 4), ("free ", 5), ("fred a b c", 3), ("free a b", 8), ("free a b ", 9), ("free a b c ", 10), ("free a b c d", 10), ("free a+ b c", 7),
                           ("free  a b c", 5), ("told - y ", 8), ("told -a y", 6), ("same", 4), ("same a", 6), ("same a>", 7), ("same a>b,", 9), ("same a>b, b>c", 9), ("same a-b", 6), ("tells ", 6), ("tells  a", 6),
                           ("tellsa", 5), ("tell", 4), ("tol", 3), ("t", 1), ("pays a b", 8), ("pays a b -", 9), ("pays a+b c d", 6), ("pays abcdefghi b c", 13), (" free a b c", 0), ("Free a b c", 0), ("told - y\n", 8)):
            self.assertEqual(wrong(self, read_question, text), spot, text)
        for text in ("free - b c", "free a - c", "free a b a", "free a+a b c", "told a a", "told a -", "same a>a", "same a>b,a>b", "tells" + " -" * 9, "tells a+a", "pays a b a"):
            with self.assertRaises(InvalidQuestion, msg=text):
                read_question(text)
        self.assertEqual(read_question("tells" + " -" * 8), ("tells", ((),) * 8))

    def test_errors(self):
        bad = ODDER + tuple(value for values in FORMS.values() for value in values)
        check_errors(self, write_question, (("told", (), ("y",)),), {0: (InvalidQuestion, bad)})


def some_data(draw, deep):
    kind = draw.randint(0, 9 if deep else 4)
    if kind < 2:
        return draw.choice((None, True, False))
    if kind == 2:
        return draw.randint(-10 ** draw.choice((1, 3, 40)), 10 ** draw.choice((1, 3, 40)))
    if kind < 5:
        return "".join(draw.choice("abc XYZ09~!#%&()*+,-./:;<=>?@[]^_`{|}") for _ in range(draw.choice((0, 1, 5, 40))))
    if kind < 8:
        return tuple(some_data(draw, deep - 1) for _ in range(draw.randint(0, 3)))
    keys = {
        8: lambda: "".join(draw.choice("abc d") for _ in range(draw.randint(0, 3))),
        9: (lambda: tuple(draw.choice(("", "a", "b c")) for _ in range(draw.randint(0, 2)))) if draw.random() < 0.5 else (
            lambda: tuple(draw.randint(-2, 2) for _ in range(draw.randint(0, 2))))}[kind]
    if kind == 9 and deep == 1:
        return {}
    return {keys(): some_data(draw, deep - 1) for _ in range(draw.randint(0, 3))}


def in_order(value):
    """The value with ascending keys."""
    if isinstance(value, tuple):
        return tuple(map(in_order, value))
    if isinstance(value, dict):
        return {key: in_order(value[key]) for key in sorted(value)}
    return value


def nested(many, inner=()):
    for _ in range(many):
        inner = (inner,)
    return inner


class DataTest(unittest.TestCase):
    def test_written_and_read_back(self):
        for seed in range(500):
            value = some_data(random.Random(seed), random.Random(seed).choice((1, 2, 4, 7)))
            self.assertIs(is_data(value), True)
            text = write_data(value)
            self.assertEqual(text, repr(in_order(value)))
            self.assertEqual(repr(read_data(text)), text)
        for value in ((True, 1, 0, False, None), {"b": 1, "a": 2}, {(): 1, (1,): 2, (-1, 5): 3}, {("b",): (), ("a", "c"): {}}, -5, 0, "", " ~", {"a": {"b": ((),)}}):
            self.assertEqual(repr(read_data(write_data(value))), repr(in_order(value)))

    def test_papers_are_data(self):
        for diagram, question in itertools.islice(cases(), 0, None, 3):
            paper = decide(diagram, question)[1]
            self.assertIs(is_data(paper), True)
            self.assertEqual(read_data(write_data(paper)), paper)

    def test_limits(self):
        right = ["x" * 40, 10 ** 999, -10 ** 999, nested(9), nested(9, 5), {"a": nested(8)}, nested(8, {"a": 1}), nested(8, {(1,): 1}), {"x" * 40: 1}, {(10 ** 999,): 1}, string.ascii_letters[:40]]
        no = ["x" * 41, TOO_LONG, -TOO_LONG, nested(10), {"a": nested(9)}, nested(10, {}), nested(9, {(1,): 1}), nested(9, {(): 1}), {"x" * 41: 1}, {(TOO_LONG,): 1}, "a'b", 'a"b', "a\\b", "a\tb", "a\n",
              [], [1], (1, [2]), {1: 2}, {None: 1}, {True: 1}, {"a": 1, ("a",): 2}, {("a",): 1, (1,): 2}, {("a", 1): 1}, {((),): 1}, {(None,): 1}, {(True,): 1}, {"a": []}, {"a'": 1}, {("a'",): 1}, FORK,
              (FORK,), {(("a",),): 1}, {"a": {1: 1}}, {"a": FORK}, "\x7f", "\u00e9"]
        for value in right:
            self.assertIs(is_data(value), True)
            self.assertEqual(read_data(write_data(value)), value)
        for value in no:
            self.assertIs(is_data(value), False, repr(value)[:80])
            with self.assertRaises(InvalidOperation):
                write_data(value)
        for more in (0, 1):
            # The text of a tuple of strings with just 50,000 signs, and with one more.
            first = ("x" * 40,) * 1136
            value = first + ("x" * (50000 + more - len(repr(first + ("",)))),)
            text = repr(value)
            self.assertEqual(len(text), 50000 + more)
            if more == 0:
                self.assertEqual((write_data(value), read_data(text)), (text, value))
                continue
            with self.assertRaises(TooMany) as caught:
                write_data(value)
            self.assertEqual(caught.exception.limit, 50000)
            self.assertIsNone(wrong(self, read_data, text))
        self.assertIsNone(wrong(self, read_data, "x" * 50001))
        self.assertEqual(wrong(self, read_data, "x" * 50000), 0)

    def test_indices(self):
        for text, spot in (
                ("", 0), (" ", 0), ("N", 1), ("Nome", 2), ("None ", 4), ("True1", 4), ("Tru", 3), ("Falsy", 4), ("none", 0), ("-", 1), ("-0", 1), ("--1", 1), ("+1", 0), ("01", 1), ("1.0", 1), ("1 ", 1), ("12a", 2),
                ("'", 1), ("'a", 2), ("'a\"'", 2), ('"a"', 0), ("'a\\'", 2), ("'a\tb'", 2), ("'a''", 3), ("(", 1), (")", 0), ("(1", 2), ("(1)", 2), ("(1,", 3), ("(1,2)", 3), ("(1, )", 4), ("(1, 2", 5), ("(1, 2,)", 6), ("(1,),", 4),
                ("( 1,)", 1), ("(,)", 1), ("(1 ,)", 2), ("{", 1), ("{}x", 2), ("{'a'", 4), ("{'a':1}", 5), ("{'a': 1", 7), ("{'a': 1,}", 8), ("{'a': 1, }", 9), ("{'a': }", 6), ("{'a'}", 4), ("{1: 2}", 1), ("{None: 1}", 1), ("{{}: 1}", 1),
                ("{(None,): 1}", 2), ("{(1, 'a'): 1}", 5), ("{('a', 1): 1}", 7), ("{((),): 1}", 2), ("{(1): 1}", 3), ("{(1,: 1}", 4), ("{(-0,): 1}", 3), ("[1]", 0), ("((((((((((", 10), ("(((((((((((", 10), ("((((((((((()", 10),
                ("(((((((((({}", 10), ("((((((((({(", 10), ("((((((((({'a': (", 15), ("'" + "x" * 41 + "'", 41), ("'" + "x" * 40, 41), ("1" * 1001, 1000), ("-" + "1" * 1001, 1001), ("(" + "1" * 1001, 1001),
                ("{'" + "x" * 41 + "': 1}", 42)):
            self.assertEqual(wrong(self, read_data, text), spot, text[:60])

    def test_keys(self):
        for text, spot in (
                ("{'b': 1, 'a': 2}", 9), ("{'a': 1, 'a': 2}", 9), ("{'a': 1, ('a',): 2}", 9), ("{('a',): 1, 'b': 2}", 12), ("{('a',): 1, (1,): 2}", 12), ("{(1,): 1, ('a',): 2}", 10), ("{(1,): 1, (): 2}", 10),
                ("{(): 1, (): 2}", 8), ("{'a': 1, 'c': 2, 'b': 3, 'a': 4}", 17), ("{(2,): 1, (1, 5): 2}", 10), ("{(): 1, ('a',): 2, (1,): 3}", 19), ("{'b': {'b': 1, 'a': 2}, 'a': 3}", 15), ("({'b': 1, 'b': 1}, {'b': 1, 'a': 1})", 10),
                ("{'a': ({}, {'z': 0, 'y': 0}), 'b': 1}", 20), ("{'b': 1, 'a': {'b': 1, 'a': 2}}", 9), ("{('a',): 1, (1,): 2, (0,): 3}", 12)):
            self.assertEqual(wrong(self, read_data, text), spot, text)
        # A sign that is wrong stands ahead of all keys.
        for text, spot in (("{'b': 1, 'a': 2", 15), ("{'b': 1, 'a': 2}}", 16), ("({'b': 1, 'a': 2}, x)", 19), ("{'b': 1, 'a': 02}", 15), ("{'b': 1, (1, 'a'): 2}", 13)):
            self.assertEqual(wrong(self, read_data, text), spot, text)
        for text in ("{'': 1, 'a': 2}", "{(): 1, ('',): 2, ('', 'a'): 3, ('a',): 4}", "{(): 1, (-3,): 2, (-3, 0): 3, (2,): 4}", "{'A': 1, 'a': 2, 'aa': 3}"):
            self.assertEqual(repr(read_data(text)), text)

    def test_spoilt_texts(self):
        """What is read is what Python reads of such a text, and its text is that one."""
        draw = random.Random(3)
        for text in ("{'a': (1, -20), 'b c': {}}", "((), (True,), None)", "{(1,): 'x', (1, 2): ()}", "{('a', ''): False}", "(0, '{', {'q': ((),)})"):
            for made in spoilt(text, draw, "0123,'(){}: -NTFa\\"):
                try:
                    value = read_data(made)
                except ParseError as error:
                    spot = error.spot
                    self.assertLessEqual(spot, len(made))
                    try:
                        value = ast.literal_eval(made)
                        self.assertFalse(is_data(value) and repr(value) == made and repr(in_order(value)) == made, made)
                    except (SyntaxError, ValueError, TypeError):
                        pass
                else:
                    self.assertEqual(repr(value), made)

    def test_greatest_texts(self):
        value = {f"k{at}": at % 10 for at in range(4000)}
        text = write_data(value)
        self.assertGreater(len(text), 44000)
        self.assertEqual(read_data(text), value)
        self.assertEqual(read_data(repr((None,) * 8000)), (None,) * 8000)
        self.assertEqual((read_diagram(write_diagram(BOW)), wrong(self, read_diagram, "a " * 9000)), (BOW, 18000))


if __name__ == "__main__":
    unittest.main()
