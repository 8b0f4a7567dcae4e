"""Points [67] to [69]: texts of nets there and back, texts with a word that may not stand there, and other names."""

import random
import time
import unittest

from drawing import drawn_net
from makers import FAR, nots, strange_values, verdict

from pullworks.errors import InvalidBound, InvalidNet, InvalidText, LimitExceeded
from pullworks.nets import Net
from pullworks.texts import format_net, parse_net, renamed

KINDS = {"count": "nn", "span": "nnn", "ring": "l", "row": "l", "scale": "nn", "table": "l", "keep": "t", "until": "t", "after": "t",
         "take": "n", "drop": "n", "step": "n", "batch": "nhr", "pairs": "", "heads": "", "lengths": "", "stutter": "n", "ahead": "n",
         "fault": "nw", "dying": "", "calm": "c", "closing": "w", "split": "", "chain": "", "zip": "h3", "longest": "nz", "turns": "",
         "choose": "", }

HOW = ["first", "last", "many", "sum"]


class Reader:
    """A reader of texts of the tests' own, which goes by states: for each it knows which words may stand next."""

    def whole(self, word):
        digits = word[1:] if word.startswith("-") else word
        return digits.isdigit() and digits.isascii() and (digits[0] != "0" or word == "0")

    def name(self, word):
        return 1 <= len(word) <= 12 and all("a" <= letter <= "z" for letter in word)

    def line(self, words):
        """Return the number of the first word that may not stand there, None if the line is right."""
        words = [*words, None]
        at = 0

        def take(valid):
            nonlocal at
            if words[at] is None or not valid(words[at]):
                return False
            at += 1
            return True

        def take_list():
            nonlocal at
            if not take(lambda word: word == "["):
                return False
            while words[at] is not None and self.whole(words[at]):
                at += 1
            return take(lambda word: word == "]")

        def take_test():
            nonlocal at
            while words[at] == "not":
                at += 1
            if words[at] == "mod":
                return take(bool) and take(self.whole) and take_list()
            return take(lambda word: word in ("below", "from")) and take(self.whole)

        if not take(self.name) or not take(lambda word: word in KINDS):
            return at
        kind = words[1]
        parts = {"n": lambda: take(self.whole), "l": take_list, "t": take_test, "w": lambda: take(self.name),
                 "h": lambda: take(lambda word: word in HOW), "r": lambda: take(lambda word: word in ("give", "lose")),
                 "c": lambda: take(lambda word: word in ("stop", "skip")),
                 "z": lambda: take(lambda word: word in ("first", "last", "sum"))}
        for letter in "z" if kind == "zip" else KINDS[kind]:
            if not parts[letter]():
                return at
        if kind not in ("count", "span", "ring", "row"):
            if not take(lambda word: word == "of") or not take(self.name):
                return at
            while words[at] is not None:
                if not take(self.name):
                    return at
        return None if words[at] is None else at

    def text(self, text):
        """Return the line and the word where a text is wrong, None if it is right."""
        for number, row in enumerate(text.split("\n")):
            at = self.line(row.split(" "))
            if at is not None:
                return number, at
        return None


def verdict_of(text):
    try:
        return parse_net(text)
    except InvalidText as error:
        return error.line, error.word
    except InvalidNet as error:
        return "net", error.at
    except LimitExceeded as error:
        return "limit", error.limit


ALL = [("a", "count", (0, -1), []), ("b", "span", (-FAR, FAR, 7), []), ("c", "ring", ([5],), []), ("d", "row", ([],), []),
       ("e", "scale", (-2, 0), ["a"]), ("f", "table", ([1, -1],), ["b"]), ("g", "keep", (("mod", 3, [0, 2]),), ["c"]),
       ("h", "until", (("below", -5),), ["d"]), ("i", "after", (("not", ("not", ("from", 5))),), ["e"]), ("j", "take", (0,), ["f"]),
       ("k", "drop", (FAR,), ["g"]), ("l", "step", (1,), ["h"]), ("m", "batch", (2, "many", "lose"), ["i"]),
       ("n", "pairs", (), ["j"]), ("o", "fault", (3, "of"), ["m"]),
       ("p", "calm", ("skip",), ["o"]), ("of", "closing", ("not",), ["p"]), ("s", "split", (), ["of"]),
       ("z", "zip", ("last",), ["s", "n", "s"]), ("longestnames", "longest", (-7, "sum"), ["z", "l"])]

TEXT = """a count 0 -1
b span -1000000000000000000000000000000 1000000000000000000000000000000 7
c ring [ 5 ]
d row [ ]
e scale -2 0 of a
f table [ 1 -1 ] of b
g keep mod 3 [ 0 2 ] of c
h until below -5 of d
i after not not from 5 of e
j take 0 of f
k drop 1000000000000000000000000000000 of g
l step 1 of h
m batch 2 many lose of i
n pairs of j
o fault 3 of of m
p calm skip of o
of closing not of p
s split of of
z zip last of s n s
longestnames longest -7 sum of z l"""


class TextTest(unittest.TestCase):

    def test_the_examples(self):
        net = Net([("a", "count", (0, 1), []), ("b", "keep", (("mod", 3, [0]),), ["a"]), ("c", "take", (2,), ["b"])])
        self.assertEqual(format_net(net), "a count 0 1\nb keep mod 3 [ 0 ] of a\nc take 2 of b")
        self.assertEqual(verdict_of("a count 0 x"), (0, 3))
        self.assertEqual(verdict_of("a take 2"), (0, 3))

    def test_many_kinds(self):
        net = Net(ALL)
        self.assertEqual(format_net(net), TEXT)
        self.assertEqual(parse_net(TEXT), net)
        self.assertEqual(parse_net(text=format_net(net=net)).node_list(), net.node_list())
        self.assertEqual(net.node_list(), ALL)

    def test_drawn_nets_there_and_back(self):
        for seed in range(600):
            net = drawn_net(random.Random(seed), 12)
            text = format_net(net)
            self.assertIs(type(text), str)
            self.assertEqual(parse_net(text), net)
            self.assertEqual(format_net(parse_net(text)), text)
            self.assertIs(Reader().text(text), None)

    def test_words_that_may_not_stand_there(self):
        for text, wanted in (
                ("", (0, 0)), (" ", (0, 0)), ("\n", (0, 0)), ("a", (0, 1)), ("a ", (0, 1)), (" a count 0 1", (0, 0)),
                ("a  count 0 1", (0, 1)), ("a count 0 1 ", (0, 4)), ("a count 0 1\n", (1, 0)), ("\na count 0 1", (0, 0)),
                ("a count 0 1\n\nb row [ ]", (1, 0)), ("A count 0 1", (0, 0)), ("a1 count 0 1", (0, 0)), ("abcdefghijklm row [ ]", (0, 0)),
                ("a counts 0 1", (0, 1)), ("a count 0", (0, 3)), ("a count 0 1 2", (0, 4)), ("a count 0 1 of b", (0, 4)),
                ("a count 00 1", (0, 2)), ("a count -0 1", (0, 2)), ("a count - 1", (0, 2)), ("a count +1 1", (0, 2)),
                ("a count 01 1", (0, 2)), ("a count -01 1", (0, 2)), ("a count 1_0 1", (0, 2)), ("a count 0x1 1", (0, 2)),
                ("a count --1 1", (0, 2)), ("a count 1.0 1", (0, 2)), ("a count 0\t1", (0, 2)), ("a row", (0, 2)), ("a row [", (0, 3)),
                ("a row [ 1", (0, 4)), ("a row [1]", (0, 2)), ("a row [ 1 ] ]", (0, 5)), ("a row ] 1 [", (0, 2)), ("a row [ 1 , 2 ]", (0, 4)),
                ("a keep of b", (0, 2)), ("a keep not", (0, 3)), ("a keep not of b", (0, 3)), ("a keep mod", (0, 3)),
                ("a keep mod 3", (0, 4)), ("a keep mod 3 0 of b", (0, 4)), ("a keep below of b", (0, 3)), ("a keep not not x", (0, 4)),
                ("a batch 3 middle give of b", (0, 3)), ("a batch 3 sum take of b", (0, 4)), ("a batch 3 sum of b", (0, 4)),
                ("a zip many of b", (0, 2)), ("a longest 1 many of b", (0, 3)), ("a calm go of b", (0, 2)), ("a fault 3 Net of b", (0, 3)),
                ("a fault 3 of", (0, 4)), ("a fault 3 of of", (0, 5)), ("a fault 3 of of b", ("net", 0)), ("a closing of b", (0, 3)),
                ("a pairs of", (0, 3)), ("a pairs b", (0, 2)), ("a pairs of B", (0, 3)), ("a pairs of b  c", (0, 4)), ("a pairs", (0, 2)),
                ("a take 2 of 3", (0, 4)), ("a Take 2 of b", (0, 1)), ("a take -2 of b c", ("net", 0)), ("a chain of a a a", ("net", 0)),
                ("a split of b\r", (0, 3)), ("a count 0 1\nb scale 1 0 of a\nc scale 1 0 off b", (2, 4))):
            self.assertEqual(verdict_of(text), wanted, repr(text))
            if wanted[0] != "net":
                self.assertEqual(Reader().text(text), wanted, repr(text))

    def test_no_strings(self):
        for value in [*[value for value in strange_values() if not isinstance(value, str)], b"a row [ ]", ["a row [ ]"], 5]:
            self.assertEqual(verdict_of(value), (-1, -1))

    def test_one_word_changed_at_each_place(self):
        words = ["", "a", "of", "[", "]", "0", "-1", "not", "mod", "below", "first", "give", "skip", "split", "row", "x1", "007"]
        lines = TEXT.split("\n")
        for number, row in enumerate(lines):
            parts = row.split(" ")
            for at in range(len(parts) + 1):
                texts = [parts[:at] + [word] + parts[at:] for word in words]
                if at < len(parts):
                    texts += [parts[:at] + [word] + parts[at + 1:] for word in words]
                    texts += [parts[:at] + parts[at + 1:], parts[:at] + [parts[at]] * 2 + parts[at + 1:]]
                for changed in texts:
                    text = "\n".join([*lines[:number], " ".join(changed), *lines[number + 1:]])
                    found, wanted = verdict_of(text), Reader().text(text)
                    if wanted is None:
                        self.assertTrue(isinstance(found, Net) or found[0] in ("net", "limit"), (text, found))
                    else:
                        self.assertEqual(found, wanted, repr(changed))

    def test_the_errors_of_a_net_behind_those_of_the_form(self):
        for text, wanted in (
                ("a count 0 1\na count 0 1", ("net", 1)), ("a count 0 1\nb take -1 of a", ("net", 1)),
                ("a span 0 1 -1", ("net", 0)), ("a ring [ ]", ("net", 0)), ("a row [ " + "1 " * 101 + "]", ("net", 0)),
                ("a count 0 1\nb keep mod 0 [ ] of a", ("net", 1)), ("a count 0 1\nb keep mod 3 [ 2 1 ] of a", ("net", 1)),
                ("a count 0 1\nb keep not not not not below 0 of a", ("net", 1)), ("a count 0 1\nb batch 51 sum give of a", ("net", 1)),
                ("a count 0 1\nb choose of a", ("net", 1)), ("a count 0 1\nb scale 1 0 of c", ("net", 1)),
                ("a count 0 1\nb pairs of a\nc pairs of a", ("net", 2)), ("a count 0 1\ns split of a", ("net", -1)),
                ("\n".join("a" + "bcdefghijklmnopqrstuvwxyzabcdef"[at] + " row [ ]" for at in range(31)), ("net", -1)),
                ("a ring [ " + "1 " * 100 + "]\nb table [ 1 2 3 ] of a", ("limit", 200)),
                ("a ring [ " + "1 " * 49 + "]\nb heads of a", ("limit", 10000)),
                ("a count 0 1\nb take -1 of a\nc take x of b", (2, 2)), ("a ring [ ]\nb", (1, 1))):
            self.assertEqual(verdict_of(text), wanted, text)
        deep = "a count 0 1\nb keep " + "not " * 3 + "mod 3 [ 0 ] of a"
        self.assertEqual(parse_net(deep)["b"][2][0], nots(3, ("mod", 3, [0])))

    def test_numbers_of_any_length(self):
        begun = time.monotonic()
        for many in (31, 32, 50, 5000, 100000):
            for sign in ("", "-"):
                number = sign + "1" + "0" * many
                self.assertEqual(verdict_of("a count 0 " + number), ("net", 0))
                self.assertEqual(verdict_of("a count 0 " + number + " x"), (0, 4))
                self.assertEqual(verdict_of("a row [ 1 ]\nb keep mod " + number + " [ 0 ] of a"), ("net", 1))
                self.assertEqual(verdict_of("a row [ 1 ]\nb keep mod 3 [ " + number + " ] of a"), ("net", 1))
                self.assertEqual(verdict_of("a count 0 0" + number), (0, 3))
        self.assertEqual(parse_net("a count 0 1" + "0" * 30), Net([("a", "count", (0, FAR), [])]))
        self.assertEqual(verdict_of("a row [ 1 ]\nb keep " + "not " * 50000 + "below 1 of a"), ("net", 1))
        self.assertEqual(verdict_of("a row [ 1 ]\nb keep " + "not " * 50000 + "of a"), (1, 50002))
        self.assertEqual(verdict_of("a row [ " + "1 " * 50000 + "x ]"), (0, 50003))
        self.assertLess(time.monotonic() - begun, 3)

    def test_drawn_words(self):
        words = ["a", "b", "of", "[", "]", "0", "7", "-3", "not", "mod", "below", "from", "sum", "first", "give", "stop", *KINDS, ""]
        for seed in range(3000):
            draw = random.Random(seed)
            text = " ".join(["a", draw.choice(list(KINDS)), *draw.choices(words, k=draw.randint(0, 6))])
            found, wanted = verdict_of(text), Reader().text(text)
            if wanted is None:
                self.assertTrue(isinstance(found, Net) or found[0] in ("net", "limit"), (text, found))
            else:
                self.assertEqual(found, wanted, text)


class RenamedTest(unittest.TestCase):

    def test_the_example(self):
        self.assertEqual(format_net(renamed(Net([("a", "ring", ([5],), [])]), {"a": "b"})), "b ring [ 5 ]")

    def test_words_and_notes_stay(self):
        nodes = [("a", "count", (0, 1), []), ("f", "fault", (1, "a"), ["a"]), ("c", "closing", ("f",), ["f"]), ("s", "split", (), ["c"]),
                 ("z", "zip", ("sum",), ["s", "s"])]
        names = {"z": "a", "s": "f", "c": "z", "f": "s", "a": "longestnames"}
        net = Net(nodes)
        wanted = [("longestnames", "count", (0, 1), []), ("s", "fault", (1, "a"), ["longestnames"]), ("z", "closing", ("f",), ["s"]),
                  ("f", "split", (), ["z"]), ("a", "zip", ("sum",), ["f", "f"])]
        self.assertEqual(renamed(net, names).node_list(), wanted)
        self.assertEqual((net.node_list(), len(names)), (nodes, 5))
        back = {new: old for old, new in names.items()}
        self.assertEqual(renamed(names=back, net=renamed(net, names)), net)

    def test_wrong_names(self):
        net = Net([("a", "row", ([1],), []), ("b", "pairs", (), ["a"])])
        wrong = [*strange_values(), {"a": "c"}, {"a": "c", "b": "c"}, {"a": "c", "b": "d", "e": "f"}, {"a": "c", "e": "d"},
                 {"a": "c", "b": "D"}, {"a": "c", "b": ""}, {"a": "c", "b": 1}, {"a": "c", "b": ["d"]}, {"a": "c", 1: "d"},
                 {"a": "c", None: "d"}, [("a", "c"), ("b", "d")], {"a": "c", "b": True}, {"a": "c", b"b": "d"}, {("a",): "c", "b": "d"}]
        for value in wrong:
            with self.assertRaises(InvalidBound) as caught:
                renamed(net, value)
            self.assertEqual(caught.exception.part, "names")
        self.assertEqual(renamed(net, {"b": "a", "a": "b"}).node_list(), [("b", "row", ([1],), []), ("a", "pairs", (), ["b"])])

    def test_new_lists(self):
        net = Net([("a", "row", ([1],), [])])
        found = renamed(net, {"a": "a"})
        self.assertEqual(found, net)
        found.node_list()[0][2][0].append(2)
        self.assertEqual((found, verdict(net.node_list())), (net, "net"))


if __name__ == "__main__":
    unittest.main()
