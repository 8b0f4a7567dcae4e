"""The texts of nets, and other names for their nodes."""

from pullworks.errors import InvalidBound, InvalidText
from pullworks.kinds import CHOICES, LENGTHS, PARAMETERS, RANGES, SOURCES, is_kind
from pullworks.nets import Net
from pullworks.words import is_name, is_one_of

DIGITS = "0123456789"

# Longer ones are beyond all bounds, and Python reads not all of them.
MOST_DIGITS = 40

BEYOND = 10 ** 31

# More of them than a test may have; how many more says nothing.
MANY_NOTS = 5


def format_net(net):
    """Return the text of a net."""
    return "\n".join([" ".join(words_of(node)) for node in net.node_list()])


def words_of(node):
    """Return the words of the line of a node."""
    name, kind, parameters, inputs = node
    words = [name, kind]
    for part in parameters:
        words.extend(part_words(part))
    if inputs:
        words.append("of")
    return words + inputs


def part_words(part):
    """Return the words of a parameter, or of a part of one."""
    if isinstance(part, str):
        return [part]
    if isinstance(part, list):
        return ["["] + [str(item) for item in part] + ["]"]
    if isinstance(part, tuple):
        return [word for inner in part for word in part_words(inner)]
    return [str(part)]


def parse_net(text):
    """Return the net with a text."""
    if not isinstance(text, str):
        raise InvalidText(-1, -1)
    return Net([Line(at, row).read_node() for at, row in enumerate(text.split("\n"))])


class Line:
    """A line of a text, and how many of its words have been read."""

    def __init__(self, number, row):
        self.number = number
        self.words = row.split(" ")
        self.at = 0

    def fail(self):
        """Raise InvalidText with the next word, or with the number of words if it is missing."""
        raise InvalidText(self.number, self.at)

    def has_more(self):
        """Tell whether there is another word."""
        return self.at < len(self.words)

    def read_word(self, valid):
        """Read the next word, for which a function tells whether it may stand there."""
        if not self.has_more() or not valid(self.words[self.at]):
            self.fail()
        self.at += 1
        return self.words[self.at - 1]

    def is_here(self, word):
        """Tell whether the next word is this one."""
        return self.has_more() and self.words[self.at] == word

    def read_node(self):
        """Read the whole line as a node."""
        name = self.read_word(is_name)
        kind = self.read_word(is_kind)
        parameters = tuple([self.read_part(sort) for sort in PARAMETERS[kind]])
        inputs = []
        if kind not in SOURCES:
            self.read_word(lambda word: word == "of")
            inputs.append(self.read_word(is_name))
            while self.has_more():
                inputs.append(self.read_word(is_name))
        if self.has_more():
            self.fail()
        return name, kind, parameters, inputs

    def read_part(self, sort):
        """Read a parameter of a sort."""
        if sort in RANGES:
            return self.read_whole()
        if sort in LENGTHS:
            return self.read_wholes()
        if sort in CHOICES:
            return self.read_word(lambda word: is_one_of(word, CHOICES[sort]))
        return self.read_test() if sort == "test" else self.read_word(is_name)

    def read_whole(self):
        """Read an integer."""
        word = self.read_word(is_whole)
        if len(word) <= MOST_DIGITS:
            return int(word)
        return -BEYOND if word[0] == "-" else BEYOND

    def read_wholes(self):
        """Read a list of integers."""
        found = []
        self.read_word(lambda word: word == "[")
        while not self.is_here("]"):
            found.append(self.read_whole())
        self.at += 1
        return found

    def read_test(self):
        """Read a test, behind any number of "not"."""
        nots = 0
        while self.is_here("not"):
            self.at += 1
            nots += 1
        word = self.read_word(lambda word: is_one_of(word, ("mod", "below", "from")))
        test = (word, self.read_whole())
        if word == "mod":
            test = test + (self.read_wholes(),)
        for _ in range(min(nots, MANY_NOTS)):
            test = ("not", test)
        return test


def is_whole(word):
    """Tell whether a word is an integer in decimal digits, without leading zeros."""
    digits = word[1:] if word[:1] == "-" else word
    if digits == "" or not all([digit in DIGITS for digit in digits]):
        return False
    return word == "0" or digits[0] != "0"


def renamed(net, names):
    """Return the net with other names, which a dict gives for each name of a node."""
    if not is_renaming(net, names):
        raise InvalidBound("names")
    return Net([(names[name], kind, parameters, [names[lower] for lower in inputs])
                for name, kind, parameters, inputs in net.node_list()])


def is_renaming(net, value):
    """Tell whether a value is a dict from each name of a net, and from nothing else, to distinct names."""
    if not isinstance(value, dict) or len(value) != len(net):
        return False
    if not all([name in net for name in value]) or not all([is_name(value[name]) for name in value]):
        return False
    return len(set([value[name] for name in value])) == len(value)
