"""The tapes of nodes that may pull their input many times in one pull.

Each function takes the node, the tape of its input, and the tape of the node, to which it adds all pulls.
"""

from math import gcd

from pullworks.lines import (differences, first_passing_at, least_of, less, parts, seen_from, tested_parts, value_at,
                             zero_turns)
from pullworks.tapes import read

FOR_EVER = ((0, None),)


class Sieve:
    """What becomes of items some of which are given, and all others lost."""

    def __init__(self, name, tape):
        self.name = name
        self.tape = tape
        self.lost = 0

    def sift(self, many, lines, flags):
        """Take so many items, those on lines with a flag to be given."""
        marks = marks_of(flags)
        given = marked_among(many, len(lines), marks)
        if given == 0:
            self.lose(many)
            return
        uses = [read(gap) for gap in gaps_of(marks, len(lines))]
        self.tape.give_behind(read(self.lost + marks[0] + 1), given, [lines[mark] for mark in marks], uses)
        if many is not None:
            self.lost = many - 1 - mark_at(marks, len(lines), given - 1)

    def lose(self, many):
        """Take so many items that are lost; if there is no end of them, the pull is never answered."""
        if many is None:
            self.tape.never(self.name, FOR_EVER)
        else:
            self.lost += many

    def pass_on(self, stretch):
        """Take what is no item."""
        self.tape.pass_on(stretch, read(self.lost + 1))
        self.lost = 0


def marks_of(flags):
    """Return the places of the flags that are set."""
    return [place for place, flag in enumerate(flags) if flag]


def marked_among(many, size, marks):
    """Return how many of so many items are marked, of which there are size lines; None for no end of them."""
    if many is None:
        return None if marks else 0
    rounds, rest = divmod(many, size)
    return rounds * len(marks) + len([mark for mark in marks if mark < rest])


def mark_at(marks, size, index):
    """Return the number of the item that is marked item number `index`."""
    rounds, place = divmod(index, len(marks))
    return rounds * size + marks[place]


def gaps_of(marks, size):
    """Return for each mark how many items there are from the mark before it on."""
    before = [marks[-1] - size] + marks[:-1]
    return [mark - earlier for earlier, mark in zip(before, marks)]


def keep(node, lower, tape):
    """Give the items that pass."""
    sieve = Sieve(node[0], tape)
    for stretch in lower.stretches:
        if stretch.what != "item":
            sieve.pass_on(stretch)
            continue
        for many, lines, flags in tested_parts(stretch.many, stretch.lines, node[2][0]):
            sieve.sift(many, lines, flags)


def heads(node, lower, tape):
    """Give the items that are unlike the item before: this is the one that was given last, or equal to it."""
    sieve = Sieve(node[0], tape)
    last = None
    for stretch in lower.stretches:
        if stretch.what != "item":
            sieve.pass_on(stretch)
            continue
        first = stretch.lines[0][0]
        sieve.sift(1, [(first, 0)], [last is None or first != last])
        rest = less(stretch.many, 1)
        for many, lines, flags in changed_parts(stretch.lines, rest):
            sieve.sift(many, lines, flags)
        if rest is not None:
            last = value_at(stretch.lines, rest)


def changed_parts(lines, many):
    """Cut so many items, from number 1 on, so that each line is always or never unlike the item before."""
    if many == 0:
        return []
    found = []
    changes = differences(lines, many)
    turns = [turn for value, growth in changes for turn in zero_turns(value, growth)]
    items = parts(many, seen_from(lines, 1, many), turns)
    for (number, part), (_, change) in zip(items, parts(many, changes, turns)):
        found.append((number, part, [value != 0 for value, _ in change]))
    return found


def lengths(node, lower, tape):
    """Give the lengths of the runs of equal items."""
    runs = Runs(node[0], tape)
    last = None
    for stretch in lower.stretches:
        if stretch.what == "end" and runs.length > 0:
            runs.close()
        elif stretch.what != "item":
            runs.pass_on(stretch)
        else:
            first = stretch.lines[0][0]
            runs.follow(1, 1, [last is not None and first != last])
            rest = less(stretch.many, 1)
            for many, lines, flags in changed_parts(stretch.lines, rest):
                runs.follow(many, len(lines), flags)
            if rest is not None:
                last = value_at(stretch.lines, rest)


class Runs:
    """A run of equal items that goes on, and the results that have been read since the last pull."""

    def __init__(self, name, tape):
        self.name = name
        self.tape = tape
        self.length = 0
        self.taken = 0

    def follow(self, many, size, flags):
        """Take so many items on size lines, those with a flag the first ones of a run."""
        marks = marks_of(flags)
        given = marked_among(many, size, marks)
        if given == 0:
            self.grow(many)
            return
        gaps = gaps_of(marks, size)
        self.tape.give(1, [(self.length + marks[0], 0)], [read(self.taken + marks[0] + 1)])
        later = gaps[1:] + gaps[:1]
        self.tape.give(less(given, 1), [(gap, 0) for gap in later], [read(gap) for gap in later])
        if many is not None:
            self.taken = many - 1 - mark_at(marks, size, given - 1)
            self.length = self.taken + 1

    def grow(self, many):
        """Take so many items of the same run; if there is no end of them, the pull is never answered."""
        if many is None:
            self.tape.never(self.name, FOR_EVER)
        else:
            self.length += many
            self.taken += many

    def pass_on(self, stretch):
        """Take what is no item, but for the end of a run."""
        self.tape.pass_on(stretch, read(self.taken + 1))
        self.taken = 0

    def close(self):
        """Take the end behind a run."""
        self.tape.give(1, [(self.length, 0)], [read(self.taken + 1)])
        self.tape.end(())


def after(node, lower, tape):
    """Give the items from the first one on that does not pass."""
    failing = ("not", node[2][0])
    sieve = Sieve(node[0], tape)
    waiting = True
    for stretch in lower.stretches:
        if stretch.what != "item":
            sieve.pass_on(stretch)
            continue
        first = first_passing_at(stretch.many, stretch.lines, failing) if waiting else 0
        if first is None:
            sieve.lose(stretch.many)
        else:
            give_from(stretch, first, sieve)
            waiting = False


def drop(node, lower, tape):
    """Give the items behind the first so many ones."""
    sieve = Sieve(node[0], tape)
    left = node[2][0]
    for stretch in lower.stretches:
        if stretch.what != "item":
            sieve.pass_on(stretch)
            continue
        lost = least_of([left, stretch.many])
        if lost == stretch.many:
            sieve.lose(lost)
        else:
            give_from(stretch, lost, sieve)
        left -= lost


def give_from(stretch, first, sieve):
    """Give the items of a stretch from a number on, and lose those ahead of them."""
    sieve.lose(first)
    many = less(stretch.many, first)
    lines = seen_from(stretch.lines, first, many)
    sieve.sift(many, lines, [True] * len(lines))


def step(node, lower, tape):
    """Give the first item, and then the last one of each next so many."""
    many = node[2][0]
    batches = Batches(many, "last", tape)
    batches.held = many - 1
    for stretch in lower.stretches:
        if stretch.what == "item":
            batches.fill(stretch.many, stretch.lines)
        else:
            batches.pass_on(stretch)


def batch(node, lower, tape):
    """Give what becomes of each next so many items."""
    many, how, rest = node[2]
    batches = Batches(many, how, tape)
    for stretch in lower.stretches:
        if stretch.what == "item":
            batches.fill(stretch.many, stretch.lines)
        elif stretch.what == "end" and rest == "give" and batches.held > 0:
            batches.close()
        else:
            batches.pass_on(stretch)


class Batches:
    """A batch that is not full, and the results that have been read since the last pull."""

    def __init__(self, size, how, tape):
        self.size = size
        self.how = how
        self.tape = tape
        self.held = 0
        self.worth = 0
        self.taken = 0

    def fill(self, many, lines):
        """Take so many items."""
        missing = self.size - self.held if self.held > 0 else 0
        if many is not None and many < missing:
            self.hold(many, lines)
            return
        if missing > 0:
            self.hold(missing, lines)
            self.give(0)
        rest = less(many, missing)
        full = None if rest is None else rest // self.size
        left = 0 if rest is None else rest % self.size
        if full != 0:
            found = self.full_lines(full, seen_from(lines, missing, rest))
            self.tape.give(full, found, [read(self.size)] * len(found))
        if left > 0:
            self.hold(left, seen_from(lines, many - left, left))

    def hold(self, many, lines):
        """Take so many items, from 1 on, that do not fill more than the batch."""
        if self.how == "first" and self.held == 0:
            self.worth = lines[0][0]
        if self.how == "last":
            self.worth = value_at(lines, many - 1)
        if self.how == "sum":
            self.worth += sum([value_at(lines, at) for at in range(many)])
        self.held += many
        self.taken += many

    def give(self, more):
        """Give what has become of the batch, for which so many results were read besides."""
        worth = self.held if self.how == "many" else self.worth
        self.tape.give(1, [(worth, 0)], [read(self.taken + more)])
        self.held = 0
        self.worth = 0
        self.taken = 0

    def full_lines(self, full, lines):
        """Return the lines of so many full batches of these items."""
        common = gcd(self.size, len(lines))
        size = least_of([len(lines) // common, full])
        rounds = self.size // common
        return [self.full_line(lines, at * self.size, rounds) for at in range(size)]

    def full_line(self, lines, first, rounds):
        """Return the line of the batch from item number `first` on, which comes again so many rounds later."""
        if self.how == "many":
            return self.size, 0
        if self.how == "sum":
            numbers = list(range(first, first + self.size))
        else:
            numbers = [first if self.how == "first" else first + self.size - 1]
        growth = sum([lines[number % len(lines)][1] for number in numbers])
        return sum([value_at(lines, number) for number in numbers]), growth * rounds

    def pass_on(self, stretch):
        """Take what is no item, but for the end of a batch that is given."""
        self.tape.pass_on(stretch, read(self.taken + 1))
        self.taken = 0

    def close(self):
        """Take the end behind a batch that is given."""
        self.give(1)
        self.tape.end(())


LOOPERS = {
    "keep": keep,
    "after": after,
    "drop": drop,
    "step": step,
    "batch": batch,
    "heads": heads,
    "lengths": lengths,
}
