"""Tapes: what a node gives, and what it pulls from its inputs, in each of its pulls from the first one on.

A tape is a list of stretches. A stretch of items has so many pulls on steady lines (see lines.py). Each line has a use:
a tuple of pairs (place of an input, number of pulls on it), in the order in which these are made; for a source, place 0
stands for its reads. Every error has a stretch of its own. The last stretch has no end, or it is the first end, behind
which nothing is pulled any more, or a pull that is never answered. In the use of such a pull a number may be None: no
end of pulls.
"""

from pullworks.lines import less, seen_from, value_at

ONE = ((0, 1),)


def read(many):
    """Return the use of a pull that pulls the only input so many times."""
    return ((0, many),) if many > 0 else ()


def sums_of(uses):
    """Return for each input the numbers of pulls on it in the first 0, 1, 2 and so on of some uses."""
    sums = {place: [0] for use in uses for place, _ in use}
    places = list(sums)
    if len(places) == 1:
        # Most nodes have one input, and some of them very many lines.
        row = sums[places[0]]
        for use in uses:
            row.append(row[-1] + use[0][1] if use else row[-1])
        return sums
    for use in uses:
        pulls = dict(use)
        for place in places:
            sums[place].append(sums[place][-1] + pulls.get(place, 0))
    return sums


def last_up_to(numbers, bound):
    """Return the place of the last one of ascending numbers, the first of which is not above a bound, that is not."""
    low = 0
    high = len(numbers)
    while high - low > 1:
        middle = (low + high) // 2
        if numbers[middle] <= bound:
            low = middle
        else:
            high = middle
    return low


class Stretch:
    """Pulls one after another: items, or a single error, end, or pull that is never answered.

    The word is that of an error, or the name of the node that goes on. Once all stretches are there, the tape tells
    each of them the pulls on each input in all its lines, and what stands ahead of it: pulls, items, pulls on inputs.
    """

    def __init__(self, what, many, lines, uses, word):
        self.what = what
        self.many = many
        self.lines = lines
        self.uses = uses
        self.word = word
        self.sums = {}
        self.start = 0
        self.items_before = 0
        self.used_before = {}

    def is_short(self):
        """Tell whether the lines are gone through only once."""
        return self.what == "item" and self.many == len(self.lines)

    def lengthen(self, many, lines, uses):
        """Add items to lines that are gone through only once."""
        self.many += many
        self.lines.extend(lines)
        self.uses.extend(uses)

    def result(self, offset):
        """Return the result of one of the pulls."""
        if self.what == "item":
            return ("item", value_at(self.lines, offset))
        if self.what == "end":
            return ("end",)
        return (self.what, self.word)

    def used(self, place, offset):
        """Return the number of pulls on an input in the first pulls, all of which are answered."""
        if place not in self.sums:
            return 0
        rounds, rest = divmod(offset, len(self.uses))
        return rounds * self.sums[place][-1] + self.sums[place][rest]

    def offset_using(self, place, number):
        """Return the pull in which the pull with a number on an input is made, None if there is none."""
        if self.what == "never":
            many = dict(self.uses[0]).get(place, 0)
            return 0 if many is None or number < many else None
        sums = self.sums.get(place, [0])
        if sums[-1] == 0:
            return None
        rounds, rest = divmod(number, sums[-1])
        offset = rounds * len(self.uses) + last_up_to(sums, rest)
        return offset if self.many is None or offset < self.many else None


class Tape:
    """All pulls of a node."""

    def __init__(self):
        self.stretches = []
        self.starts = []

    def give(self, many, lines, uses):
        """Add so many items."""
        if many == 0:
            return
        if many is None or many > len(lines):
            self.stretches.append(Stretch("item", many, list(lines), list(uses), None))
            return
        once = [(value, 0) for value, _ in lines[:many]]
        # Many short stretches one after another would make all that reads them slow.
        if self.stretches and self.stretches[-1].is_short():
            self.stretches[-1].lengthen(many, once, uses[:many])
        else:
            self.stretches.append(Stretch("item", many, once, list(uses[:many]), None))

    def give_behind(self, first, many, lines, uses):
        """Add so many items, the first of which has a use of its own."""
        if many == 0 or first == uses[0]:
            self.give(many, lines, uses)
            return
        rest = less(many, 1)
        self.give(1, lines, [first])
        self.give(rest, seen_from(lines, 1, rest), uses[1:] + uses[:1])

    def error(self, word, use):
        """Add an error."""
        self.stretches.append(Stretch("error", 1, [], [use], word))

    def end(self, use):
        """Add the first end."""
        self.stretches.append(Stretch("end", 1, [], [use], None))

    def never(self, name, use):
        """Add a pull that is never answered."""
        self.stretches.append(Stretch("never", 1, [], [use], name))

    def pass_on(self, stretch, use):
        """Add the same as a stretch without items, with another use."""
        self.stretches.append(Stretch(stretch.what, 1, [], [use], stretch.word))

    def is_finished(self):
        """Tell whether nothing can be added."""
        if not self.stretches:
            return False
        last = self.stretches[-1]
        return last.many is None or last.what in ("end", "never")

    def settle(self):
        """Tell each stretch what it is to know, once all of them are there."""
        for at, stretch in enumerate(self.stretches):
            # A pull that is never answered may have no end of pulls to add up.
            if stretch.what != "never":
                stretch.sums = sums_of(stretch.uses)
            if at == 0:
                continue
            last = self.stretches[at - 1]
            stretch.start = last.start + last.many
            stretch.items_before = last.items_before + (last.many if last.what == "item" else 0)
            stretch.used_before = dict(last.used_before)
            for place in last.sums:
                stretch.used_before[place] = last.used_before.get(place, 0) + last.used(place, last.many)
        self.starts = [stretch.start for stretch in self.stretches]

    def stop(self, what):
        """Return the number of the last pull of the tape if it is an "end", or a "never", as asked; else None."""
        last = self.stretches[-1]
        return last.start if last.what == what else None

    def stretch_of(self, pull):
        """Return the stretch of a pull, the last one for pulls behind the end."""
        return self.stretches[last_up_to(self.starts, pull)]

    def result(self, pull):
        """Return the result of a pull."""
        stretch = self.stretch_of(pull)
        return stretch.result(pull - stretch.start)

    def items_in(self, pulls):
        """Return how many items the first pulls give."""
        stretch = self.stretch_of(pulls)
        return stretch.items_before + (pulls - stretch.start if stretch.what == "item" else 0)

    def errors_in(self, pulls):
        """Return how many errors the first pulls give, all of which are answered."""
        end = self.stop("end")
        return (pulls if end is None else min(pulls, end)) - self.items_in(pulls)

    def pull_of_item(self, index):
        """Return the pull that gives the item with a number, None if there is none."""
        for stretch in self.stretches:
            offset = index - stretch.items_before
            if stretch.what == "item" and (stretch.many is None or offset < stretch.many):
                return stretch.start + offset
        return None

    def used(self, place, pulls):
        """Return the number of pulls on an input in the first pulls, all of which are answered."""
        stretch = self.stretch_of(pulls)
        offset = pulls - stretch.start
        if stretch.what == "end":
            offset = min(offset, 1)
        return stretch.used_before.get(place, 0) + stretch.used(place, offset)

    def pull_using(self, place, number):
        """Return the pull in which the pull with a number on an input is made, None if there is none."""
        for stretch in self.stretches[::-1]:
            before = stretch.used_before.get(place, 0)
            if before <= number:
                offset = stretch.offset_using(place, number - before)
                return None if offset is None else stretch.start + offset
        return None

    def rank(self, place, pull):
        """Return how many inputs are pulled ahead of one of them in a pull."""
        stretch = self.stretch_of(pull)
        use = stretch.uses[(pull - stretch.start) % len(stretch.uses)]
        return [other for other, _ in use].index(place)


class Reader:
    """A place on a tape from which its results are taken one after another."""

    def __init__(self, tape):
        self.stretches = tape.stretches
        self.place = 0
        self.done = 0

    def here(self):
        """Return the stretch of the next pull."""
        return self.stretches[self.place]

    def has_item(self):
        """Tell whether the next result is an item."""
        return self.here().what == "item"

    def left(self):
        """Return how many pulls of this stretch are left, None for no end of them."""
        return less(self.here().many, self.done)

    def look(self, many):
        """Return the lines of so many items from here on."""
        return seen_from(self.here().lines, self.done, many)

    def skip(self, many):
        """Go on by so many pulls of this stretch; behind no end of pulls there is nothing to go to."""
        if many is None:
            return
        self.done += many
        if self.left() == 0 and self.place + 1 < len(self.stretches):
            self.place += 1
            self.done = 0
