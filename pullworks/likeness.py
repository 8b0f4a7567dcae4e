"""Where two tapes are alike, and where they are not."""

from pullworks.lines import least_of, less, seen_from, side_by_side
from pullworks.tapes import Tape


class Piece:
    """So many pulls of two tapes, from one number on, with their items on equally many lines.

    If one of the tapes, or both, give something else than items, the piece has no lines; then it tells whether both do
    so alike. The last piece of tapes that have ended has no end. One with a pull that is never answered is the last.
    """

    def __init__(self, start, many, rows, alike):
        self.start = start
        self.many = many
        self.rows = rows
        self.alike = alike

    def first_unlike(self):
        """Return the number of the first pull with unlike results, None if there is none."""
        if not self.rows:
            return None if self.alike else self.start
        found = None
        for place, (one, other) in enumerate(zip(self.rows[0], self.rows[1])):
            if one != other:
                offset = place if one[0] != other[0] else place + len(self.rows[0])
                if self.many is None or offset < self.many:
                    found = least_of([found, offset])
        return None if found is None else self.start + found

    def many_alike(self):
        """Return in how many pulls, of which there is an end, the results are alike."""
        if not self.rows:
            return self.many if self.alike else 0
        found = 0
        size = len(self.rows[0])
        for place, (one, other) in enumerate(zip(self.rows[0], self.rows[1])):
            rounds = (self.many - place + size - 1) // size
            if one == other:
                found += rounds
            elif one[1] != other[1] and (other[0] - one[0]) % (one[1] - other[1]) == 0:
                turn = (other[0] - one[0]) // (one[1] - other[1])
                found += 1 if 0 <= turn < rounds else 0
        return found


def pieces(one, other, first, behind):
    """Return the pieces of two tapes from a pull on, up to another one, or without end."""
    found = []
    start = first
    while behind is None or start < behind:
        stretches = [one.stretch_of(start), other.stretch_of(start)]
        if is_passed(stretches, start):
            return found
        many = least_of([left_of(stretch, start) for stretch in stretches] + [less(behind, start)])
        found.append(piece_of(stretches, start, many))
        if many is None or "never" in [stretch.what for stretch in stretches]:
            return found
        start += many
    return found


def is_passed(stretches, start):
    """Tell whether a pull stands behind one that is never answered."""
    return any([stretch.what == "never" and stretch.start < start for stretch in stretches])


def left_of(stretch, start):
    """Return how many pulls of a stretch there are from one on, None for no end: the end is given for ever."""
    if stretch.what == "end" or stretch.many is None:
        return None
    return stretch.start + stretch.many - start


def piece_of(stretches, start, many):
    """Return the piece of so many pulls of two stretches."""
    if all([stretch.what == "item" for stretch in stretches]):
        rows = [seen_from(stretch.lines, start - stretch.start, many) for stretch in stretches]
        return Piece(start, many, side_by_side(rows, many), True)
    one, other = stretches
    alike = one.what == other.what and (one.what != "error" or one.word == other.word)
    return Piece(start, many, [], alike)


def first_unlike(one, other, first):
    """Return the number of the first pull from one on with unlike results of two tapes, None if there is none."""
    for piece in pieces(one, other, first, None):
        found = piece.first_unlike()
        if found is not None:
            return found
    return None


def as_numbers(course):
    """Return a course as the tape of its numbers, which is told what stands ahead of each of its stretches."""
    found = Tape()
    found.stretches = course.stretches
    found.settle()
    return found
