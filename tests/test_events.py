"""Points [44] to [48]: events, by hand, far out, and against the plain machine."""

import random
import unittest

from drawing import drawn_net, drawn_steps, splitting_net, unrolled
from makers import END, FAR, error, item
from recording import SOURCES, done

from pullworks.errors import InvalidEvent, LimitExceeded
from pullworks.events import count_events, event_at, event_count, event_of, events_from, state_behind
from pullworks.nets import Net, outlets
from pullworks.schedules import check_schedule

NET = [("a", "count", (0, 1), []), ("b", "keep", (("mod", 3, [0]),), ["a"]), ("c", "take", (2,), ["b"])]

STEPS = [("pull", "c", 3), ("close", "c")]

BLIND = [("a", "count", (0, 1), []), ("b", "keep", (("below", 5),), ["a"])]

FAR_NUMBERS = (FAR, 10 ** 29 + 7, 10 ** 20, 10 ** 9, 10 ** 6 + 3)


def net():
    return Net(NET)


class HandTest(unittest.TestCase):

    def test_all_events_of_the_example(self):
        wanted = [("read", "a", item(0)), ("given", "c", item(0)), ("read", "a", item(1)), ("read", "a", item(2)),
                  ("read", "a", item(3)), ("given", "c", item(3)), ("given", "c", END), ("closed", "c")]
        self.assertEqual(event_count(net(), STEPS), 8)
        self.assertEqual(events_from(net(), STEPS, 0, 1000), wanted)
        self.assertEqual([event_at(net(), STEPS, number) for number in range(9)], [*wanted, None])
        self.assertEqual(events_from(net(), STEPS, 5, 2), wanted[5:7])
        self.assertEqual((events_from(net(), STEPS, 8, 5), events_from(net(), STEPS, 3, 0)), ([], []))
        self.assertEqual((event_count(net(), []), event_at(net(), [], 0), events_from(net(), [], 0, 9)), (0, None, []))

    def test_closes_and_notes(self):
        nodes = [("a", "row", ([7],), []), ("f", "fault", (1, "net"), ["a"]), ("c", "closing", ("low",), ["f"]),
                 ("d", "closing", ("high",), ["c"])]
        steps = [("pull", "d", 3), ("close", "d"), ("close", "d"), ("pull", "d", 1)]
        wanted = [("read", "a", item(7)), ("given", "d", item(7)), ("note", "low"), ("note", "high"), ("given", "d", error()),
                  ("given", "d", END), ("closed", "d"), ("closed", "d"), ("given", "d", END)]
        self.assertEqual(events_from(Net(nodes), steps, 0, 50), wanted)
        steps = [("close", "d"), ("pull", "d", 2), ("close", "d")]
        wanted = [("closed", "d"), ("note", "high"), ("note", "low"), ("given", "d", END), ("given", "d", END), ("closed", "d")]
        self.assertEqual(events_from(Net(nodes), steps, 0, 50), wanted)
        self.assertEqual(event_of(Net(nodes), steps, "note", "low", 0), (2, ("note", "low")))
        self.assertEqual(event_of(Net(nodes), steps, "closed", "d", 1), (5, ("closed", "d")))
        self.assertEqual([state_behind(Net(nodes), steps, number) for number in (0, 1, 2, 3)],
                         [([("a", 0)], [], None), ([("a", 0)], ["high"], None)] + [([("a", 0)], ["high", "low"], None)] * 2)

    def test_a_pull_on_an_ended_source_is_no_event(self):
        nodes = [("a", "row", ([1],), []), ("b", "row", ([2, 3],), []), ("z", "longest", (0, "sum"), ["a", "b"])]
        wanted = [("read", "a", item(1)), ("read", "b", item(2)), ("given", "z", item(3)), ("read", "a", END),
                  ("read", "b", item(3)), ("given", "z", item(3)), ("read", "b", END), ("given", "z", END), ("given", "z", END)]
        self.assertEqual(events_from(Net(nodes), [("pull", "z", 4)], 0, 50), wanted)
        self.assertEqual(events_from(Net(nodes[:1]), [("pull", "a", 3)], 0, 50),
                         [("read", "a", item(1)), ("given", "a", item(1)), ("read", "a", END), *[("given", "a", END)] * 2])

    def test_notes_of_the_same_word(self):
        nodes = [("a", "row", ([7],), []), ("c", "closing", ("bye",), ["a"]), ("b", "count", (0, 1), []),
                 ("d", "closing", ("bye",), ["b"])]
        steps = [("pull", "d", 1), ("pull", "c", 2), ("close", "d")]
        self.assertEqual(count_events(Net(nodes), steps, "note", "bye"), 2)
        self.assertEqual(event_of(Net(nodes), steps, "note", "bye", 0), (5, ("note", "bye")))
        self.assertEqual(event_of(Net(nodes), steps, "note", "bye", 1), (8, ("note", "bye")))
        self.assertIs(event_of(Net(nodes), steps, "note", "bye", 2), None)

    def test_within_a_pull_that_is_never_answered(self):
        steps = [("pull", "b", 6), ("close", "b")]
        self.assertIs(event_count(Net(BLIND), steps), None)
        self.assertEqual(event_at(Net(BLIND), steps, 9), ("given", "b", item(4)))
        for number in (10, 11, 10 ** 20, FAR):
            self.assertEqual(event_at(Net(BLIND), steps, number), ("read", "a", item(number - 5)))
            self.assertEqual(state_behind(Net(BLIND), steps, number), ([("a", number - 4)], [], "b"))
        self.assertEqual(events_from(Net(BLIND), steps, FAR, 1000), [("read", "a", item(FAR - 5 + at)) for at in range(1000)])
        self.assertEqual([count_events(Net(BLIND), steps, "read", "a"), count_events(Net(BLIND), steps, "given", "b"),
                          count_events(Net(BLIND), steps, "closed", "b")], [None, 5, 0])
        self.assertEqual(event_of(Net(BLIND), steps, "read", "a", FAR), (FAR + 5, ("read", "a", item(FAR))))
        self.assertIs(event_of(Net(BLIND), steps, "given", "b", 5), None)
        self.assertIs(event_of(Net(BLIND), steps, "closed", "b", 0), None)

    def test_reads_of_which_there_is_an_end_in_it(self):
        nodes = [("x", "count", (0, 1), []), ("y", "row", ([5, 6],), []), *BLIND, ("z", "zip", ("sum",), ["x", "b"]),
                 ("w", "chain", (), ["y", "z"])]
        steps = [("repeat", FAR, [("pull", "w", 2)])]
        counts = {name: count_events(Net(nodes), steps, "read", name) for name in "xya"}
        self.assertEqual(counts, {"x": 6, "y": 3, "a": None})
        self.assertEqual(event_of(Net(nodes), steps, "read", "x", 5)[1], ("read", "x", item(5)))
        self.assertIs(event_of(Net(nodes), steps, "read", "x", 6), None)
        number, event = event_of(Net(nodes), steps, "read", "a", 10 ** 25)
        self.assertEqual((event, event_at(Net(nodes), steps, number)), (("read", "a", item(10 ** 25)),) * 2)

    def test_many_pulls_the_last_of_which_is_never_answered(self):
        for many, lost in ((7, 10), (10 ** 20, FAR)):
            nodes = [("a", "count", (0, 1), []), ("b", "keep", (("below", many),), ["a"]), ("d", "drop", (lost,), ["b"])]
            split = [*nodes[:2], ("s", "split", (), ["b"]), ("d", "drop", (lost,), ["s"]), ("r", "scale", (1, 0), ["s"])]
            for found, steps, given in ((Net(nodes), [("pull", "d", 2)], 0), (Net(split), [("pull", "d", 2)], 0),
                                        (Net(split), [("pull", "r", many - 1), ("pull", "d", 2)], many - 1)):
                for number in (2 * given, 2 * given + 1, many + given, many + given + 1, 3 * many + 7, FAR):
                    item_read = item(number - given)
                    self.assertEqual(event_at(found, steps, number), ("read", "a", item_read), (many, number))
                    self.assertEqual(event_of(found, steps, "read", "a", item_read[1]), (number, ("read", "a", item_read)))
                    self.assertEqual(state_behind(found, steps, number), ([("a", item_read[1] + 1)], [], "d"))
                start = max(2 * given, many - 2)
                self.assertEqual(events_from(found, steps, start, 9),
                                 [("read", "a", item(start - given + at)) for at in range(9)])
                self.assertIs(count_events(found, steps, "read", "a"), None)

    def test_far_events(self):
        wide = Net([("a", "count", (0, 1), []), ("s", "step", (10 ** 20,), ["a"])])
        steps = [("repeat", FAR, [("pull", "s", 7)])]
        many = 7 * FAR
        self.assertEqual(event_count(wide, steps), many + (many - 1) * 10 ** 20 + 1)
        self.assertEqual(event_at(wide, steps, 10 ** 25), ("read", "a", item(10 ** 25 - 10 ** 5)))
        given = (10 ** 20 + 1) * 10 ** 5 + 1
        self.assertEqual(events_from(wide, steps, given - 1, 3), [("read", "a", item(10 ** 25)), ("given", "s", item(10 ** 25)),
                                                                  ("read", "a", item(10 ** 25 + 1))])
        self.assertEqual(event_of(wide, steps, "given", "s", 10 ** 5), (given, ("given", "s", item(10 ** 25))))
        self.assertEqual(state_behind(wide, steps, given - 1), ([("a", 10 ** 25 + 1)], [], "s"))
        self.assertEqual(state_behind(wide, steps, given), ([("a", 10 ** 25 + 1)], [], None))

    def test_what_another_port_has_read_is_no_event(self):
        nodes = [("a", "count", (0, 1), []), ("s", "split", (), ["a"]), ("l", "step", (10 ** 9,), ["s"]),
                 ("r", "drop", (2 * 10 ** 9,), ["s"])]
        steps = [("pull", "l", 2), ("pull", "r", 1), ("pull", "l", 2)]
        ahead = 10 ** 9 + 3
        self.assertEqual(event_at(Net(nodes), steps, ahead), ("read", "a", item(10 ** 9 + 1)))
        self.assertEqual(events_from(Net(nodes), steps, 2 * 10 ** 9 + 2, 5),
                         [("read", "a", item(2 * 10 ** 9)), ("given", "r", item(2 * 10 ** 9)), ("given", "l", item(2 * 10 ** 9)),
                          ("read", "a", item(2 * 10 ** 9 + 1)), ("read", "a", item(2 * 10 ** 9 + 2))])

    def test_repeats_without_events(self):
        steps = [("repeat", FAR, [("pull", "c", 0), ("repeat", FAR, [("pull", "c", 0)])]), ("pull", "c", 1)]
        self.assertEqual(events_from(net(), steps, 0, 9), [("read", "a", item(0)), ("given", "c", item(0))])
        self.assertEqual(event_count(net(), [("repeat", FAR, [("close", "c")])]), FAR)
        self.assertEqual(event_of(net(), [("repeat", FAR, [("close", "c"), ("close", "c")])], "closed", "c", 10 ** 29),
                         (10 ** 29, ("closed", "c")))

    def test_lists_are_new(self):
        first = events_from(net(), STEPS, 0, 8)
        first.clear()
        reads = state_behind(net(), STEPS, 7)
        reads[0].clear()
        self.assertEqual(len(events_from(net(), STEPS, 0, 8)), 8)
        self.assertEqual(state_behind(net(), STEPS, 7), ([("a", 4)], [], None))


def drawn_cases(seeds, change=None):
    for seed in seeds:
        draw = random.Random(seed)
        drawn = splitting_net(draw) if draw.random() < 0.4 else drawn_net(draw, 7)
        steps = drawn_steps(draw, outlets(drawn))
        if change:
            try:
                drawn, steps = Net([far_node(draw, node) for node in drawn.node_list()]), far_steps(draw, steps)
            except LimitExceeded:
                continue
        try:
            check_schedule(drawn, steps)
        except LimitExceeded:
            continue
        if change or len(list(unrolled(steps))) <= 400:
            yield (seed, drawn.node_list(), steps), drawn, steps


def far_node(draw, node):
    """Return a node that may have far parameters."""
    name, kind, parameters, inputs = node
    if draw.random() < 0.4:
        if kind in ("take", "drop", "step"):
            parameters = (draw.choice(FAR_NUMBERS),)
        elif kind == "batch" and parameters[1] != "sum":
            parameters = (draw.choice(FAR_NUMBERS), *parameters[1:])
        elif kind == "span":
            parameters = (*parameters[:2], draw.choice(FAR_NUMBERS))
        elif kind in ("keep", "after", "until") and parameters[0][0] in ("below", "from"):
            parameters = ((parameters[0][0], draw.choice(FAR_NUMBERS)),)
    return name, kind, parameters, inputs


def far_steps(draw, steps):
    found = []
    for step in steps:
        if step[0] == "repeat":
            found.append(("repeat", draw.choice((step[1], *FAR_NUMBERS)), far_steps(draw, step[2])))
        elif step[0] == "pull":
            found.append(("pull", step[1], draw.choice((step[2], step[2], step[2], *FAR_NUMBERS))))
        else:
            found.append(step)
    return found


class PlainTest(unittest.TestCase):

    def outlet_behind(self, events, at):
        """Return the outlet whose pull is not answered behind an event; only for reads, results and closes."""
        if events[at][0] in ("given", "closed"):
            return None
        return next((event[1] for event in events[at:] if event[0] == "given"), None)

    def test_against_the_plain_machine(self):
        stuck = 0
        for where, drawn, steps in drawn_cases(range(450)):
            draw = random.Random(where[0])
            recorder = done(drawn, steps)
            events = recorder.events
            answered = recorder.stop is None
            # The plain machine gives up a pull that is never answered after some time.
            sure = min(len(events) if answered else len(events) - 5, 1000)
            stuck += not answered
            self.assertEqual(event_count(drawn, steps), len(events) if answered else None, where)
            found = events_from(drawn, steps, 0, 1000)
            self.assertEqual(found[:sure], events[:sure], where)
            if answered:
                self.assertEqual(len(found), sure, where)
                self.assertIs(event_at(drawn, steps, len(events)), None, where)
            for at in {draw.randrange(sure) for _ in range(5)} if sure > 0 else ():
                event = events[at]
                self.assertEqual(event_at(drawn, steps, at), event, where)
                ahead = sum(other[:2] == event[:2] for other in events[:at])
                self.assertEqual(event_of(drawn, steps, *event[:2], ahead), (at, event), where)
                reads, notes, outlet = state_behind(drawn, steps, at)
                past = events[:at + 1]
                wanted = [(name, sum(other[:2] == ("read", name) for other in past))
                          for name, kind, _, _ in drawn.node_list() if kind in SOURCES]
                self.assertEqual((reads, notes), (wanted, [other[1] for other in past if other[0] == "note"]), where)
                if event[0] in ("given", "closed") or event[0] == "read" and answered:
                    self.assertEqual(outlet, self.outlet_behind(events, at), where)
            for sort, name in {event[:2] for event in events}:
                many = sum(event[:2] == (sort, name) for event in events)
                count = count_events(drawn, steps, sort, name)
                if answered or sort != "read":
                    self.assertEqual(count, many, where)
                    self.assertIs(event_of(drawn, steps, sort, name, many), None, where)
                else:
                    self.assertTrue(count == many or count is None and many > 100, where)
        self.assertGreater(stuck, 5)


class FarTest(unittest.TestCase):

    def test_the_same_from_all_functions(self):
        far = 0
        for where, drawn, steps in drawn_cases(range(10000, 10160), True):
            nodes = drawn.node_list()
            subjects = [("read", node[0]) for node in nodes if node[1] in SOURCES]
            subjects += [(sort, name) for sort in ("given", "closed") for name in outlets(drawn)]
            subjects += [("note", node[2][0]) for node in nodes if node[1] == "closing"]
            counts = {subject: count_events(drawn, steps, *subject) for subject in subjects}
            total = event_count(drawn, steps)
            if total is None:
                self.assertLess([name for name, many in counts.items() if many is None], [("s",)], where)
            else:
                self.assertEqual(sum(counts.values()), total, where)
            for subject, many in counts.items():
                for index in {0, 1, 10 ** 6, 10 ** 29, FAR, *((many - 1, many // 2, many) if many else ())}:
                    if index > FAR:
                        continue
                    found = event_of(drawn, steps, *subject, index)
                    self.assertEqual(found is None, many is not None and index >= many, (where, subject, index))
                    if found is None or found[0] > FAR:
                        continue
                    far += found[0] > 10 ** 6
                    self.assertEqual(found[1][:2], subject, (where, subject, index))
                    self.assertEqual(event_at(drawn, steps, found[0]), found[1], (where, subject, index))
                    self.assertEqual(events_from(drawn, steps, found[0], 2)[0], found[1], (where, subject, index))
                    if subject[0] == "read":
                        self.assertEqual(dict(state_behind(drawn, steps, found[0])[0])[subject[1]], index + 1, where)
            if total is not None and total <= FAR:
                with self.assertRaises(InvalidEvent) as caught:
                    state_behind(drawn, steps, total)
                self.assertEqual(caught.exception.number, total)
        self.assertGreater(far, 200)


if __name__ == "__main__":
    unittest.main()
