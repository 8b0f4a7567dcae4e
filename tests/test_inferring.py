"""Points [58] to [61]: records, contradictions, fitting parameters and telling pulls, by hand and against a plain node."""

import random
import time
import unittest

from drawing import parameters_of, small
from makers import END, FAR, error, item, items, strange_values
from plain import Never, PlainMachine

from pullworks.errors import InvalidBound, InvalidRecord, LimitExceeded
from pullworks.inferring import contradicted, fitting, record_over, telling_pull

KINDS = ("scale", "table", "keep", "until", "after", "take", "drop", "step", "batch", "pairs", "heads", "lengths", "stutter",
         "ahead", "fault", "dying", "calm", "closing")

BOUNDS = {"take": (0, FAR), "drop": (0, FAR), "step": (1, FAR), "batch": (1, FAR), "stutter": (1, 50), "ahead": (0, 20),
          "fault": (0, FAR), "scale": (-FAR, FAR), "keep": (-FAR, FAR), "until": (-FAR, FAR), "after": (-FAR, FAR)}


class PlainNode(PlainMachine):
    """A node that is pulled one by one, over an input that gives listed results and then the end, and its record."""

    def __init__(self, kind, parameters, results):
        super().__init__([("i", "row", ([],), []), ("n", kind, parameters, ["i"])], 3000)
        self.results = list(results)
        self.got = []

    def answer(self, name):
        if name == "n":
            return super().answer(name)
        result = self.results.pop(0) if self.results else END
        self.got.append(result)
        return result


def plain_record(kind, parameters, results, many):
    node = PlainNode(kind, parameters, results)
    found = []
    for _ in range(many):
        node.got = []
        result = node.answer("n")
        found.append((node.got, result))
    return found


def plain_contradiction(kind, parameters, record):
    """Return the first entry that a node does not have if its input gives just what is recorded, entry by entry."""
    node = PlainNode(kind, parameters, [])
    for at, (got, result) in enumerate(record):
        node.results, node.got = list(got), []
        try:
            answer = node.answer("n")
        except Never:
            return at
        # What the node read behind the results of its entry was an end that is not recorded there.
        if answer != result or node.got != got or node.results:
            return at
    return None


def drawn_results(draw, most=12):
    found = []
    for _ in range(draw.randint(0, most)):
        pick = draw.random()
        value = draw.choice((draw.randint(0, 2), small(draw)))
        found.append(error(draw.choice(("net", "net", "low"))) if pick < 0.12 else item(value))
    return found


def changed(draw, record):
    """Return a record with one thing changed."""
    found = [(list(got), result) for got, result in record]
    if not found:
        return [([], END)]
    at = draw.randrange(len(found))
    got, result = found[at]
    pick = draw.random()
    extra = draw.choice((item(small(draw)), END, error(), error("low")))
    if pick < 0.3:
        result = extra
    elif pick < 0.5:
        got.insert(draw.randint(0, len(got)), extra)
    elif pick < 0.7 and got:
        got.pop(draw.randrange(len(got)))
    elif pick < 0.85 and got:
        got[draw.randrange(len(got))] = extra
    elif pick < 0.93:
        del found[at]
        return found
    else:
        found.insert(at, (got, result))
        return found
    found[at] = (got, result)
    return found


class RecordTest(unittest.TestCase):

    def test_the_examples(self):
        record = record_over("step", (2,), items(5, 6, 7), 2)
        self.assertEqual(record, [(items(5), item(5)), (items(6, 7), item(7))])
        self.assertEqual(contradicted("step", (3,), record), 1)
        self.assertIs(contradicted("step", (2,), record), None)

    def test_ends_and_errors(self):
        self.assertEqual(record_over("take", (1,), items(5), 3), [(items(5), item(5)), ([], END), ([], END)])
        self.assertEqual(record_over("scale", (2, 1), [item(5), error()], 4),
                         [(items(5), item(11)), ([error()], error()), ([END], END), ([], END)])
        self.assertEqual(record_over("ahead", (2,), items(1, 2), 4),
                         [([*items(1, 2), END], item(1)), ([], item(2)), ([], END), ([], END)])
        self.assertEqual(record_over("dying", (), [error(), item(1)], 2), [([error()], error()), ([], END)])
        self.assertEqual(record_over("batch", (3, "sum", "give"), [item(1), error(), item(2)], 3),
                         [([item(1), error()], error()), ([item(2), END], item(3)), ([], END)])
        self.assertEqual(record_over("keep", (("below", 0),), [], 1), [([END], END)])
        self.assertEqual(record_over("keep", (("below", 0),), [], 0), [])

    def test_items_of_any_size(self):
        huge = 7 ** 500
        self.assertEqual(record_over("scale", (FAR, -FAR), items(huge), 1), [(items(huge), item(FAR * huge - FAR))])
        self.assertIs(contradicted("heads", (), [(items(huge), item(huge)), (items(huge, -huge), item(-huge))]), None)
        self.assertEqual(contradicted("heads", (), [(items(huge), item(huge)), (items(huge), item(huge))]), 1)
        self.assertEqual(fitting("scale", (None, 0), [(items(huge), item(3 * huge))]), (3, 3))
        self.assertIs(fitting("scale", (None, 0), [(items(1), item(FAR + 1))]), None)
        self.assertEqual(fitting("keep", (("below", None),), [(items(huge, -huge), item(-huge))]), (-FAR, FAR))
        self.assertIs(fitting("keep", (("from", None),), [(items(huge, -huge), item(-huge))]), None)

    def test_against_the_plain_node(self):
        for seed in range(2500):
            draw = random.Random(seed)
            kind = draw.choice(KINDS)
            parameters, results = parameters_of(draw, kind), drawn_results(draw)
            many = draw.randint(0, 25)
            record = record_over(kind, parameters, results, many)
            self.assertEqual(record, plain_record(kind, parameters, results, many), (seed, kind, parameters, results))
            self.assertIs(contradicted(kind, parameters, record), None, (seed, kind, parameters, record))

    def test_one_thing_changed(self):
        places = {}
        for seed in range(5000):
            draw = random.Random(10000 + seed)
            kind = draw.choice(KINDS)
            parameters = parameters_of(draw, kind)
            record = record_over(kind, parameters, drawn_results(draw), draw.randint(0, 14))
            for _ in range(draw.randint(1, 2)):
                record = changed(draw, record)
            found = contradicted(kind, parameters, record)
            self.assertEqual(found, plain_contradiction(kind, parameters, record), (seed, kind, parameters, record))
            places[found] = places.get(found, 0) + 1
        self.assertGreater(min(places.get(at, 0) for at in (None, 0, 1, 2, 3, 4, 5)), 50)

    def test_lists_are_new(self):
        results = items(1, 2)
        record = record_over("dying", (), results, 2)
        record[0][0].append(item(5))
        record.clear()
        self.assertEqual((results, record_over("dying", (), results, 2)[0]), (items(1, 2), (items(1), item(1))))


class FittingTest(unittest.TestCase):

    def test_the_examples(self):
        record = [(items(5), item(5)), (items(6), item(6))]
        self.assertEqual(fitting("take", (None,), record), (2, FAR))
        self.assertEqual(fitting("take", (None,), [*record, ([], END)]), (2, 2))
        self.assertEqual(fitting("take", (None,), [*record, ([END], END)]), (3, FAR))
        self.assertEqual(fitting("keep", (("below", None),), [(items(9, 4), item(4))]), (5, 9))

    def test_no_entries(self):
        for kind, (low, high) in BOUNDS.items():
            self.assertEqual(fitting(kind, self.hole(kind), []), (low, high), kind)
        self.assertEqual(fitting("batch", (None, "sum", "give"), []), (1, 50))
        self.assertEqual(fitting("scale", (5, None), []), (-FAR, FAR))

    def hole(self, kind):
        return {"scale": (None, 5), "batch": (None, "first", "give"), "fault": (None, "net")}.get(
            kind, (("from", None),) if kind in ("keep", "until", "after") else (None,))

    def test_bounds(self):
        self.assertEqual(fitting("scale", (None, FAR), [(items(1), item(0))]), (-FAR, -FAR))
        self.assertIs(fitting("scale", (None, FAR), [(items(1), item(-1))]), None)
        self.assertIs(fitting("scale", (None, 0), [(items(2), item(3))]), None)
        self.assertEqual(fitting("scale", (None, 3), [(items(0), item(3))]), (-FAR, FAR))
        self.assertEqual(fitting("scale", (None, 3), [(items(0), item(3)), (items(2), item(7))]), (2, 2))
        self.assertIs(fitting("scale", (None, 3), [(items(0), item(4))]), None)
        self.assertEqual(fitting("scale", (FAR, None), [(items(1), item(0))]), (-FAR, -FAR))
        self.assertIs(fitting("scale", (FAR, None), [(items(-1), item(1))]), None)
        self.assertEqual(fitting("keep", (("below", None),), [(items(FAR), END)]), None)
        self.assertEqual(fitting("keep", (("below", None),), [([item(FAR), END], END)]), (-FAR, FAR))
        self.assertEqual(fitting("keep", (("from", None),), [([item(FAR), END], END)]), None)
        self.assertEqual(fitting("keep", (("from", None),), [([item(FAR - 1), END], END)]), (FAR, FAR))
        self.assertEqual(fitting("after", (("below", None),), [(items(1, 5, 3), item(3))]), None)
        self.assertEqual(fitting("after", (("below", None),), [(items(1, 3, 5), item(5)), (items(0), item(0))]), (4, 5))
        self.assertEqual(fitting("until", (("from", None),), [(items(7), item(7)), (items(-4), END), ([], END)]), (-3, 7))
        self.assertEqual(fitting("batch", (None, "sum", "give"), [([item(1)] * 50, item(50))]), (50, 50))
        self.assertIs(fitting("batch", (None, "sum", "give"), [([item(1)] * 51, item(51))]), None)
        self.assertEqual(fitting("batch", (None, "many", "give"), [([item(1)] * 51, item(51))]), (51, 51))
        self.assertEqual(fitting("batch", (None, "sum", "give"), [([item(1)] * 49 + [END], item(49))]), (50, 50))
        self.assertIs(fitting("batch", (None, "sum", "give"), [([item(1)] * 50 + [END], item(50))]), None)
        self.assertEqual(fitting("batch", (None, "last", "lose"), [([item(1)] * 50 + [END], END)]), (51, FAR))
        self.assertEqual(fitting("stutter", (None,), [(items(3), item(3))] + [([], item(3))] * 49), (50, 50))
        self.assertEqual(fitting("stutter", (None,), [(items(3), item(3))] + [([], item(3))] * 5), (6, 50))
        self.assertEqual(fitting("stutter", (None,), [(items(3), item(3)), (items(3), item(3))]), (1, 1))
        self.assertEqual(fitting("ahead", (None,), [([item(1)] * 20 + [END], item(1))]), (20, 20))
        self.assertEqual(fitting("ahead", (None,), [([item(1), END], item(1))]), (1, 20))
        self.assertEqual(fitting("fault", (None, "net"), [(items(1), item(1)), ([], error()), ([error()], error())]), (1, 1))
        self.assertEqual(fitting("fault", (None, "net"), [(items(1), item(1)), ([error()], error())]), (2, FAR))
        self.assertIs(fitting("fault", (None, "low"), [(items(1), item(1)), ([], error())]), None)
        self.assertEqual(fitting("fault", (None, "net"), [([END], END), ([], END), ([], END)]), (1, FAR))
        self.assertEqual(fitting("drop", (None,), [([*items(1, 2), error()], error()), ([item(3), END], END)]), (3, FAR))
        self.assertEqual(fitting("drop", (None,), [([*items(1, 2), error()], error()), (items(3, 4), item(4))]), (3, 3))
        self.assertEqual(fitting("step", (None,), [([error()], error()), (items(3), item(3)), (items(4, 5, 6), item(6))]), (3, 3))
        self.assertEqual(fitting("step", (None,), [(items(3), item(3)), ([*items(4, 5, 6), END], END)]), (4, FAR))

    def test_numbers_of_thirty_digits(self):
        far = 123456789012345678901234567890
        record = [(items(far * at), item(far * far * at - far)) for at in range(1, 200)]
        self.assertEqual(fitting("scale", (None, -far), record), (far, far))
        self.assertEqual(fitting("scale", (far, None), record), (-far, -far))
        record = [([item(far + at) for at in range(3)] + [item(far - at)], item(far - at)) for at in range(1, 250)]
        self.assertEqual(fitting("keep", (("below", None),), record), (far, far))

    def replaced(self, kind, parameters, worth):
        """Return parameters with another number in the place of the one that is looked for."""
        if kind in ("keep", "until", "after"):
            return ((parameters[0][0], worth),)
        return tuple(worth if part is None else part for part in parameters)

    def test_against_all_values(self):
        found = {kind: 0 for kind in BOUNDS}
        for seed in range(2500):
            draw = random.Random(seed)
            kind = draw.choice(list(BOUNDS))
            parameters = parameters_of(draw, kind)
            if kind in ("keep", "until", "after"):
                word = draw.choice(("below", "from"))
                hole, parameters = ((word, None),), ((word, draw.randint(-12, 12)),)
            else:
                at = draw.randint(0, 1) if kind == "scale" else 0
                hole = parameters[:at] + (None,) + parameters[at + 1:]
            if draw.random() < 0.2:
                # Another value, so that a part of the record may fit to it.
                record = plain_record(kind, parameters, drawn_results(draw, 25), draw.randint(0, 5))
            else:
                record = plain_record(kind, parameters, drawn_results(draw), draw.randint(0, 12))
            if draw.random() < 0.3:
                record = changed(draw, record)
            low, high = BOUNDS[kind]
            high = 50 if kind == "batch" and parameters[1] == "sum" else high
            fits = [worth for worth in range(max(low, -60), min(high, 60) + 1)
                    if plain_contradiction(kind, self.replaced(kind, hole, worth), record) is None]
            answer = fitting(kind, hole, record)
            where = (seed, kind, hole, record, answer)
            if not fits:
                self.assertTrue(answer is None or answer[1] < -60 or answer[0] > 60, where)
                continue
            self.assertEqual(fits, list(range(fits[0], fits[-1] + 1)), where)
            self.assertEqual((max(answer[0], -60, low), min(answer[1], 60, high)), (fits[0], fits[-1]), where)
            found[kind] += 1
            for worth, wanted in ((answer[0], True), (answer[1], True), (answer[0] - 1, False), (answer[1] + 1, False)):
                if low <= worth <= high:
                    fit = contradicted(kind, self.replaced(kind, hole, worth), record) is None
                    self.assertEqual(fit, wanted, (where, worth))
        self.assertGreater(min(found.values()), 60)

    def test_in_time(self):
        record = [([item(at)] * 3, item(at)) for at in range(300)]
        begun = time.monotonic()
        for kind in BOUNDS:
            fitting(kind, self.hole(kind), record)
        record = [(items(at), item(at)) for at in range(300)]
        for kind in BOUNDS:
            fitting(kind, self.hole(kind), record)
        wide = [([item(at)] + [error()] * 2, error()) for at in range(300)]
        for kind in BOUNDS:
            fitting(kind, self.hole(kind), wide)
        self.assertLess(time.monotonic() - begun, 5)


class TellingPullTest(unittest.TestCase):

    def test_by_hand(self):
        for one, other, wanted in (
                (("take", (FAR,)), ("take", (10 ** 29,)), 10 ** 29), (("keep", (("from", 5),)), ("after", (("below", 5),)), None),
                (("keep", (("below", 5),)), ("until", (("below", 5),)), 5), (("keep", (("below", 5),)), ("keep", (("below", 5),)), None),
                (("keep", (("below", FAR),)), ("keep", (("below", FAR - 1),)), FAR - 1),
                (("keep", (("below", 0),)), ("keep", (("below", -5),)), None),
                (("fault", (FAR, "net")), ("fault", (FAR, "low")), FAR), (("fault", (FAR, "net")), ("scale", (1, 0)), FAR),
                (("drop", (FAR,)), ("drop", (FAR - 1,)), 0), (("ahead", (1,)), ("scale", (1, 0)), 0),
                (("heads", ()), ("scale", (1, 0)), None), (("batch", (2, "last", "give")), ("step", (2,)), 0),
                (("batch", (1, "sum", "give")), ("batch", (1, "first", "lose")), None),
                (("stutter", (3,)), ("stutter", (2,)), 2), (("scale", (FAR, 0)), ("scale", (FAR, 1)), 0),
                (("table", ([0] * 99 + [1],)), ("table", ([0],)), 99), (("dying", ()), ("closing", ("bye",)), None),
                # Unlike results come late, unlike reads never, and the other way round.
                (("until", (("below", 10 ** 20),)), ("scale", (1, 0)), 10 ** 20),
                (("keep", (("mod", 2, [0]),)), ("scale", (2, 0)), 1)):
            self.assertEqual(telling_pull(one, other), wanted, (one, other))
            self.assertEqual(telling_pull(other, one), wanted, (other, one))

    def test_against_the_plain_node(self):
        found = 0
        for seed in range(2500):
            draw = random.Random(seed)
            kind = draw.choice(KINDS)
            one = (kind, parameters_of(draw, kind))
            kind = draw.choice((kind, kind, draw.choice(KINDS)))
            other = (kind, parameters_of(draw, kind))
            nodes = [PlainNode(*part, []) for part in (one, other)]
            for node in nodes:
                node.patience = 300
                node.results = items(*range(6000))
            wanted = "late"
            for pull in range(40):
                entries = []
                for node in nodes:
                    node.got = []
                    try:
                        entries.append((node.answer("n"), node.got))
                    except Never:
                        entries.append("never")
                if entries[0] != entries[1] or entries[0] == "never":
                    wanted = pull if entries[0] != entries[1] else None
                    break
            answer = telling_pull(one, other)
            if wanted == "late":
                self.assertTrue(answer is None or answer >= 40, (seed, one, other, answer))
            else:
                self.assertEqual(answer, wanted, (seed, one, other))
                found += wanted is not None and wanted > 0
        self.assertGreater(found, 300)

    def test_errors(self):
        link = ("take", (1,))
        wrong = [*strange_values(), "take", ["take", (1,)], ("take",), ("take", (-1,)), ("take", [1]), ("count", (0, 1)), ("split", ()),
                 ("zip", ("sum",)), ("chain", ()), ("x", ()), ("take", (1,), 1), (["take"], (1,))]
        for value in wrong:
            for part, arguments in (("one", (value, link)), ("one", (value, value)), ("other", (link, value))):
                with self.assertRaises(InvalidBound) as caught:
                    telling_pull(*arguments)
                self.assertEqual(caught.exception.part, part)
        for one, other, limit in ((("table", ([1] * 100,)), ("table", ([1] * 3,)), 200),
                                  (("table", ([1] * 50,)), ("heads", ()), 10000), (("table", ([1] * 48,)), ("heads", ()), None),
                                  (("table", ([1] * 100,)), ("table", ([1] * 2,)), None)):
            if limit is None:
                self.assertIn(telling_pull(one, other), (None, 0))
                continue
            with self.assertRaises(LimitExceeded) as caught:
                telling_pull(other=other, one=one)
            self.assertEqual(caught.exception.limit, limit)


class ErrorsTest(unittest.TestCase):

    kinds = [*strange_values(), "count", "row", "split", "zip", "chain", "Take", ["take"], "x", 0]
    many = [*strange_values(), -1, 301, FAR, "1"]
    results = [*[value for value in strange_values() if value != []], (item(1),), [END], [item(True)], [("item", "1")], [("item",)],
               [item(1), error("Net")], [error(1)], [["item", 1]], [("item", 1, 2)], [("never", "a")], [item(1)] * 1000, "x", [None]]
    records = [(value, -1) for value in (None, "x", (), {}, 5, ([([], END)],), [([], END)] * 301)] + [
        ([1], 0), ([([], END), ([], None)], 1), ([([], END), ((), END)], 1), ([[[], END]], 0), ([([], END, 1)], 0), ([([],)], 0),
        ([([END], END), ([None], END)], 1), ([([item(True)], END)], 0), ([([], item(False))], 0), ([([], ("end", 1))], 0),
        ([([], ["end"])], 0), ([([], ("ends",))], 0), ([([], error(""))], 0), ([([], ("never", "a"))], 0),
        ([([item(1)] * 1001, END)], 0), ([([item(1)] * 500, END)] * 2 + [([], END), ([item(1)], END)], 3),
        ([([item(1)] * 1000, END), ([item(1)], END), None], 1)]

    def assert_bound(self, part, call, *arguments):
        with self.assertRaises(InvalidBound) as caught:
            call(*arguments)
        self.assertEqual(caught.exception.part, part, arguments)

    def assert_record(self, at, call, *arguments):
        with self.assertRaises(InvalidRecord) as caught:
            call(*arguments)
        self.assertEqual(caught.exception.at, at, arguments)

    def parameters(self):
        return [*strange_values(), (-1,), (True,), [1], (1, 1), ("1",), (FAR + 1,), 1]

    def test_record_over(self):
        for value in self.kinds:
            self.assert_bound("kind", record_over, value, (1,), [], 1)
            self.assert_bound("kind", record_over, value, None, None, None)
        for value in self.parameters():
            if value != (1,):
                self.assert_bound("parameters", record_over, "take", value, [], 1)
                self.assert_bound("parameters", record_over, "take", value, None, None)
        for value in self.results:
            self.assert_bound("results", record_over, "take", (1,), value, 1)
            self.assert_bound("results", record_over, "take", (1,), value, -1)
        for value in self.many:
            self.assert_bound("many", record_over, "take", (1,), [], value)
        self.assertEqual(len(record_over("take", (1,), [item(1)] * 999, 300)), 300)
        self.assertEqual(record_over(many=1, results=[], parameters=(0,), kind="take"), [([], END)])

    def test_contradicted(self):
        for value in self.kinds:
            self.assert_bound("kind", contradicted, value, None, None)
        for value in [*self.parameters(), (None,)]:
            if value != (1,):
                self.assert_bound("parameters", contradicted, "take", value, None)
        for value, at in self.records:
            self.assert_record(at, contradicted, "take", (1,), value)
        self.assertIs(contradicted(record=[], parameters=(1,), kind="take"), None)
        self.assertEqual(contradicted("take", (1,), [([item(1)] * 1000, item(1))]), 0)
        self.assertEqual(contradicted("drop", (999,), [([item(1)] * 1000, item(1))] + [([], END)] * 299), 1)

    def test_fitting(self):
        for value in self.kinds:
            self.assert_bound("kind", fitting, value, None, None)
        wrong = {"take": self.parameters() + [(None, None), (1,)], "scale": [(None, None), (None,), (1, 2), (None, True), [None, 1]],
                 "batch": [(None, None, "give"), (1, None, "give"), (None, "sums", "give"), (None, "sum"), (2, "sum", "give")],
                 "fault": [(1, None), (None, None), (None, "Net"), (1, "net")],
                 "keep": [(None,), (("below", 1),), (("not", ("below", None)),), (("mod", None, []),), (("mod", 3, None),), (("below",),),
                          (("below", None, 1),), (["below", None],), ((None, 1),)],
                 "pairs": [(), (None,)], "table": [(None,), ([None],)], "calm": [(None,), ("stop",)], "closing": [(None,)], "dying": [()]}
        for kind, values in wrong.items():
            for value in values:
                self.assert_bound("parameters", fitting, kind, value, [])
                self.assert_bound("parameters", fitting, kind, value, None)
        for value, at in self.records:
            self.assert_record(at, fitting, "take", (None,), value)
        self.assertEqual(fitting(record=[], parameters=(None,), kind="take"), (0, FAR))

    def test_nothing_is_changed(self):
        record = [([item(5), error()], error()), ([item(6)], item(6))]
        copy = [(list(got), result) for got, result in record]
        test = (("below", None),)
        contradicted("drop", (1,), record)
        fitting("drop", (None,), record)
        fitting("keep", test, record)
        self.assertEqual((record, test), (copy, (("below", None),)))


if __name__ == "__main__":
    unittest.main()
