"""Points [35] to [38] where outlets over one port overtake each other within rounds within rounds: counted pull by pull, and
by formulas."""

import random
import unittest
from unittest import mock

from counting import PLAIN, Rounds, counted_sizes, leading_net
from drawing import unrolled
from makers import FAR

from pullworks.errors import LimitExceeded
from pullworks.nets import Net
from pullworks.schedules import check_schedule
from pullworks.splits import endless_size, first_above, greatest_size, order_size, pulls_within


def opposed(slopes):
    """Tell whether so many times the slopes of two or three leads are nothing together: then one falls where others rise."""
    if len(slopes) == 2:
        return slopes[0] == (-slopes[1][0], -slopes[1][1]) != (0, 0)
    turns = [a * d - b * c for (a, b), (c, d) in zip(slopes, slopes[1:] + slopes[:1])]
    return min(turns) > 0 or max(turns) < 0


def drawn_slopes(draw, many, slope):
    """Return the growths of leads with each round and with each inner one, the first two or three of which are opposed."""
    while True:
        slopes = [(draw.randint(-slope, slope), draw.randint(-slope, slope)) for _ in range(many)]
        if many == 2:
            slopes[1] = -slopes[0][0], -slopes[0][1]
        if opposed(slopes[:3]):
            return slopes


def crossing_leads(draw, names, rounds, inner, slope, exact=False):
    """Return leads the least of which is greatest amid the rounds, and the point where up to three are (about) equal."""
    at = draw.randint(1, rounds - 1), draw.randint(1, inner - 1)
    slopes = drawn_slopes(draw, len(names), slope)
    leads = {}
    for place, (name, (b, c)) in enumerate(zip(names, slopes)):
        more = draw.randint(slope, 5 * slope) if place > 2 else 0 if exact else draw.randint(0, slope)
        leads[name] = more - b * at[0] - c * at[1], b, c
    return leads, at


def ridge_leads(draw, rounds, slope):
    """Return the leads of two outlets, the least of which changes little along a line through all rounds; and inner rounds."""
    up, down = draw.randint(slope // 2 + 1, slope), draw.randint(slope // 2 + 1, slope)
    one = draw.randint(-slope, slope)
    other = (draw.randint(-3, 3) - one * down) // up
    climb = one - other
    inner = abs(climb) * rounds // (up + down) + draw.randint(2, 5)
    start = draw.randint(0, slope) + max(0, -climb * rounds)
    return {"l": (0, one, -up), "r": (-start, other, down)}, inner


def drawn_times(draw, names):
    """Return how often outlets are to be pulled for one read, few times in all."""
    times = dict.fromkeys(names, 1)
    for many in draw.choice(((), (), (2,), (3,), (2, 2), (2, 3))):
        times[draw.choice(names)] = many
    return times


def stuttering_net(times):
    return leading_net({name: ("stutter", (many,)) if many > 1 else PLAIN for name, many in times.items()})


class SizesTest(unittest.TestCase):

    def check_counted(self, net, steps, split, where):
        """Compare the answers with sizes that are counted; return the greatest one and its number."""
        sizes = counted_sizes(net, steps, split)
        most = max(sizes)
        wanted = (most, sizes.index(most)) if most else (0, None)
        self.assertEqual(greatest_size(net, steps, split), wanted, where)
        firsts = {}
        for number, size in enumerate(sizes):
            if size > len(firsts):
                firsts.update(dict.fromkeys(range(len(firsts), size), number))
        for bound in sorted({0, most // 2, most * 9 // 10, most - 7, most - 2, most - 1, most}):
            if bound >= 0:
                self.assertEqual(first_above(net, steps, split, bound), firsts.get(bound), (where, bound))
        return wanted

    def check_told(self, rounds, net, where):
        """Compare the answers with those of the formulas."""
        steps = rounds.steps()
        size, number = rounds.greatest()
        self.assertEqual(greatest_size(net, steps, "s"), (size, number), where)
        for bound in {size, size - 1, size - 2, (size + rounds.height) // 2, rounds.height + (size - rounds.height) * 9 // 10}:
            if rounds.height <= bound <= FAR:
                self.assertEqual(first_above(net, steps, "s", bound), rounds.first_above(bound), (where, bound))


class NearTest(SizesTest):

    def test_leads_that_cross_in_some_hundred_rounds(self):
        for seed in range(24):
            draw = random.Random(seed)
            rounds, inner = draw.randint(120, 250), draw.randint(60, 130)
            times = drawn_times(draw, "lrqu"[:draw.choice((2, 3, 3, 3, 4))])
            leads, _ = crossing_leads(draw, list(times), rounds, inner, draw.choice((1, 1, 2)), draw.random() < 0.8)
            told = Rounds(leads, rounds, inner, times, [1] * draw.choice((0, 0, 1, 5)))
            net = stuttering_net(times)
            self.assertEqual(self.check_counted(net, told.steps(), "s", (seed, leads)), told.greatest(), seed)
            self.check_told(told, net, (seed, leads))

    def test_ridges(self):
        for seed in range(60):
            draw = random.Random(seed)
            rounds = draw.randint(20, 120)
            leads, inner = ridge_leads(draw, rounds, draw.randint(2, 30))
            told = Rounds(leads, rounds, inner)
            if sum(step[2] for step in told.pulls(told.rest)) * rounds > 60000:
                continue
            with mock.patch("pullworks.surveys.MOST_SINGLE", draw.choice((0, 20))):
                counted = self.check_counted(stuttering_net({"l": 1, "r": 1}), told.steps(), "s", (seed, leads))
            self.assertEqual(counted, told.greatest(), seed)

    def kinds(self, draw, names, plain):
        """Return kinds and parameters for the outlets with these names."""
        found = {}
        for name in names:
            found[name] = PLAIN if draw.random() < plain else draw.choice((
                ("stutter", (draw.randint(2, 5),)), ("step", (draw.randint(2, 4),)), ("drop", (draw.randint(1, 60),)),
                ("ahead", (draw.randint(1, 20),))))
        return found

    def in_pulls(self, draw, steps, kinds):
        """Return steps with about as many reads by outlets of these kinds, the parts of each list in some order."""
        found = []
        for step in steps:
            if step[0] == "repeat":
                found.append((*step[:2], self.in_pulls(draw, step[2], kinds)))
                continue
            kind, (by, *_) = kinds[step[1]]
            many = step[2] * by if kind == "stutter" else -(-step[2] // by) if kind == "step" else step[2]
            found.append((*step[:2], max(1, many + (0 if draw.random() < 0.7 else draw.randint(-2, 2)))))
        if draw.random() < 0.3:
            draw.shuffle(found)
        return found

    def test_outlets_of_many_kinds(self):
        done = 0
        for seed in range(60):
            draw = random.Random(seed)
            rounds, inner = draw.randint(30, 150), draw.randint(10, 50)
            names = "lrqu"[:draw.randint(2, 4)]
            beside = ["m", "v"] if draw.random() < 0.3 else ["m"]
            upper, lower = self.kinds(draw, names, 0.5), self.kinds(draw, beside, 0.8)
            middle = draw.choice((PLAIN, PLAIN, PLAIN, ("step", (2,)), ("drop", (30,)), ("stutter", (2,))))
            leads, _ = crossing_leads(draw, names, rounds, inner, draw.randint(1, 2))
            told = Rounds(leads, rounds, inner)
            body = told.body() + [("pull", name, sum(told.few.values()) * inner) for name in beside[1:]]
            steps = self.in_pulls(draw, told.steps()[:-1] + [("repeat", rounds, body)], {**upper, **lower})
            try:
                net = leading_net(upper, lower, middle)
                check_schedule(net, steps)
            except LimitExceeded:
                continue
            if sum(1 for _ in unrolled(steps)) > 120000:
                continue
            with mock.patch("pullworks.surveys.MOST_SINGLE", draw.choice((0, 20))):
                for split in "st":
                    self.check_counted(net, steps, split, (seed, net.node_list(), steps, split))
            done += 1
        self.assertGreater(done, 25)

    def long_list(self, draw, names, unit, depth):
        """Return a list of many steps that pull all outlets about the same number of times, in any order."""
        steps = []
        for _ in range(draw.choice((5, 19, 20, 20))):
            if depth and draw.random() < 0.3:
                steps.append(("repeat", draw.choice((1, 1, 1, 2, 3)), self.long_list(draw, names, unit, depth - 1)))
            else:
                steps.append(("pull", draw.choice(names), max(1, unit + draw.randint(-1, 1))))
        return steps

    def test_lists_of_many_steps(self):
        done = 0
        for seed in range(60):
            draw = random.Random(seed)
            names = "lrq"[:draw.randint(2, 3)] + "m"
            net = leading_net(self.kinds(draw, names[:-1], 0.8))
            body = self.long_list(draw, names, draw.choice((1, 5, 20)), 1)
            pulls = {name: sum(outlet == name for _, _, _, outlet in unrolled(body)) for name in names}
            most = max(pulls.values())
            # In each round all outlets come about as far.
            body = body[:20 - len(names)] + [("pull", name, most - pulls[name] + draw.randint(1, 3)) for name in names]
            rounds = draw.choice((20, 100, 300))
            if rounds * sum(1 for _ in unrolled(body)) > 80000:
                continue
            start = [("pull", name, draw.randint(1, 4 * most)) for name in names]
            steps = start + [("repeat", rounds, body)] + self.long_list(draw, names, 3, 1)[:15]
            for split in "st":
                self.check_counted(net, steps, split, (seed, net.node_list(), steps, split))
            done += 1
        self.assertGreater(done, 25)

    def test_outlets_that_overtake_each_other_behind_many_steps(self):
        for seed in range(12):
            draw = random.Random(seed)
            names = "lr" if draw.random() < 0.7 else "lrq"
            slopes = dict(zip(names, (1, -1, 0)))
            turn = draw.randint(100, 150)
            start = {name: turn * (slope - min(slopes.values())) + draw.randint(0, 9) for name, slope in slopes.items()}
            # All of a list but its end changes no lead in the end.
            lists = [[("pull", name, draw.randint(1, 2)) for name in names] for _ in range(draw.randint(3, 6))]
            lists = [(pulls + [("pull", "m", pulls[0][2])]) * (20 // (len(names) + 1)) for pulls in lists]
            body = [("repeat", 1, steps) for steps in lists]
            come = {name: sum(outlet == name for _, _, _, outlet in unrolled(body)) for name in [*names, "m"]}
            tail = []
            for name in [*names, "m"]:
                rest = max(come.values()) - come[name] + 200 - slopes.get(name, 0)
                first = draw.randint(1, rest - 1)
                tail.extend((("pull", name, first), ("pull", name, rest - first)))
            steps = [("pull", name, many) for name, many in start.items()] + [("pull", "m", max(start.values()) + 700)]
            steps.append(("repeat", 2 * turn, body + draw.sample(tail, len(tail))))
            self.check_counted(leading_net(dict.fromkeys(names, PLAIN)), steps, "s", (seed, steps))


class FarTest(SizesTest):

    def test_many_inner_rounds_or_many_rounds(self):
        for seed in range(60):
            draw = random.Random(seed)
            few, many = draw.randint(5, 200), 10 ** draw.randint(5, 12) + draw.randint(0, 1000)
            rounds, inner = draw.choice(((few, many), (many, few)))
            times = drawn_times(draw, "lrqu"[:draw.randint(2, 4)])
            leads, _ = crossing_leads(draw, list(times), rounds, inner, 10 ** draw.choice((0, 0, 1, 5)))
            even = draw.choices((1, 7, 10 ** 9 + 9), k=draw.choice((0, 0, 3, 12)))
            self.check_told(Rounds(leads, rounds, inner, times, even), stuttering_net(times), (seed, leads, rounds, inner, even))

    def test_far_ridges(self):
        for seed in range(40):
            draw = random.Random(seed)
            rounds = draw.randint(100, 500)
            leads, inner = ridge_leads(draw, rounds, 10 ** draw.randint(2, 12))
            self.check_told(Rounds(leads, rounds, inner), stuttering_net({"l": 1, "r": 1}), (seed, leads, rounds, inner))

    def test_many_rounds_of_many_inner_rounds(self):
        for seed in range(60):
            draw = random.Random(seed)
            rounds, inner = 10 ** draw.randint(3, 8), 10 ** draw.randint(3, 8) + 1
            times = drawn_times(draw, "lrqu"[:draw.choice((3, 3, 4))])
            leads, at = crossing_leads(draw, list(times), rounds, inner, 10 ** draw.choice((0, 0, 1, 5)), True)
            even = draw.choices((1, 10 ** 6), k=draw.choice((0, 0, 14)))
            told, net = Rounds(leads, rounds, inner, times, even), stuttering_net(times)
            # The three leads are equal there, and the least of them is less at all other points.
            size, number = told.height, told.number(*at)
            self.assertEqual(told.size(*at), size)
            self.assertEqual(greatest_size(net, told.steps(), "s"), (size, number), (seed, leads, at))
            self.assertEqual(first_above(net, told.steps(), "s", size - 1), number, (seed, leads, at))
            self.assertIs(first_above(net, told.steps(), "s", size), None)

    def cut(self, draw, steps):
        """Return steps that pull the same with other repeats."""
        found = []
        for step in steps:
            if step[0] == "repeat" and step[1] > 2:
                first = draw.randint(1, step[1] - 1)
                found.extend((("repeat", first, self.cut(draw, step[2])), ("repeat", step[1] - first, step[2])))
            elif step[0] == "pull" and step[2] > 2 and draw.random() < 0.5:
                first = draw.randint(1, step[2] - 1)
                found.extend((("pull", step[1], first), ("pull", step[1], step[2] - first)))
            else:
                found.append(step)
        return found

    def test_ridges_through_many_rounds_in_one_repeat_or_in_several(self):
        for seed in range(25):
            draw = random.Random(seed)
            rounds = 10 ** draw.randint(3, 9)
            leads, inner = ridge_leads(draw, rounds, 10 ** draw.randint(2, 9))
            steps = Rounds(leads, rounds, inner).steps()
            net = stuttering_net({"l": 1, "r": 1})
            size, number = greatest_size(net, steps, "s")
            other = self.cut(draw, steps)
            self.assertEqual(greatest_size(net, other, "s"), (size, number), (seed, leads))
            for bound in (size - 1, size - 1 - draw.randint(0, rounds)):
                found = first_above(net, steps, "s", bound)
                self.assertEqual(first_above(net, other, "s", bound), found, (seed, leads, bound))
                self.assertTrue(bound < size - 1 and found <= number or found == number, (seed, leads, bound))


class OtherQuestionsTest(SizesTest):

    def test_pulls_within_behind_rounds(self):
        for seed in range(40):
            draw = random.Random(seed)
            times = drawn_times(draw, "lrq")
            leads, _ = crossing_leads(draw, "lrq", 30, 10, 2)
            steps, net = Rounds(leads, draw.randint(1, 30), 10, times).steps(), stuttering_net(times)
            outlet, split = draw.choice("lrqm"), draw.choice("sst")
            sizes = counted_sizes(net, [*steps, ("pull", outlet, 3000)], split)
            behind = sizes[-3000:]
            last = sizes[-3001]
            for bound in {0, last, last - 1, behind[0], behind[0] - 1, max(behind) - 1, draw.randint(0, max(behind))}:
                if bound >= 0:
                    many = next((at for at, size in enumerate(behind) if size > bound), None)
                    found = pulls_within(net, steps, split, outlet, bound)
                    if many is None:
                        self.assertTrue(found is None or found >= 3000, (seed, bound, found))
                    else:
                        self.assertEqual(found, many, (seed, steps, outlet, split, bound))

    def test_an_outlet_that_overtakes_another_one_at_the_port_behind(self):
        # Behind n pulls "z" has read far + n results through "w", and 3 * n - 2 through "u"; "l" has read least of all.
        nodes = [*leading_net({"l": PLAIN}).node_list(), ("u", "step", (3,), ["t"])]
        for least in (10 ** 20, 10 ** 20 + 1, 10 ** 20 + 2):
            far, most = 3 * 10 ** 20, 2 * 10 ** 20
            net = Net([*nodes, ("w", "drop", (far,), ["s"]), ("z", "zip", ("sum",), ["u", "w"])])
            steps = [("pull", "l", least), ("pull", "m", most)]
            turn = (least + 2) // 3
            size, number = far + turn - least, least + most + turn - 1
            self.assertEqual(greatest_size(net, [*steps, ("pull", "z", 10 ** 20)], "s"), (size, number))
            self.assertEqual(first_above(net, [*steps, ("pull", "z", FAR)], "s", size - 1), number)
            self.assertEqual(first_above(net, [*steps, ("repeat", FAR, [("pull", "z", 5)])], "s", size - 1), number)
            for more in (0, 1, turn - 1):
                self.assertEqual(pulls_within(net, steps, "s", "z", far - least + more), more)
            # Further out all others lead "m".
            self.assertEqual(pulls_within(net, steps, "s", "z", size), size - far + most)

    def test_endless_rounds(self):
        words = {"most": 0, "grows": 0}
        later = 0
        for seed in range(150):
            draw = random.Random(seed)
            # "r" is far ahead of "l" at first, but slower; "m" is ahead of both as soon as they all have been pulled.
            lead = draw.randint(100, 300)
            growths = {"l": 0, "r": draw.randint(1, 2), "q": draw.choice((0, 1, -1))}
            leads = {name: (0, growth, draw.randint(-2, 2)) for name, growth in growths.items()}
            net = leading_net({"l": PLAIN, "r": ("drop", (lead,)), "q": ("drop", (draw.randint(1, lead),))},
                              {"m": ("drop", (lead + draw.randint(0, 60),))})
            body = Rounds(leads, 10, draw.randint(3, 12)).body()
            answer = endless_size(net, body, "s")
            words[answer[0]] += 1
            sizes = counted_sizes(net, [("repeat", 500, body)], "s")
            each = len(sizes) // 500
            if answer[0] == "grows":
                self.assertEqual(sizes[-1] - sizes[-1 - 60 * each], 60 * answer[1] // answer[2], (seed, net.node_list(), body))
                continue
            self.assertEqual(answer, ("most", max(sizes)), (seed, net.node_list(), body))
            self.assertEqual(greatest_size(net, [("repeat", FAR, body)], "s"), (max(sizes), sizes.index(max(sizes))))
            later += sizes.index(max(sizes)) > 2 * each
        self.assertGreater(min(*words.values(), 3 * later), 20, (words, later))

    def test_orders(self):
        for seed in range(20):
            draw = random.Random(seed)
            net = leading_net({"l": PLAIN, "r": ("drop", (draw.randint(1, 90),)), "q": ("stutter", (2,))})
            order = draw.choices("lrqm", weights=[draw.randint(1, 9) for _ in "lrqm"], k=1000)
            for many in (1000, 300, 1):
                steps = [("pull", name, 1) for name in order[:many]]
                for split in "st":
                    self.assertEqual(order_size(net, split, order[:many]), max(counted_sizes(net, steps, split)), (seed, split))


if __name__ == "__main__":
    unittest.main()
