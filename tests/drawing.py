"""Nets, schedules and calls that are drawn from a source of numbers with a fixed beginning."""

from pullworks.errors import InvalidNet, LimitExceeded
from pullworks.nets import Net

NAMES = "abcdefghijklmnopqrstuvwxyz"

SOURCES = ("count", "span", "ring", "row")

SINGLES = ("scale", "table", "keep", "until", "after", "take", "drop", "step", "batch", "pairs", "heads", "lengths",
           "stutter", "ahead", "fault", "dying", "calm", "closing")

JOINS = ("chain", "zip", "longest", "turns", "choose")


def small(draw):
    return draw.choice((draw.randint(-3, 3), draw.randint(-3, 3), draw.randint(-12, 12)))


def test_of(draw, depth=0):
    word = draw.choice(("mod", "mod", "below", "from", "not" if depth < 3 else "mod"))
    if word == "not":
        return ("not", test_of(draw, depth + 1))
    if word == "mod":
        modulus = draw.choice((1, 2, 2, 3, 3, 4, 5))
        return ("mod", modulus, [residue for residue in range(modulus) if draw.random() < 0.5])
    return (word, draw.randint(-15, 25))


def numbers(draw, least, most):
    return [draw.choice((draw.randint(0, 2), small(draw))) for _ in range(draw.randint(least, most))]


def parameters_of(draw, kind):
    """Return parameters for a kind."""
    if kind in ("count", "scale"):
        return (small(draw), draw.choice((-2, -1, 0, 1, 1, 1, 2, 3)))
    makers = {
        "span": lambda: (small(draw), draw.randint(-2, 3), draw.choice((0, 1, draw.randint(0, 25)))),
        "ring": lambda: (numbers(draw, 1, 5),),
        "row": lambda: (numbers(draw, 0, 9),),
        "table": lambda: (numbers(draw, 1, 4),),
        "keep": lambda: (test_of(draw),),
        "until": lambda: (test_of(draw),),
        "after": lambda: (test_of(draw),),
        "take": lambda: (draw.choice((0, 1, 2, draw.randint(3, 20))),),
        "drop": lambda: (draw.choice((0, 1, 2, draw.randint(3, 20))),),
        "step": lambda: (draw.choice((1, 2, 3, draw.randint(4, 9))),),
        "batch": lambda: (draw.choice((1, 2, 3, 5)), draw.choice(("first", "last", "many", "sum")),
                          draw.choice(("give", "lose"))),
        "stutter": lambda: (draw.choice((1, 2, 2, 3, 4)),),
        "ahead": lambda: (draw.choice((0, 1, 2, 3, 7)),),
        "fault": lambda: (draw.choice((0, 1, 2, 3, draw.randint(4, 20))), draw.choice(("net", "disk"))),
        "calm": lambda: (draw.choice(("stop", "skip")),),
        "closing": lambda: (draw.choice(("bye", "done", "over")),),
        "zip": lambda: (draw.choice(("first", "last", "sum")),),
        "longest": lambda: (small(draw), draw.choice(("first", "last", "sum"))),
    }
    return makers[kind]() if kind in makers else ()


def drawn_nodes(draw, most):
    """Return nodes, at most about so many, that may make a net."""
    nodes = []
    free = []
    ports = {}

    def add(kind, many):
        inputs = []
        for _ in range(many):
            choices = [name for name in free if name not in inputs]
            choices += [name for name in ports if ports[name] + inputs.count(name) < 5 and draw.random() < 0.7]
            if not choices:
                return
            inputs.append(draw.choice(choices))
        for lower in inputs:
            if lower in free:
                free.remove(lower)
            else:
                ports[lower] += 1
        name = NAMES[len(nodes)]
        nodes.append((name, kind, parameters_of(draw, kind), inputs))
        if kind == "split":
            ports[name] = 0
        else:
            free.append(name)

    for _ in range(draw.randint(1, most)):
        pick = draw.random()
        if not nodes or pick < 0.2:
            add(draw.choice(SOURCES), 0)
        elif pick < 0.6:
            add(draw.choice(SINGLES), 1)
        elif pick < 0.75:
            add("split", 1)
        else:
            kind = draw.choice(JOINS)
            add(kind, draw.randint(2 if kind == "choose" else 1, 4))
    for name in ports:
        if ports[name] == 0 and len(nodes) < 26:
            nodes.append((NAMES[len(nodes)], "scale", (1, 0), [name]))
    return nodes


def drawn_net(draw, most=7):
    """Return a net that keeps the limits."""
    return first_net(lambda: drawn_nodes(draw, most))


def crossing_net(draw):
    """Return a net that keeps the limits, in which items overtake others."""
    return first_net(lambda: crossing_nodes(draw))


def first_net(make):
    """Return the net of the first nodes made that keep the limits."""
    while True:
        try:
            return Net(make())
        except LimitExceeded:
            continue


def crossing_nodes(draw):
    """Return nodes under whose uppermost one several items grow at different speeds, so that one overtakes another."""
    nodes = []
    for name in NAMES[:draw.randint(2, 3)]:
        kind = draw.choice(("count", "count", "span", "ring"))
        growth = draw.randint(-3, 3)
        parameters = {"count": (draw.randint(-60, 60), growth), "span": (draw.randint(-60, 60), growth, draw.randint(0, 60)),
                      "ring": ([draw.randint(-40, 40) for _ in range(draw.randint(1, 3))],)}
        nodes.append((name, kind, parameters[kind], []))
    names = [node[0] for node in nodes]
    nodes.append(("t", draw.choice(("turns", "turns", "chain") + ("choose",) * (len(names) > 2)), (), names))
    for name in "uvw"[:draw.randint(1, 3)]:
        bound = draw.randint(-60, 60)
        kind = draw.choice((("heads", ()), ("heads", ()), ("lengths", ()), ("lengths", ()), ("keep", (("below", bound),)),
                            ("keep", (("from", bound),)), ("after", (("below", bound),)), ("stutter", (2,)), ("pairs", ()),
                            ("fault", (abs(bound), "net")), ("step", (draw.randint(1, 4),)), ("ahead", (2,))))
        nodes.append((name, *kind, [nodes[-1][0]]))
    return nodes


def drawn_steps(draw, names, depth=0, least=0):
    """Return steps for outlets with these names."""
    steps = []
    for _ in range(draw.randint(least, 4)):
        pick = draw.random()
        if pick < 0.1:
            steps.append(("close", draw.choice(names)))
        elif pick < 0.35 and depth < 2:
            many = draw.choice((0, 1, 2, 3, draw.randint(0, 9)))
            steps.append(("repeat", many, drawn_steps(draw, names, depth + 1, 1)))
        else:
            steps.append(("pull", draw.choice(names), draw.choice((0, 1, 1, 2, 3, draw.randint(0, 7)))))
    return steps


def unrolled(steps, path=()):
    """Yield the closes and the single pulls of steps: tuples (path, number, word, outlet)."""
    for at, step in enumerate(steps):
        if step[0] == "repeat":
            for number in range(step[1]):
                yield from unrolled(step[2], (*path, at, number))
        else:
            for number in range(1 if step[0] == "close" else step[2]):
                yield (*path, at), number, step[0], step[1]


def splitting_nodes(draw):
    """Return nodes with splits above splits, and several ports of one user among them."""
    nodes = [("a", draw.choice(("count", "count", "span", "row")), (), [])]
    nodes[0] = ("a", nodes[0][1], parameters_of(draw, nodes[0][1]), [])
    splits = []
    top = "a"
    for _ in range(draw.choice((1, 1, 2, 3))):
        if draw.random() < 0.5:
            kind = draw.choice(SINGLES)
            nodes.append((NAMES[len(nodes)], kind, parameters_of(draw, kind), [top]))
            top = nodes[-1][0]
        nodes.append((NAMES[len(nodes)], "split", (), [top]))
        top = nodes[-1][0]
        splits.append(top)
    for name in [splits[-1], *splits, *draw.choices(splits, k=draw.randint(0, 2))]:
        kind = draw.choice((*SINGLES, *SINGLES, "zip", "chain", "turns"))
        lower = [name] if kind in SINGLES else [name, draw.choice(splits)]
        nodes.append((NAMES[len(nodes)], kind, parameters_of(draw, kind), lower))
    return nodes


def splitting_net(draw):
    """Return a net with splits that keeps the limits."""
    while True:
        try:
            return Net(splitting_nodes(draw))
        except (LimitExceeded, InvalidNet):
            continue


def overtaking_nodes(draw):
    """Return nodes in which several ways lead from an outlet to the same split, at different speeds."""
    letters = iter("bcdefghijklmnop")
    nodes = [("a", "span", (0, 1, draw.choice((50, 300, 10 ** 20))), []), ("s", "split", (), ["a"])]
    if draw.random() < 0.6:
        nodes[0] = ("a", "count", (0, 1), [])

    def add(lower):
        kind, parameters = draw.choice((
            ("scale", (1, 0)), ("step", (draw.randint(1, 4),)), ("drop", (draw.randint(0, 60),)), ("stutter", (draw.randint(2, 3),)),
            ("keep", (("mod", draw.randint(2, 3), [0]),)), ("take", (draw.randint(1, 300),)), ("ahead", (draw.randint(1, 20),)),
            ("batch", (draw.randint(1, 5), "last", "give"))))
        nodes.append((next(letters), kind, parameters, [lower]))
        return nodes[-1][0]

    nodes.append(("t", "split", (), [add("s") if draw.random() < 0.7 else "s"]))
    inputs = ["t"]
    for _ in range(draw.randint(2, 3)):
        lower = draw.choice("stt")
        for _ in range(draw.randint(0, 2)):
            lower = add(lower)
        inputs.append(lower)
    kind, parameters = draw.choice((("zip", ("sum",)), ("turns", ()), ("turns", ()), ("chain", ()), ("longest", (0, "sum"))))
    nodes.append(("z", kind, parameters, inputs))
    if draw.random() < 0.5:
        nodes.append(("y", "split", (), ["z"]))
        add("y")
        add("y")
    return nodes


def overtaking_net(draw):
    """Return such a net that keeps the limits."""
    while True:
        try:
            return Net(overtaking_nodes(draw))
        except (LimitExceeded, InvalidNet):
            continue
