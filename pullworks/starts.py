"""The tapes of sources."""

from pullworks.tapes import ONE


def source(node, tape):
    """Add all pulls of a source to its tape; each of them up to the first end is a read."""
    kind, parameters = node[1], node[2]
    if kind == "count":
        start, step = parameters
        tape.give(None, [(start, step)], [ONE])
    elif kind == "span":
        start, step, many = parameters
        tape.give(many, [(start, step)], [ONE])
        tape.end(ONE)
    else:
        items = parameters[0]
        tape.give(None if kind == "ring" else len(items), [(item, 0) for item in items], [ONE] * len(items))
    if kind == "row":
        tape.end(ONE)
