"""A thing, put otherwise at one place."""


def _other_values(thing):
    if isinstance(thing, bool):
        return [not thing, int(thing), None]
    if isinstance(thing, int):
        return [thing + 1, thing - 1, thing + 100, bool(thing), str(thing), None, [thing], (thing,)]
    if isinstance(thing, str):
        return [thing + "x", thing[:-1], thing.upper(), thing.lower(), [thing], (thing,), None, 0, "A", "c"]
    return [None, True, 0, "over", (), [], {}, thing, (thing,), [thing]]


def _other_lists(thing):
    things = list(thing)
    told = [things[:at] + things[at + 1:] for at in range(len(things))]
    told += [things[:at] + [things[at]] + things[at:] for at in range(len(things))]
    told += [things[:at] + [things[at + 1], things[at]] + things[at + 2:] for at in range(len(things) - 1)]
    told += [things + [None], things + [0], things + [()], [0] + things, things + things, things[::-1]]
    return told


def touched(thing):
    """All that comes when a thing, or one within it, is put otherwise."""
    told = _other_values(thing)
    if isinstance(thing, (list, tuple)):
        kind = type(thing)
        told.append(tuple(thing) if kind is list else list(thing))
        told.extend([kind(things) for things in _other_lists(thing)])
        for at, part in enumerate(thing):
            told.extend([kind(list(thing[:at]) + [other] + list(thing[at + 1:])) for other in touched(part)])
    return told
