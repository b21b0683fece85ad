"""Things of any make, for the tests of what takes anything."""


def deep(thing, make, levels=7):
    for _ in range(levels):
        thing = make([thing])
    return thing


PLAIN_THINGS = [0, 1, 2, -1, 10 ** 30, -10 ** 30, True, False, None, "", "a", "cow", "-", "*", "TRUST", "0", "()", "[]"]

THINGS = PLAIN_THINGS + [
    [], (), [[]], ((),), [()], ([],), [None], (None,), [0], (0,), [True], (True,), ["a"], ("a",), ["a", 0], ("a", 0),
    [("a", 0)], (("a", 0),), [["a", 0]], (("a", 0, None),), [0, 1], (0, 1), [[0, 1]], [[[]], ((),)],
    deep(1, list), deep(1, tuple), deep("a", list), deep("a", tuple), deep((), tuple), deep([], list),
    [PLAIN_THINGS], tuple(PLAIN_THINGS), list(PLAIN_THINGS),
]


def some_thing(chance, levels=4):
    """A thing by chance, made of the plain ones."""
    if levels == 0 or chance.random() < 0.4:
        return chance.choice(PLAIN_THINGS)
    parts = [some_thing(chance, levels - 1) for _ in range(chance.randint(0, 4))]
    return chance.choice([list, tuple])(parts)


def with_part(whole, at, part):
    """A list or tuple like this one, but for one of its parts."""
    return whole[:at] + type(whole)([part]) + whole[at + 1:]
