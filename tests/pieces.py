"""Short ways to write shapes, spots and programs in tests."""

NUM = ("num",)
OWN = ("own",)
STRIP = ("strip", 3)
PAIR = ("rec", (NUM, STRIP))
DEED = ("rec", (NUM, OWN))
RICH = ("rec", (NUM, OWN, STRIP, PAIR))
GIVE = ("give", "")
MAIN = ("main", (), None, (), (GIVE,))


def spot(name, *path, at=None):
    return (name, False, path, at)


def thru(name, *path, at=None):
    return (name, True, path, at)


def lent(shape):
    return ("lent", shape)


def sole(shape):
    return ("sole", shape)


def named(**kinds):
    return tuple(kinds.items())


def work(*rows, params=(), lets=(), result=None, others=()):
    """A program whose function 1, "work", has these rows."""
    return (MAIN, ("work", params, result, lets, rows)) + others


def start(*rows, params=(), lets=(), others=()):
    """A program whose first function, "main", has these rows."""
    return (("main", params, None, lets, rows),) + others
