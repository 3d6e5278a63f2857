"""Wrong arguments, and the calls of the tests."""

HUGE = 10 ** 30 - 1

WRONG_SCHEMES = [
    None, True, False, 0, 1, "late", "", b"late", [], {}, (), (None,), (0,), (True,), ("",), ("Late",), ("later",),
    ["late"], ("late", 1), ("late", None), ("late", "least"), ("late", "late"), (("late",),), (["late"],), ({},),
    ("lost",), ("again",), ("pool",), ["lost", 2], ["pool", "least"], ("lost", 2, 3), ("again", 2, 2),
    ("pool", "least", "least"), ("lost", 0), ("again", 0), ("lost", -1), ("again", -1),
    ("lost", HUGE + 1), ("again", HUGE + 1), ("lost", 10 ** 60), ("again", -10 ** 60),
    ("lost", True), ("again", True), ("lost", False), ("lost", None), ("lost", "2"), ("again", 2.0), ("lost", [2]),
    ("lost", "least"), ("pool", 1), ("pool", None), ("pool", ["least"]), ("pool", ("least",)), ("pool", True),
    ("pool", ""), ("pool", "last"), ("pool", "Least"), ("pool", "least "), ("pool", b"least"),
    (2, "lost"), ("again", 2, None), ({"late": 1},), ("lots", 2), (b"lost", 2), 2.5, object(),
]

WRONG_HOUSES = [0, 21, -1, 22, 10 ** 40, -10 ** 40, True, False, None, "2", 2.0, b"2", [2], (2,), {}, object()]

# Values of which none is an event of two houses.
NO_EVENTS = [
    None, 0, True, "take", "take 0", "", b"take", [], (), {}, ["take", 0], ("take",), (0,), ("take", 0, 0),
    (0, "take"), ("take", "0"), ("take", None), ("take", True), ("take", False), ("take", 0.0), ("take", [0]),
    ("take", (0,)), ("take", -1), ("take", 2), ("take", 3), ("take", 20), ("take", 10 ** 40), ("take", -10 ** 40),
    ("fall", 2), ("fall", -1), ("fall", True), ("fall", None),
    ("Take", 0), ("takes", 0), ("", 0), (b"take", 0), (None, 0), (["take"], 0), (("take",), 0), ({}, 0),
    (True, 0), (1, 0), ("undo", 0), ("look", 0), (("take", 0),), (("take", 0), 0), object(),
]

NO_LISTS = [
    None, True, False, 0, 2, "", "take", b"", (), (("take", 0),), {}, {"take": 0}, 1.5, object(),
    range(0), set(), iter([]),
]


class Odd:
    """A value that is equal to everything, and cannot be a key."""

    __hash__ = None

    def __eq__(self, other):
        return True


WRONG_SCHEMES.extend([Odd(), (Odd(),), (Odd(), 2), ("pool", Odd()), ("lost", Odd()), ("late", Odd())])
WRONG_HOUSES.append(Odd())
NO_EVENTS.extend([Odd(), (Odd(), 0), ("take", Odd()), ("fall", Odd())])
NO_LISTS.append(Odd())
