"""Wrong arguments, and the calls of the tests."""

HUGE = 10 ** 30 - 1

WRONG_SCHEMES = [
    None, True, False, 0, 1, "late", "", b"late", [], {}, (), (None,), (0,), (True,), ("",), ("Late",), ("later",),
    ["late"], ("late", 1), ("late", None), ("late", "least"), ("late", "late"), (("late",),), (["late"],), ({},),
    ("lost",), ("again",), ("pool",), ["lost", 2], ["pool", "least"], ("lost", 2, 3), ("again", 2, 2),
    ("pool", "least", "least"), ("lost", 0), ("again", 0), ("lost", -1), ("again", -1),
    ("lost", HUGE + 1), ("again", HUGE + 1), ("lost", 10 ** 60), ("again", -10 ** 60),
    ("lost", True), ("again", True), ("lost", False), ("lost", None), ("lost", "2"), ("again", 2.0), ("lost", [2]),
    ("lost", "least"), ("pool", 1), ("pool", None), ("pool", ["least"]), ("pool", ("least",)), ("pool", True),
    ("pool", ""), ("pool", "last"), ("pool", "Least"), ("pool", "least "), ("pool", b"least"),
    (2, "lost"), ("again", 2, None), ({"late": 1},), ("lots", 2), (b"lost", 2), 2.5, object(),
]

WRONG_HOUSES = [0, 21, -1, 22, 10 ** 40, -10 ** 40, True, False, None, "2", 2.0, b"2", [2], (2,), {}, object()]

# Values of which none is an event of two houses.
NO_EVENTS = [
    None, 0, True, "take", "take 0", "", b"take", [], (), {}, ["take", 0], ("take",), (0,), ("take", 0, 0),
    (0, "take"), ("take", "0"), ("take", None), ("take", True), ("take", False), ("take", 0.0), ("take", [0]),
    ("take", (0,)), ("take", -1), ("take", 2), ("take", 3), ("take", 20), ("take", 10 ** 40), ("take", -10 ** 40),
    ("fall", 2), ("fall", -1), ("fall", True), ("fall", None),
    ("Take", 0), ("takes", 0), ("", 0), (b"take", 0), (None, 0), (["take"], 0), (("take",), 0), ({}, 0),
    (True, 0), (1, 0), ("undo", 0), ("look", 0), (("take", 0),), (("take", 0), 0), object(),
]

NO_LISTS = [
    None, True, False, 0, 2, "", "take", b"", (), (("take", 0),), {}, {"take": 0}, 1.5, object(),
    range(0), set(), iter([]),
]


class Odd:
    """A value that is equal to everything, and cannot be a key."""

    __hash__ = None

    def __eq__(self, other):
        return True


WRONG_SCHEMES.extend([Odd(), (Odd(),), (Odd(), 2), ("pool", Odd()), ("lost", Odd()), ("late", Odd())])
WRONG_HOUSES.append(Odd())
NO_EVENTS.extend([Odd(), (Odd(), 0), ("take", Odd()), ("fall", Odd())])
NO_LISTS.append(Odd())

WRONG_SIZES = [
    0, -1, HUGE + 1, 10 ** 60, -10 ** 60, True, False, None, "2", "", b"2", 2.0, [2], (2,), {}, object(), Odd(),
]

# Values of which none is a list of at most 200 items.
NO_NUMBER_LISTS = [
    None, True, False, 0, 5, "", "01", b"", b"01", (), (0, 1), {}, {0: 1}, range(0), range(2), set(), {0}, iter([0]),
    1.5, object(), Odd(), list(range(201)), [0] * 201, [None] * 201,
]

# Values of which none is an integer from 0 on.
NO_NUMBERS = [
    None, True, False, -1, -2, -10 ** 40, "0", "", b"0", 0.0, 1.5, [], [0], (), (0,), {}, object(), Odd(),
]

WRONG_RULES = [
    None, True, 0, "late", [], {}, (), (None,), ("late",), (("late",),), (("late",), None, None),
    [("late",), None], (["late"], None), (("lost",), None), (("again", 0), 1), (("again", True), 1),
    (("pool", "last"), 1), ("again", 2), (None, None), (None, 1), (1, ("again", 2)), (("late",), 0), (("late",), 5),
    (("lost", 2), 0), (("lost", 2), 7), (("late",), Odd()), (("lost", 1), Odd()), (Odd(), None), Odd(), object(),
]
WRONG_RULES.extend([(scheme, budget) for scheme in [("again", 2), ("pool", "least")]
                    for budget in NO_NUMBERS if budget is not None])

# Words of which none is a number.
NO_NUMBER_WORDS = [
    "", "a", "-1", "+1", "-0", "00", "01", "007", "1.0", "1e3", "0x1", "1_0", "1,", "O", "l", "1a", "a1", "\n", "1\n",
    "\n1", "\t1", "1\t2", "\u0663", "\u00b2", "\uff11", "1\u00a0", "none", "0" * 30, "1" * 31, "9" * 31,
    "0" + "1" * 30, "1" * 5000,
]

NO_STRINGS = [None, True, False, 0, 1, b"", b"late", b"0", [], ["late"], (), ("late",), {}, 1.5, object()]
NO_STRINGS.append(Odd())
