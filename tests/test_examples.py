"""The examples of DOC.md [12] to [34], as printed there, and those of README.md."""

import doctest
import os
import unittest

from holesleft.errors import HolesError

README = os.path.join(os.path.dirname(os.path.dirname(os.path.abspath(__file__))), "README.md")

EXAMPLES = {
    "point 12": """
>>> from holesleft.schemes import can_follow, deeds_of, is_scheme, is_weaving
>>> W = [("take", 0), ("take", 1), ("end", 1), ("fail", 0), ("take", 0), ("end", 0)]
>>> [is_scheme(("again", 2)), is_scheme(("pool", "last")), is_weaving(2, W), is_weaving(2, W[2:])]
[True, False, True, False]
>>> can_follow(2, W[:1])
[('end', 0), ('fail', 0), ('fall', 0), ('take', 1), ('fall', 1)]
>>> deeds_of(2, W)
[(0, 0, 3, 'fail'), (1, 1, 2, 'end'), (0, 4, 5, 'end')]
""",
    "point 14": """
>>> from holesleft.runs import book_of, frontier_of, holes_along, holes_of, lost_of, numbers_along, pending_of, pool_of, rests_of
>>> W = [("take", 0), ("take", 1), ("end", 1), ("fail", 0), ("take", 0), ("end", 0)]
>>> schemes = [("late",), ("lost", 2), ("again", 2), ("pool", "least")]
>>> [numbers_along(scheme, 2, W) for scheme in schemes[:2]]
[[None, None, 0, None, None, 1], [0, 2, 2, 0, 1, 1]]
>>> [numbers_along(scheme, 2, W) for scheme in schemes[2:]]
[[0, 2, 2, 0, 0, 0], [0, 1, 1, 0, 0, 0]]
>>> [book_of(scheme, 2, W) for scheme in schemes]
[[0, 1], [2, 1], [2, 0], [1, 0]]
>>> [frontier_of(scheme, 2, W) for scheme in schemes]
[2, 4, 4, 2]
>>> [lost_of(("lost", 2), 2, W), pending_of(("lost", 2), 2, W), holes_of(("lost", 2), 2, W), rests_of(("lost", 2), 2, W)]
[[(0, 0)], [(3, 3)], [(0, 0)], [None, (3, 3)]]
>>> [pending_of(("again", 2), 2, W), holes_along(("again", 2), 2, W), pool_of(("pool", "least"), 2, W[:4])]
[[(1, 1), (3, 3)], [0, 0, 2, 2, 2, 1], [0]]
""",
    "point 15": """
>>> from holesleft.books import book_fault, is_book, least_houses, lots_heard
>>> [is_book(("again", 2), 2, [2, 0, 1, 3]), is_book(("again", 2), 2, [4]), book_fault(("again", 2), 2, [2, 1])]
[True, False, 1]
>>> [least_houses(("again", 2), [4, 0]), least_houses(("lost", 1), [2, 0, 1]), is_book(("lost", 2), 1, [1, 5])]
[3, 3, True]
>>> [is_book(("pool", order), 2, [1, 0, 3, 2]) for order in ["least", "newest"]]
[True, True]
>>> [lots_heard(2, [4, 0, 3, 1]), least_houses(("late",), [0, 1]), least_houses(("late",), [1, 0])]
[[2, 0, 1, 0], 1, None]
""",
    "point 17": """
>>> from holesleft.words import book_index, book_of_digits, count_books, count_by_holes, count_full
>>> from holesleft.words import digits_of, next_numbers, nth_book
>>> [digits_of(2, [2, 0, 1, 3]), book_of_digits(2, [1, 0, 0, 0]), next_numbers(2, 2, [2])]
[[1, 0, 0, 0], [2, 0, 1, 3], [0, 3]]
>>> [nth_book(2, 2, 4, 8), book_index(2, 2, [2, 0, 1, 3]), count_books(3, 4)]
[[2, 0, 1, 3], 8, 81]
>>> [count_by_holes(2, 3), count_by_holes(3, 2), count_full(1, 2, 3), count_full(2, 2, 2)]
[[4, 4], [2, 4, 3], 4, 6]
""",
    "point 19": """
>>> from holesleft.falls import fewest_fails, fewest_falls, heard_along, houses_and_falls, unfinished_along
>>> [unfinished_along(2, [4, 0]), heard_along(2, [4, 0]), houses_and_falls(2, [4, 0])]
[[3, 3], [2, 1], [(2, 1), (3, 0)]]
>>> [fewest_falls(2, houses, [4, 0]) for houses in [1, 2, 3, 20]]
[None, 1, 0, 0]
>>> [fewest_fails(2, 1, [1, 5]), fewest_fails(2, 2, [1, 5]), houses_and_falls(3, [])]
[4, 2, [(1, 0)]]
""",
    "point 22": """
>>> from holesleft.risks import first_refused, fullest_weaving, kept_weaving, most_holes, refused_along, risk_of, worst_ending
>>> [most_holes(("again", 3), 4, 0, 0), most_holes(("lost", 2), 3, 5, 1), most_holes(("pool", "oldest"), 4, 9, 9)]
[9, 11, 3]
>>> [risk_of(("again", 2), 2, [("take", 0), ("take", 1)]), risk_of(("pool", "least"), 3, [("take", 2), ("fail", 2)])]
[2, 0]
>>> W = [("take", 0), ("take", 1), ("end", 1), ("end", 0), ("take", 1), ("end", 1)]
>>> [refused_along((("again", 2), 1), 2, W), kept_weaving((("again", 2), 1), 2, W)]
[[1], [('take', 0), ('end', 0), ('take', 1), ('end', 1)]]
>>> [refused_along((("again", 2), None), 2, W), first_refused((("pool", "least"), 0), 2, W)]
[[], 1]
""",
    "point 24": """
>>> from holesleft.readers import late_weaving, marks_along, missed_by, seen_below_marks
>>> W = [("take", 0), ("take", 1), ("end", 1), ("end", 0)]
>>> [marks_along(("again", 2), 2, W), missed_by(("again", 2), 2, W, [3, 4]), seen_below_marks(("again", 2), 2, W, [3, 4])]
[[0, 0, 0, 0, 1], [0], [[], [0]]]
>>> [late_weaving(("late",), 2, 1), late_weaving(("pool", "least"), 1, 1)]
[None, None]
""",
    "point 25": """
>>> from holesleft.sights import can_see, sight_fault
>>> [can_see(("pool", "least"), 2, [5, 0]), can_see(("pool", "least"), 2, [5, 0, 1]), can_see(("late",), 2, [3, 7])]
[True, False, True]
>>> [can_see(("again", 2), 2, [0, 1, 4]), sight_fault(("again", 2), 2, [0, 4]), sight_fault(("lost", 2), 1, [1, 5, 5])]
[True, 1, 2]
""",
    "point 27": """
>>> from holesleft.compare import parting_book, same_books, sizes_that_fit
>>> [same_books(("again", 5), 1, ("late",), 9), same_books(("pool", "least"), 3, ("again", 1), 3)]
[True, True]
>>> [parting_book(("again", 2), 3, ("again", 5), 2), parting_book(("lost", 2), 2, ("lost", 2), 3)]
[[2], [4, 0, 2]]
>>> [parting_book(("lost", 7), 1, ("again", 1), 4), sizes_that_fit([4, 0, 1, 5, 2], 12)]
[[4], [1, 2, 4]]
""",
    "point 29": """
>>> from holesleft.wishes import breaking_weaving, can_have, grants
>>> [grants((("again", 2), 0), 3, False, wish) for wish in ["early", "full", "rest", "ascending", "kept", "free"]]
[True, True, True, True, True, False]
>>> [grants((("again", 2), None), 1, True, "full"), grants((("pool", "newest"), 4), 5, True, "free")]
[False, True]
>>> [breaking_weaving((("late",), None), 2, False, "early"), breaking_weaving((("lost", 4), None), 1, False, "kept")]
[[('take', 0)], [('take', 0), ('fail', 0)]]
>>> [can_have(["early", "free", "rest"], 2, False), can_have(["early", "full", "kept"], 2, True)]
[False, True]
""",
    "point 32": """
>>> from holesleft.desks import BudgetDesk, Desk, ReadingDesk
>>> desk = Desk(("again", 2), 2)
>>> [desk.take(0), desk.take(1), desk.end(1), desk.holes, desk.fail(0), desk.take(0), desk.mark]
[0, 2, 2, [(0, 1)], None, 0, 0]
>>> [desk.undo(), desk.open_numbers, desk.try_events(("take", 0), ("end", 0)), desk.book, len(desk)]
[None, [None, None], [0, 0], [2], 4]
>>> reader = ReadingDesk(("pool", "least"), 2)
>>> [reader.take(0), reader.take(1), reader.end(1), reader.look(), reader.end(0), reader.look(), reader.missed]
[0, 1, 1, [1], 0, [], [0]]
>>> [reader.described(), reader.undo(), reader.undo(), reader.missed, len(reader)]
[['settled 2', 'holes 0', 'missed 1'], None, None, [], 3]
""",
    "point 32, an error": """
>>> from holesleft.desks import BudgetDesk
>>> desk = BudgetDesk(("again", 2), 2, 1)
>>> desk.take(0)
0
>>> desk.take(1)
raises Refused(amount=2)
""",
    "point 33": """
>>> from holesleft.texts import format_scheme, format_weaving, parse_numbers, parse_scheme, parse_weaving
>>> [format_scheme(("again", 12)), parse_scheme("pool newest"), parse_numbers("2 0 1"), parse_numbers("")]
['again 12', ('pool', 'newest'), [2, 0, 1], []]
>>> [format_weaving(2, [("take", 0), ("take", 1), ("fall", 1)]), parse_weaving(2, "t1 e1")]
['t0 t1 x1', [('take', 1), ('end', 1)]]
""",
    "point 33, an event that cannot follow": """
>>> from holesleft.texts import parse_scheme, parse_weaving
>>> parse_weaving(2, "t0 t1 t0")
raises InvalidText(word=2)
""",
    "point 33, a word that is missing": """
>>> from holesleft.texts import parse_scheme
>>> parse_scheme("lost")
raises InvalidText(word=1)
""",
    "point 34": """
>>> from holesleft.console import Console
>>> console = Console()
>>> rows = ["desk 2 again 2", "t 0", "t 1", "e 1", "holes", "look", "e 0", "missed", "mark", "weaving", "undo", "book"]
>>> [console.execute(row) for row in rows]
['ok', '0', '2', '2', '0-1', '2', '0', '0', '1', 't0 t1 e1 e0', 'ok', '2']
>>> [console.execute(row) for row in ["risk", "desk 2 1 pool least", "t 1", "lost", "f 1", "t 0", "weaving"]]
['2', 'ok', '0', 'none', 'ok', '0', 't1 f1 t0']
""",
}


def print_error(call):
    """Print the error of a call as the document does."""
    try:
        call()
    except HolesError as error:
        fields = ", ".join(f"{name}={value!r}" for name, value in vars(error).items())
        print(f"raises {error.__class__.__name__}({fields})")


def with_errors_printed(text):
    """Return examples in which each call that raises an error prints it."""
    rows = text.split("\n")
    for index, row in enumerate(rows):
        if row.startswith("raises "):
            rows[index - 1] = f">>> print_error(lambda: {rows[index - 1][4:]})"
    return "\n".join(rows)


class ExamplesTest(unittest.TestCase):
    def check(self, name, text):
        names = {"print_error": print_error}
        test = doctest.DocTestParser().get_doctest(with_errors_printed(text), names, name, None, 0)
        told = []
        result = doctest.DocTestRunner(verbose=False).run(test, out=told.append)
        self.assertEqual(result.failed, 0, "".join(told))
        self.assertEqual(result.attempted, text.count(">>>"))

    def test_the_examples_answer_as_printed(self):
        for name, text in EXAMPLES.items():
            with self.subTest(name):
                self.check(name, text)

    def test_the_examples_of_the_readme(self):
        with open(README, encoding="utf-8") as file:
            blocks = [block for block in file.read().split("```")[1::2] if ">>>" in block]
        self.assertEqual(len(blocks), 6)
        for block in blocks:
            self.check("README.md", block)


if __name__ == "__main__":
    unittest.main()
