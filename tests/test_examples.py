"""The examples of DOC.md [12] and [14], as printed there."""

import doctest
import unittest

EXAMPLES = {
    "point 12": """
>>> from holesleft.schemes import can_follow, deeds_of, is_scheme, is_weaving
>>> W = [("take", 0), ("take", 1), ("end", 1), ("fail", 0), ("take", 0), ("end", 0)]
>>> [is_scheme(("again", 2)), is_scheme(("pool", "last")), is_weaving(2, W), is_weaving(2, W[2:])]
[True, False, True, False]
>>> can_follow(2, W[:1])
[('end', 0), ('fail', 0), ('fall', 0), ('take', 1), ('fall', 1)]
>>> deeds_of(2, W)
[(0, 0, 3, 'fail'), (1, 1, 2, 'end'), (0, 4, 5, 'end')]
""",
    "point 14": """
>>> from holesleft.runs import book_of, frontier_of, holes_along, holes_of, lost_of, numbers_along, pending_of, pool_of, rests_of
>>> W = [("take", 0), ("take", 1), ("end", 1), ("fail", 0), ("take", 0), ("end", 0)]
>>> schemes = [("late",), ("lost", 2), ("again", 2), ("pool", "least")]
>>> [numbers_along(scheme, 2, W) for scheme in schemes[:2]]
[[None, None, 0, None, None, 1], [0, 2, 2, 0, 1, 1]]
>>> [numbers_along(scheme, 2, W) for scheme in schemes[2:]]
[[0, 2, 2, 0, 0, 0], [0, 1, 1, 0, 0, 0]]
>>> [book_of(scheme, 2, W) for scheme in schemes]
[[0, 1], [2, 1], [2, 0], [1, 0]]
>>> [frontier_of(scheme, 2, W) for scheme in schemes]
[2, 4, 4, 2]
>>> [lost_of(("lost", 2), 2, W), pending_of(("lost", 2), 2, W), holes_of(("lost", 2), 2, W), rests_of(("lost", 2), 2, W)]
[[(0, 0)], [(3, 3)], [(0, 0)], [None, (3, 3)]]
>>> [pending_of(("again", 2), 2, W), holes_along(("again", 2), 2, W), pool_of(("pool", "least"), 2, W[:4])]
[[(1, 1), (3, 3)], [0, 0, 2, 2, 2, 1], [0]]
""",
}


class ExamplesTest(unittest.TestCase):
    def test_the_examples_answer_as_printed(self):
        for name, text in EXAMPLES.items():
            with self.subTest(name):
                test = doctest.DocTestParser().get_doctest(text, {}, name, None, 0)
                told = []
                result = doctest.DocTestRunner(verbose=False).run(test, out=told.append)
                self.assertEqual(result.failed, 0, "".join(told))
                self.assertEqual(result.attempted, text.count(">>>"))


if __name__ == "__main__":
    unittest.main()
