"""The examples of the document, just as they stand there."""

import doctest
import unittest

KINDS = """
>>> from roadwaves.kinds import densities_with, flow_at, is_kind, lanes, lesser_kind, speeds_of, toll, toll_rate, top_flow, turned_kind
>>> zero, half, one, two, three, four = (0, 1), (1, 2), (1, 1), (2, 1), (3, 1), (4, 1)
>>> road = ((zero, zero), (one, one), (three, zero))
>>> [is_kind(road), is_kind(road[:2]), speeds_of(road), top_flow(road), flow_at(road, two), densities_with(road, half), densities_with(road, two)]
[True, False, ((1, 1), (-1, 2)), (1, 1), (1, 2), ((1, 2), (2, 1)), None]
>>> [toll(road, zero, two), toll(road, one, one), toll(road, (-1, 1), two), toll_rate(road, half), turned_kind(road)]
[(2, 1), (0, 1), (3, 1), (1, 2), (((0, 1), (0, 1)), ((2, 1), (1, 1)), ((3, 1), (0, 1)))]
>>> [lanes(road, road), lesser_kind(road, turned_kind(road))]
[(((0, 1), (0, 1)), ((2, 1), (2, 1)), ((6, 1), (0, 1))), (((0, 1), (0, 1)), ((3, 2), (3, 4)), ((3, 1), (0, 1)))]
"""

COUNTS = """
>>> from roadwaves.counts import are_never_above, area_between, counts_sum, greatest_counts, is_counts, later_counts, least_counts, number_of, when
>>> late, even, flat = ((zero, zero), (two, zero), (four, one)), ((zero, zero), (four, one)), ((zero, half),)
>>> [is_counts(late), is_counts(((zero, zero), (two, zero))), number_of(late, three), number_of(late, (9, 1)), when(late, half), when(late, two), when(flat, zero)]
[True, False, (1, 2), (1, 1), (3, 1), None, (0, 1)]
>>> [least_counts(late, even) == late, greatest_counts(late, even) == even, are_never_above(late, even), area_between(even, late, four), area_between(late, flat, two)]
[True, True, True, (1, 1), (-1, 1)]
>>> [counts_sum(late, even), least_counts(late, flat)]
[(((0, 1), (0, 1)), ((2, 1), (1, 2)), ((4, 1), (2, 1))), (((0, 1), (0, 1)), ((2, 1), (0, 1)), ((3, 1), (1, 2)))]
>>> [greatest_counts(flat, late), later_counts(even, one)]
[(((0, 1), (1, 2)), ((3, 1), (1, 2)), ((4, 1), (1, 1))), (((0, 1), (0, 1)), ((1, 1), (0, 1)), ((5, 1), (1, 1)))]
"""


class Examples(unittest.TestCase):
    def run_examples(self, text):
        told = []
        examples = doctest.DocTestParser().get_doctest(text, {}, "DOC.md", "DOC.md", 0)
        found = doctest.DocTestRunner(verbose=False).run(examples, out=told.append)
        self.assertEqual(0, found.failed, "".join(told))
        self.assertEqual(text.count(">>> "), found.attempted)

    def test_kinds(self):
        self.run_examples(KINDS)

    def test_counts(self):
        # They use the names that the examples ahead of them in the document have set.
        self.run_examples(KINDS + COUNTS)


if __name__ == "__main__":
    unittest.main()
