"""The examples of the document, just as they stand there."""

import doctest
import unittest

KINDS = """
>>> from roadwaves.kinds import densities_with, flow_at, is_kind, lanes, lesser_kind, speeds_of, toll, toll_rate, top_flow, turned_kind
>>> zero, half, one, two, three, four = (0, 1), (1, 2), (1, 1), (2, 1), (3, 1), (4, 1)
>>> road = ((zero, zero), (one, one), (three, zero))
>>> [is_kind(road), is_kind(road[:2]), speeds_of(road), top_flow(road), flow_at(road, two), densities_with(road, half), densities_with(road, two)]
[True, False, ((1, 1), (-1, 2)), (1, 1), (1, 2), ((1, 2), (2, 1)), None]
>>> [toll(road, zero, two), toll(road, one, one), toll(road, (-1, 1), two), toll_rate(road, half), turned_kind(road)]
[(2, 1), (0, 1), (3, 1), (1, 2), (((0, 1), (0, 1)), ((2, 1), (1, 1)), ((3, 1), (0, 1)))]
>>> [lanes(road, road), lesser_kind(road, turned_kind(road))]
[(((0, 1), (0, 1)), ((2, 1), (2, 1)), ((6, 1), (0, 1))), (((0, 1), (0, 1)), ((3, 2), (3, 4)), ((3, 1), (0, 1)))]
"""

SCENES = """
>>> from roadwaves.pictures import counts_at, fronts, picture, seen_from, states_at
>>> from roadwaves.scenes import all_cars, begun_anew, comings_number, is_scene, scene_of, start_number
>>> from roadwaves.ways import number_at, on_road, waiting_at, way_number, way_to
>>> empty, coming, red = ((two, zero),), (zero, ((four, half),)), (one, one, zero, two, zero)
>>> light = scene_of(road, two, empty, coming, (red,))
>>> [is_scene(light), light[4] == (red,), all_cars(light), comings_number(light, three), start_number(light, one)]
[True, True, (2, 1), (3, 2), (0, 1)]
>>> [number_at(light, one, three), number_at(light, one, four), number_at(light, (1, 3), (13, 3)), number_at(light, two, (6, 1)), on_road(light, three)]
[(0, 1), (1, 1), (2, 1), (2, 1), (3, 2)]
>>> way = (("start", zero, zero), ("step", one, one), ("ride", one, three), ("step", one, four))
>>> [way_number(light, way), way_number(light, way_to(light, one, four)), way_number(light, (("start", zero, three), ("step", one, four)))]
[(1, 1), (1, 1), (3, 2)]
>>> [counts_at(light, one), picture(light, three)]
[(((0, 1), (0, 1)), ((3, 1), (0, 1)), ((5, 1), (2, 1))), (((0, 1), (3, 5), (1, 2), (1, 2)), ((3, 5), (1, 1), (3, 1), (0, 1)), ((1, 1), (2, 1), (0, 1), (0, 1)))]
>>> states_at(light, one)
(((0, 1), (1, 1), (0, 1), (0, 1), (0, 1)), ((1, 1), (3, 1), (0, 1), (3, 1), (0, 1)), ((3, 1), (5, 1), (1, 1), (1, 1), (1, 1)), ((5, 1), None, (0, 1), (0, 1), (0, 1)))
>>> [fronts(light, four), begun_anew(light, three)[2:]]
[(((2, 5), (-1, 5)), ((1, 2), (-1, 2))), ((((3, 5), (1, 2)), ((2, 5), (3, 1)), ((1, 1), (0, 1))), ((0, 1), (((1, 1), (1, 2)),)), ())]
>>> leader, crowd = scene_of(road, two, empty, coming, ((zero, zero, half, four, zero),)), scene_of(road, two, empty, (two, ()), ())
>>> [number_at(leader, one, two), number_at(leader, one, three), number_at(leader, one, four), number_at(crowd, zero, one), waiting_at(crowd, one), seen_from(leader, zero, zero, half, two)]
[(0, 1), (3, 4), (3, 2), (1, 1), (1, 1), (((0, 1), (0, 1)), ((2, 1), (0, 1)))]
"""

CARS = """
>>> from roadwaves.cars import coming, course, last_out, passing, travel_time
>>> stop = (two, one, zero, two, zero)
>>> street = scene_of(road, four, ((four, half),), (zero, (((6, 1), half),)), (stop,))
>>> [passing(street, (0, 1), (2, 1)), passing(street, (-1, 1), (1, 1)), coming(street, (1, 1)), travel_time(street, (0, 1)), last_out(street)]
[(7, 2), (0, 1), (2, 1), (11, 2), (10, 1)]
>>> course(street, (0, 1))
(((0, 1), (0, 1)), ((11, 6), (11, 6)), ((10, 3), (11, 6)), ((11, 2), (4, 1)))
>>> from roadwaves.jams import is_jammed, jam_reach, jammed_moments, jammed_places, last_jam
>>> [jammed_places(street, (2, 1)), jammed_moments(street, (8, 5)), jammed_moments(street, (2, 1)), jammed_places(street, (5, 1)), last_jam(street), jam_reach(street)]
[(((9, 5), (2, 1)),), (((3, 1), (19, 5)),), (((1, 1), (3, 1)),), (), (13, 3), (4, 3)]
>>> narrow = (road, four, ((four, zero),), (two, ()), ((two, zero, zero, (8, 1), half),))
>>> [jam_reach(narrow), last_jam(narrow), jammed_places(narrow, three)]
[(4, 3), (6, 1), (((3, 2), (2, 1)),)]
>>> from roadwaves.bars import bars_from, longest_bar, needless_bars, never_later, parting_view
>>> shorter, slow = stop[:3] + (one, zero), stop[:4] + (one,)
>>> [needless_bars(road, four, (stop,)), needless_bars(road, four, (slow,)), never_later(road, four, (shorter,), (stop,)), never_later(road, four, (stop,), (shorter,)), bars_from(road, four, (stop,), (2, 1)) == (((2, 1), (0, 1), (0, 1), (1, 1), (0, 1)),), parting_view(road, four, (shorter,), (stop,))]
[(), (0,), True, False, True, None]
>>> [longest_bar(street, 0, (10, 1), 10), longest_bar(street, 0, (9, 1), 10)]
[20, None]
>>> from roadwaves.compares import bare_density, never_less, parting_scene
>>> wide = road[:2] + ((four, zero),)
>>> [never_less(wide, road), never_less(road, wide), bare_density(wide, road), parting_scene(road, road, (4, 1))]
[True, False, None, None]
>>> from roadwaves.cells import cell_run, cell_step, cells_fit, true_step, unlike_row
>>> evenly = ((0, 1), (-1, 1), (-2, 1), (-3, 1), (-4, 1))
>>> [cells_fit(road, (1, 1), (2, 1)), cells_fit(road, (1, 1), (1, 1)), cell_step(road, (1, 1), (2, 1), evenly), true_step(road, (1, 1), (2, 1), evenly), cell_run(road, (1, 1), (2, 1), evenly, 2), unlike_row(road, (1, 1), (2, 1))]
[True, False, ((0, 1), (-1, 1)), ((0, 1), (-1, 1)), (), None]
>>> from roadwaves.waits import held_back, latest_comings, time_spent, waited_ahead
>>> [latest_comings(street), time_spent(street), waited_ahead(street), held_back(street)]
[(((0, 1), (0, 1)), ((3, 2), (0, 1)), ((3, 1), (3, 2)), ((6, 1), (3, 1))), (18, 1), (0, 1), (9, 8)]
>>> from roadwaves.marks import marked_counts
>>> marked_counts(street, (((0, 1), (1, 1)),), (2, 1))
(((0, 1), (0, 1)), ((7, 2), (0, 1)), ((9, 2), (1, 1)))
"""

COUNTS = """
>>> from roadwaves.counts import are_never_above, area_between, counts_sum, greatest_counts, is_counts, later_counts, least_counts, number_of, when
>>> late, even, flat = ((zero, zero), (two, zero), (four, one)), ((zero, zero), (four, one)), ((zero, half),)
>>> [is_counts(late), is_counts(((zero, zero), (two, zero))), number_of(late, three), number_of(late, (9, 1)), when(late, half), when(late, two), when(flat, zero)]
[True, False, (1, 2), (1, 1), (3, 1), None, (0, 1)]
>>> [least_counts(late, even) == late, greatest_counts(late, even) == even, are_never_above(late, even), area_between(even, late, four), area_between(late, flat, two)]
[True, True, True, (1, 1), (-1, 1)]
>>> [counts_sum(late, even), least_counts(late, flat)]
[(((0, 1), (0, 1)), ((2, 1), (1, 2)), ((4, 1), (2, 1))), (((0, 1), (0, 1)), ((2, 1), (0, 1)), ((3, 1), (1, 2)))]
>>> [greatest_counts(flat, late), later_counts(even, one)]
[(((0, 1), (1, 2)), ((3, 1), (1, 2)), ((4, 1), (1, 1))), (((0, 1), (0, 1)), ((1, 1), (0, 1)), ((5, 1), (1, 1)))]
"""

RIMS = """
>>> from roadwaves.rims import barring_pair, can_be, inner_number, inner_start, is_rims, rims_of
>>> inflow, shut_gate = ((zero, zero), (four, two)), ((zero, zero),)
>>> through, shut = (road, two, empty, inflow, late, four), (road, two, empty, inflow, shut_gate, four)
>>> early = (road, two, empty, inflow, ((zero, zero), (one, zero), (four, (3, 2))), four)
>>> [is_rims(through), is_rims(through[:5]), can_be(through), can_be(shut), can_be(early), barring_pair(shut)]
[True, False, True, True, False, None]
>>> [inner_number(through, one, two), inner_start(through, one, two), inner_number(shut, one, two), inner_number(shut, two, four), inner_number(through, two, four)]
[(1, 2), ((0, 1), (1, 1)), (1, 2), (0, 1), (1, 1)]
>>> [rims_of(light, four) == shut, can_be(rims_of(light, (6, 1))), inner_number(rims_of(light, four), one, three)]
[True, True, (1, 1)]
"""

BOOKS = """
>>> from roadwaves.books import barring_weights, cars_range, clashing_sights, fitting_numbers, fitting_rims, is_fitting, needless_sights, number_range
>>> book = (road, two, four, ((four, zero, one),), ((two, zero, zero), (two, zero, one)), ((two, zero, zero),))
>>> seen, broad, few = ("out", two, four, one, one), ("in", zero, four, zero, four), ("in", zero, four, zero, one)
>>> [is_fitting(book, (seen, broad), (half, zero, half, zero)), is_fitting(book, (seen, broad), ((1, 4), zero, half, zero)), number_range(book, (seen, broad), one, two)]
[True, False, ((1, 2), (1, 1))]
>>> [cars_range(book, (seen,), "in", zero, two), cars_range(book, (seen,), "out", two, three), needless_sights(book, (seen, broad)), needless_sights(book, (seen,))]
[((1, 1), (2, 1)), ((1, 2), (1, 2)), (1,), ()]
>>> [fitting_numbers(book, (seen, few)), clashing_sights(book, (seen, few)), clashing_sights(book, (seen, broad)), barring_weights(book, (seen, broad)), can_be(fitting_rims(book, (seen, broad)))]
[None, (0, 1), (), None, True]
"""

CONSOLES = """
>>> from roadwaves.consoles import Console
>>> from roadwaves.workshops import Workshop
>>> shop = Workshop()
>>> console = Console(shop)
>>> [console.say("put main: 0/1 0/1; 1/1 1/1; 3/1 0/1 | 2/1 | 2/1 0/1 | 0/1; 4/1 1/2 | 1/1 1/1 0/1 2/1 0/1"), shop.named("main") == light, console.say("names")]
['done', True, 'main']
>>> [console.say("number main: 1/1 4/1"), console.say("passing main: 1/2 1/1"), console.say("jams main: 3/1"), console.say("jams main: 6/1")]
['1/1', '7/2', '3/5 1/1', 'none']
>>> shop.wish(("out", "main", (7, 1)))
>>> [len(shop), shop.wishes, console.say("undo"), console.say("drop main"), shop.names]
[2, (('out', 'main', (7, 1)),), 'done', 'done', ()]
"""


class Examples(unittest.TestCase):
    def run_examples(self, text):
        told = []
        examples = doctest.DocTestParser().get_doctest(text, {}, "DOC.md", "DOC.md", 0)
        found = doctest.DocTestRunner(verbose=False).run(examples, out=told.append)
        self.assertEqual(0, found.failed, "".join(told))
        self.assertEqual(text.count(">>> "), found.attempted)

    def test_kinds(self):
        self.run_examples(KINDS)

    # The following ones use the names that the examples ahead of them in the document have set.

    def test_scenes_ways_and_pictures(self):
        self.run_examples(KINDS + SCENES)

    def test_cars_jams_bars_kinds_compared_cells_waits_and_marks(self):
        self.run_examples(KINDS + SCENES + CARS)

    def test_counts(self):
        self.run_examples(KINDS + COUNTS)

    def test_rims_and_books(self):
        self.run_examples(KINDS + SCENES + COUNTS + RIMS + BOOKS)

    def test_consoles_and_workshops(self):
        self.run_examples(KINDS + SCENES + CONSOLES)


if __name__ == "__main__":
    unittest.main()
