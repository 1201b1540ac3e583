"""The interface: each name stands in its module, with its arguments by their names."""

import importlib
import inspect
import re
import unittest

# As the interface lists them; a class has the arguments of its constructor.
LISTED = {
    "ratios": """
        is_whole(thing, low=None, high=None) is_ratio(thing) is_arm_size(thing) is_weight(thing)
        is_factor(thing) make_ratio(top, bottom=1) plus(one, two) minus(one, two) times(one, two)
        over(one, two) negative(one) compare(one, two) sum_of(ratios) least_of(ratios)
        greatest_of(ratios) floor_of(one) ratio_text(one)
    """,
    "places": """
        is_place(thing) check_place(place) check_places(places) check_leg(legs, leg)
        shift_place(place, by) turn_place(place) mirror_place(place) stretch_place(place, size)
        cross_of(one, two, three) in_row(places)
    """,
    "scales": """
        plain_of(scale) Lever(out, above=None, inward=None) Scale(levers, legs, places)
        Plain(places, factors)
    """,
    "arms": """
        arms_of(scale) check_arm(scale, arm) arm_size(scale, arm) way_of(scale, leg)
        on_lever(scale, lever) with_arm(scale, arm, size) with_place(scale, leg, place)
        with_factor(plain, leg, size)
    """,
    "loads": """
        check_loads(loads) total_of(loads) moment_of(loads) centre_of(loads) one_load(loads)
    """,
    "leverways": """
        lengthened(scale, lever, size) cut_lever(scale, lever) set_between(scale, leg, out, inward)
    """,
    "along": """
        shifted(scale, by) turned(scale) mirrored(scale) stretched(scale, size)
        shifted_loads(loads, by) turned_loads(loads) mirrored_loads(loads)
        stretched_loads(loads, size)
    """,
    "scaletext": "scale_text(scale, loads=()) read_scale(text)",
    "hulls": """
        corner_points(points) hull_of(places) sides_of(places) side_beyond(places, place)
        is_within(places, place) bearing_legs(places, place) one_way(places, place)
        Side(normal, least, legs)
    """,
    "pushes": """
        check_pushes(legs, pushes) pushes_fault(places, loads, pushes) showing_of(scale, pushes)
        lean_pushes(places, loads) mix_of(places, loads, pushes) share_range(places, place, leg)
    """,
    "skins": """
        height_at(plane, place) range_of(scale, loads) range_fault(scale, loads, told)
        lower_at(scale, place) upper_at(scale, place) skin_pieces(scale, *, upper=False)
        knots_along(scale, start, goal, *, upper=False) pushes_for(scale, loads, showing)
        Tips(side) Range(least, greatest, low_pushes, high_pushes, low_plane, high_plane)
        Piece(legs, plane)
    """,
    "swaps": """
        is_swap(places, thing) plain_swaps(places) least_swaps(places) free_legs(places)
        split_swap(places, numbers)
    """,
    "settled": """
        is_settled(scale) settled_of(scale) settled_fault(scale, told)
        settling_factor(scale, leg) Settled(plane) Unsettled(swap, loads, pushes, other_pushes)
    """,
    "doubts": """
        doubt_at(scale, place) greatest_doubt(scale) doubt_fault(scale, told)
        Doubt(size, place, swap, plane)
    """,
    "even": """
        is_even(scale) uneven_of(scale) error_range(scale, factor) best_factor(scale)
        outside_error(scale, factor, error) Uneven(leg, other)
    """,
    "monomials": """
        check_values(letters, values) power_in(monomial, letter) size_at(monomial, values)
        multiply(monomial, other) divide(monomial, other) Monomial(number, powers=())
    """,
    "castings": """
        monomial_of(casting, leg) scale_at(casting, values) fix_letter(casting, letter, size)
        common_letters(casting) alike_legs(casting) Casting(scale, rows)
    """,
    "always": """
        always_even(casting) always_settled(casting) always_even_fault(casting, told)
        always_settled_fault(casting, told) spoiling_arms(scale, wish)
        FailsEven(at_values, leg, other) FailsSettled(at_values, swap)
    """,
    "somewhere": """
        even_somewhere(casting) somewhere_fault(casting, told) NeverEven(numbers, power)
    """,
    "stretches": """
        check_stretches(casting, stretches) factor_range(casting, stretches, leg)
        quotient_range(casting, stretches, leg, other) showing_range(casting, stretches, loads)
        greatest_showing(casting, stretches, loads)
        Ends(least, greatest, low_values, high_values) Most(showing, at_values, pushes)
    """,
    "within": """
        even_within(casting, stretches) settled_within(casting, stretches)
        outside_always(casting, stretches, factor, error) BeyondAlways(at_values, leg)
    """,
    "laying": """
        check_lot(loads, lot) margins_of(places, own, loads, lot) tips_with(places, own, loads, lot)
        beyond_side(places, loads, side) least_margins(places, own, loads)
        any_order(places, own, loads) tipping_fault(places, own, loads, tipping)
        Own(weight, place) Tipping(side, lot)
    """,
    "steady": """
        least_own(places, loads, place) greatest_growth(places, own, loads)
        greatest_further(places, own, loads, place) safe_places(places, own, loads, weight)
        best_own(places, loads) best_fault(places, loads, best)
        NoOwn(side, lot) BestOwn(weight, place, shares)
    """,
    "orders": """
        some_moves(places, own, loads, start, goal, *, taking=False)
        moves_fault(places, own, loads, start, goal, moves, *, taking=False)
        stuck_fault(places, own, loads, start, goal, stuck, *, taking=False)
        some_order(places, own, loads) orders_many(places, own, loads)
        laid_before(places, own, loads) holding_lots(places, own, loads) Stuck(lots)
    """,
    "fits": "check_tests(places, tests) tests_fault(scale, tests)",
    "told": "told_by(places, tests) Told(sure, amounts, fitting, others) Clash(amounts)",
    "plans": """
        check_plan(places, plan) tells(places, plan, row) tells_fault(places, plan, row, told)
        sure_legs(places, plan) Sure(amounts) Alike(first, second, first_pushes, second_pushes)
    """,
    "evenplans": """
        even_plan(places, plan) masked_fault(places, plan, told) Masked(unlike, pushes)
    """,
    "leasttests": "least_tests(places, pool, goal)",
    "hidden": """
        hidden_legs(places) free_ways(scale, leg) factor_left(scale, tests, leg) Left(low, high)
    """,
    "cores": """
        shows_at(scale, leg) showing_legs(scale) core_of(scale) unlike_at(scale, other)
        Shows(place, low, high)
    """,
    "marks": """
        check_ties(count, ties) blocks_of(count, ties) sure_axles(count, ties)
        sure_sum(count, ties, low, high) trail_fault(count, ties, low, high, trail)
        unsure_fault(count, ties, low, high, unsure) needless_ties(count, ties)
        fewest_ties(count, ties, sums) Trail(links) Unsure(one, other)
    """,
    "carts": """
        stand_at(cart, length, shift) stops_of(cart, length) sure_lengths(cart)
        Cart(axles, tread=(0, 1))
    """,
    "cartbounds": """
        check_tellings(count, tellings) tellings_of(count, ties, showings, slack)
        fitting_weights(count, tellings) ring_fault(count, tellings, no_cart)
        sum_bounds(count, tellings, low, high) weights_of_sum(count, tellings, low, high, amount)
        limit_verdict(count, tellings, low, high, limit) next_tie(count, tellings, ties)
        needless_tellings(count, tellings) suspect_tellings(count, tellings)
        NoCart(ring) SumBounds(least, most, least_trail, most_trail)
    """,
    "groups": """
        check_showings(groups, showings) showings_of(groups, pushes) borne_load(groups, pushes)
        Groups(scale, rows)
    """,
    "sums": """
        totals_that_fit(groups, showings) pushes_of_total(groups, showings, total)
        total_told(groups, showings) sure_total(groups) spread_of(groups)
        Totals(least, greatest, light, heavy) Spread(quotient, group, low, high)
    """,
    "found": """
        centre_corners(groups, showings) pushes_of_centre(groups, showings, place)
        centre_range(groups, showings, direction) found_load(groups, showings)
        alike_loads(groups, showings) sure_along(groups, direction)
        CentreRange(least, greatest, low_pushes, high_pushes) OtherLoads(one, other)
    """,
    "groupings": """
        all_groupings(scale, many) best_groupings(scale, many)
        groupings_along(scale, many, direction) BestGroupings(quotient, groupings)
    """,
    "loadsets": """
        mix_range(groups, loads, weights) showing_corners(groups, loads)
        pushes_that_show(groups, loads, showings) lots_that_fit(groups, pool, showings)
        sure_loads(groups, pool, showings)
        MixRange(least, greatest, low_pushes, high_pushes) SureLoads(always, never)
    """,
    "shown": """
        shown_of(showing, step) weights_behind(scale, step, shown)
        weights_at(scale, place, step, shown) totals_behind(groups, step, rows)
        shown_range(scale, loads, step) sure_shown(scale, weight, step) Behind(least, end)
    """,
    "inparts": """
        parts_range(showing, step, many) whole_range(step, rows)
        parts_for(showing, step, many, total)
    """,
    "pans": """
        twice_weighed(poise, other) compare_twice(poise, other, weight) sum_twice(rows)
        Pans(left, right) TwiceWeighed(square, quotient)
    """,
    "readings": """
        check_readings(many, rows) case_fault(many, rows, case) fitting_case(many, rows)
        PansCase(squares, quotient) NoCase(rows)
    """,
    "spans": """
        square_span(many, rows, load) arms_span(many, rows) quotient_span(many, rows, load, other)
        case_of_square(many, rows, load, square) Span(least, greatest)
    """,
    "tares": "tare_span(many, rows, load)",
    "edits": """
        check_edits(weighing, edits) weighing_after(weighing, edits) Weighing(scale, own, loads)
    """,
    "wishes": """
        check_wishes(weighing, wishes) broken_wish(weighing, wishes)
        broken_fault(weighing, wishes, broken) Broken(index, why)
    """,
    "sizes": """
        sizes_for(weighing, slot, wishes) single_mends(weighing, wishes)
        Sizes(low, high) Excluding(first, second)
    """,
    "mends": """
        find_mends(weighing, pool, wishes) mends_fault(weighing, pool, wishes, mends)
        find_spoilers(weighing, pool, wishes) Mends(least, losses) Spoiler(choice, added, broken)
    """,
    "bench": "Bench(weighing)",
}
# Classes that keep what they are given and check nothing.
RESULTS = {
    "hulls": "Side", "skins": "Tips Range Piece", "settled": "Settled Unsettled",
    "doubts": "Doubt", "even": "Uneven", "always": "FailsEven FailsSettled",
    "somewhere": "NeverEven", "stretches": "Ends Most", "within": "BeyondAlways",
    "laying": "Tipping", "steady": "NoOwn BestOwn", "orders": "Stuck", "told": "Told Clash",
    "plans": "Sure Alike", "evenplans": "Masked", "hidden": "Left", "cores": "Shows",
    "marks": "Trail Unsure", "cartbounds": "NoCart SumBounds", "sums": "Totals Spread",
    "found": "CentreRange OtherLoads", "groupings": "BestGroupings",
    "loadsets": "MixRange SureLoads", "shown": "Behind", "pans": "TwiceWeighed",
    "readings": "PansCase NoCase", "spans": "Span", "wishes": "Broken", "sizes": "Sizes Excluding",
    "mends": "Mends Spoiler",
}
# The methods, len and iteration among them, and the properties that are listed for classes.
METHODS = {
    "scales.Scale": "__len__(self)", "scales.Plain": "__len__(self)",
    "carts.Cart": "mirrored(self) shifted(self, amount) coupled(self, other, distance) __len__(self)",
    "groups.Groups": "group_of(self, leg) __len__(self) __iter__(self)",
    "pans.Pans": "sinks(self, left_weight, right_weight) poise_for(self, weight, pan) exchanged(self)",
    "bench.Bench": """
        put(self, edit) take_back(self, number) broken_now(self, wishes) shown_range(self) trial(self)
        tried(self, call) __len__(self) __iter__(self)
    """,
}
PROPERTIES = {
    "scales.Scale": "factors", "scales.Plain": "factors", "castings.Casting": "letters",
    "laying.Own": "as_load", "carts.Cart": "span", "groups.Groups": "factors",
    "edits.Weighing": "borne", "mends.Mends": "needed",
}
GENERATORS = ("orders.holding_lots", "groupings.all_groupings", "sizes.single_mends")
# What is told of each object of a class that is no result, by attributes of these names.
ATTRIBUTES = {
    "scales.Lever": "out above inward", "scales.Scale": "levers legs places",
    "scales.Plain": "places", "monomials.Monomial": "number powers", "castings.Casting": "scale rows",
    "laying.Own": "weight place", "carts.Cart": "axles tread", "groups.Groups": "scale rows places",
    "pans.Pans": "left right quotient", "edits.Weighing": "scale own loads",
    "bench.Bench": "start weighing standing log",
}


def named(name):
    """What stands under a name such as "scales.Scale"."""
    file, word = name.split(".")
    return getattr(importlib.import_module(f"wherelaid.{file}"), word)


class Interface(unittest.TestCase):

    def test_names_and_arguments(self):
        for file, text in LISTED.items():
            module = importlib.import_module(f"wherelaid.{file}")
            for name, told in re.findall(r"(\w+)\(((?:[^()]|\(\))*)\)", " ".join(text.split())):
                thing = getattr(module, name)
                self.assertEqual(str(inspect.signature(thing)), f"({told})", name)
                self.assertEqual(thing.__module__, f"wherelaid.{file}", name)
                self.assertEqual(thing.__name__, name)

    def test_classes_stand_alone_and_have_their_own_methods(self):
        for file, text in LISTED.items():
            module = importlib.import_module(f"wherelaid.{file}")
            for name in re.findall(r"\b[A-Z]\w*(?=\()", text):
                one = getattr(module, name)
                self.assertEqual("__eq__" in vars(one), name != "Bench")
                self.assertEqual(one.__bases__, (object,))

    def test_methods_and_properties(self):
        for name, text in METHODS.items():
            for method, told in re.findall(r"(\w+)(\([^)]*\))", text):
                self.assertEqual(str(inspect.signature(vars(named(name))[method])), told, name)
        for name, text in PROPERTIES.items():
            for word in text.split():
                self.assertIsInstance(vars(named(name))[word], property, name)

    def test_attributes_are_set_on_each_object(self):
        one, spot, other = (1, 1), ((0, 1), (0, 1)), ((1, 1), (0, 1))
        lever = named("scales.Lever")(one)
        scale = named("scales.Scale")([lever], [(0, one), (0, one)], [spot, other])
        own = named("laying.Own")(one, spot)
        weighing = named("edits.Weighing")(scale, own, ())
        made = {
            "scales.Lever": lever, "scales.Scale": scale, "laying.Own": own, "edits.Weighing": weighing,
            "scales.Plain": named("scales.plain_of")(scale), "bench.Bench": named("bench.Bench")(weighing),
            "monomials.Monomial": named("monomials.Monomial")(one), "pans.Pans": named("pans.Pans")(one, one),
            "castings.Casting": named("castings.Casting")(scale, ()), "carts.Cart": named("carts.Cart")([one]),
            "groups.Groups": named("groups.Groups")(scale, [[0], [1]]),
        }
        for name, text in ATTRIBUTES.items():
            self.assertLessEqual(set(text.split()), set(vars(made[name])), name)
        listed = {f"{file}.{name}" for file, text in LISTED.items() for name in re.findall(r"\b[A-Z]\w*(?=\()", text)}
        results = {f"{file}.{name}" for file, names in RESULTS.items() for name in names.split()}
        self.assertEqual(listed, results | set(ATTRIBUTES))

    def test_generators(self):
        for name in GENERATORS:
            self.assertTrue(inspect.isgeneratorfunction(named(name)), name)

    def test_results_keep_the_very_things(self):
        for file, names in RESULTS.items():
            module = importlib.import_module(f"wherelaid.{file}")
            for name in names.split():
                one = getattr(module, name)
                wanted = tuple(inspect.signature(one).parameters)
                things = [[index] for index in range(len(wanted))]
                made = one(*things)
                self.assertEqual(tuple(vars(made)), wanted)
                for thing, word in zip(things, wanted):
                    self.assertIs(getattr(made, word), thing)
                    self.assertIs(getattr(one(**dict(zip(wanted, things))), word), thing)

    def test_results_are_equal_by_class_and_things(self):
        classes = [named(f"{file}.{name}") for file, names in RESULTS.items() for name in names.split()]
        for one in classes:
            many = len(inspect.signature(one).parameters)
            made = one(*[(index,) for index in range(many)])
            self.assertIs(made == one(*[(index,) for index in range(many)]), True)
            self.assertIs(made != one(*[(index,) for index in range(many)]), False)
            for changed in range(many):
                other = one(*[(index, changed)[:1 + (index == changed)] for index in range(many)])
                self.assertIs(made == other, False)
                self.assertIs(made != other, True)
            for unlike in classes:
                if unlike is not one and len(inspect.signature(unlike).parameters) == many:
                    self.assertFalse(made == unlike(*[(index,) for index in range(many)]))


if __name__ == "__main__":
    unittest.main()
