"""The interface: each name stands in its module, with its arguments by their names."""

import importlib
import inspect
import unittest

# As the interface lists them; a class has the arguments of its constructor.
LISTED = {
    "ratios": """
        is_whole(thing, low=None, high=None) is_ratio(thing) is_arm_size(thing) is_weight(thing)
        is_factor(thing) make_ratio(top, bottom=1) plus(one, two) minus(one, two) times(one, two)
        over(one, two) negative(one) compare(one, two) sum_of(ratios) least_of(ratios)
        greatest_of(ratios) floor_of(one) ratio_text(one)
    """,
    "places": """
        is_place(thing) check_place(place) check_places(places) check_leg(legs, leg)
        shift_place(place, by) turn_place(place) mirror_place(place) stretch_place(place, size)
        cross_of(one, two, three) in_row(places)
    """,
    "scales": """
        plain_of(scale) Lever(out, above=None, inward=None) Scale(levers, legs, places)
        Plain(places, factors)
    """,
    "arms": """
        arms_of(scale) check_arm(scale, arm) arm_size(scale, arm) way_of(scale, leg)
        on_lever(scale, lever) with_arm(scale, arm, size) with_place(scale, leg, place)
        with_factor(plain, leg, size)
    """,
    "loads": """
        check_loads(loads) total_of(loads) moment_of(loads) centre_of(loads) one_load(loads)
    """,
    "leverways": """
        lengthened(scale, lever, size) cut_lever(scale, lever) set_between(scale, leg, out, inward)
    """,
    "along": """
        shifted(scale, by) turned(scale) mirrored(scale) stretched(scale, size)
        shifted_loads(loads, by) turned_loads(loads) mirrored_loads(loads)
        stretched_loads(loads, size)
    """,
}


class Interface(unittest.TestCase):

    def test_names_and_arguments(self):
        for file, text in LISTED.items():
            module = importlib.import_module(f"wherelaid.{file}")
            for row in " ".join(text.split()).split(") "):
                name, told = row.rstrip(")").split("(")
                thing = getattr(module, name)
                self.assertEqual(str(inspect.signature(thing)), f"({told})", name)
                self.assertEqual(thing.__module__, f"wherelaid.{file}", name)

    def test_methods_stand_in_their_own_class(self):
        from wherelaid.scales import Lever, Plain, Scale
        for one in (Lever, Plain, Scale):
            self.assertIn("__eq__", vars(one))
            self.assertEqual(one.__bases__, (object,))
        for one in (Plain, Scale):
            self.assertIn("__len__", vars(one))
            self.assertIsInstance(vars(one)["factors"], property)


if __name__ == "__main__":
    unittest.main()
