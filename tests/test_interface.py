"""The names of the document's interface: each one is defined in its own module."""

import importlib
import inspect
import unittest

FUNCTIONS = {
    "webs": "make_web adjacent neighbour_rows first_loop check_simple image renamed induced",
    "pieces": "components pieces is_connected check_connected distances sides",
    "renamings": "is_renaming find_renaming inverse_row",
    "products": "unit sum_webs product product_of power_of",
    "shapes": "path ring star full full_with_loops",
    "texts": "write_web read_web",
    "codes": "bit_of code_of web_of_code",
    "sorts": "all_renamings sort_of sort_row count_symmetries",
    "catalogue": "all_webs catalogue",
    "measures": "measure join_measures degree_row join_degrees",
    "ways": "walk_lengths product_distance count_pieces",
    "walks": "walk_row join_walks",
    "turns": "swap_row spread_row complement",
    "homs": "is_hom homs count_homs count_one_to_one",
    "partings": "partings parting_sign gathered",
    "injective": "one_to_one_by_homs homs_by_one_to_one",
    "telling": "hom_profile telling_web",
    "powers": "map_number map_row power",
    "currying": "curried uncurried parted_row",
    "ranks": "first_hom leads same_rank",
    "cores": "core_nodes core fold_row",
    "rings": "odd_ring can_cancel",
    "twists": "twist_fault twisted twists twist_sorts",
    "cancelling": "telling_pair twist_row answers layers_agree",
    "roots": "direct_root direct_quotients",
    "relations": "distance_rows relation chain",
    "classes": "edge_classes",
    "boxes": "box_layer box_layers box_coordinates box_factors is_box_prime",
    "twins": "twin_classes thin blown_up",
    "skeletons": "dispenser skeleton",
    "groups": "good_sets direct_groups",
}
GENERATORS = "all_renamings all_webs homs partings twists good_sets".split()
ARGUMENTS = {
    "one_to_one_by_homs": "(x, a)",
    "homs_by_one_to_one": "(x, a)",
    "hom_profile": "(a, limit, *, loops=False)",
    "telling_web": "(a, b)",
    "map_number": "(base_size, row)",
    "map_row": "(base_size, length, number)",
    "power": "(base, exponent)",
    "curried": "(x_size, a_size, b_size, row)",
    "uncurried": "(x_size, a_size, b_size, row)",
    "parted_row": "(b_size, c_size, a_size)",
    "first_hom": "(x, a)",
    "leads": "(x, a)",
    "same_rank": "(a, b)",
    "core_nodes": "(web)",
    "core": "(web)",
    "fold_row": "(web)",
    "odd_ring": "(web)",
    "can_cancel": "(web)",
    "twist_fault": "(web, row)",
    "twisted": "(web, row)",
    "twists": "(web)",
    "twist_sorts": "(web)",
    "telling_pair": "(web)",
    "twist_row": "(a, row, c)",
    "answers": "(a, c)",
    "layers_agree": "(a, b, rows)",
    "direct_root": "(web, degree)",
    "direct_quotients": "(web, factor)",
    "distance_rows": "(web)",
    "relation": "(web, first, second)",
    "chain": "(web, first, second)",
    "edge_classes": "(web)",
    "box_layer": "(web, *classes, start=0)",
    "box_layers": "(web)",
    "box_coordinates": "(web)",
    "box_factors": "(web)",
    "is_box_prime": "(web)",
    "twin_classes": "(web)",
    "thin": "(web)",
    "blown_up": "(web, sizes)",
    "dispenser": "(web, first, second)",
    "skeleton": "(web)",
    "good_sets": "(web)",
    "direct_groups": "(web)",
}
VALUES = [
    ("webs", "MAX_NODES", 64), ("renamings", "MAX_RENAMED", 9), ("sorts", "MAX_SORTED", 5), ("walks", "MAX_WALK", 12),
    ("homs", "MAX_MAPS", 4096), ("partings", "MAX_PARTED", 6), ("twists", "MAX_TWISTED", 6),
    ("products", "KINDS", ("box", "strong", "direct", "levels")),
]


class InterfaceTest(unittest.TestCase):
    def each_function(self):
        for module, names in FUNCTIONS.items():
            for name in names.split():
                yield module, name, getattr(importlib.import_module(f"webnumbers.{module}"), name)

    def test_each_function_is_defined_in_its_module(self):
        for module, name, function in self.each_function():
            self.assertEqual((f"webnumbers.{module}", name), (function.__module__, function.__qualname__))

    def test_what_yields_values(self):
        found = [name for _, name, function in self.each_function() if inspect.isgeneratorfunction(function)]
        self.assertEqual(sorted(GENERATORS), sorted(found))

    def test_arguments(self):
        for _, name, function in self.each_function():
            if name in ARGUMENTS:
                self.assertEqual(ARGUMENTS[name], str(inspect.signature(function)))

    def test_values(self):
        for module, name, value in VALUES:
            self.assertEqual(value, getattr(importlib.import_module(f"webnumbers.{module}"), name))


if __name__ == "__main__":
    unittest.main()
