"""The names of the document's interface: each one is defined in its own module."""

import importlib
import inspect
import unittest

from webnumbers.desk import Desk

FUNCTIONS = {
    "webs": "make_web adjacent neighbour_rows first_loop check_simple image renamed induced",
    "pieces": "components pieces is_connected check_connected distances sides",
    "renamings": "is_renaming find_renaming inverse_row",
    "products": "unit sum_webs product product_of power_of",
    "shapes": "path ring star full full_with_loops",
    "texts": "write_web read_web",
    "codes": "bit_of code_of web_of_code",
    "sorts": "all_renamings sort_of sort_row count_symmetries",
    "catalogue": "all_webs catalogue",
    "measures": "measure join_measures degree_row join_degrees",
    "ways": "walk_lengths product_distance count_pieces",
    "walks": "walk_row join_walks",
    "turns": "swap_row spread_row complement",
    "homs": "is_hom homs count_homs count_one_to_one",
    "partings": "partings parting_sign gathered",
    "injective": "one_to_one_by_homs homs_by_one_to_one",
    "telling": "hom_profile telling_web",
    "powers": "map_number map_row power",
    "currying": "curried uncurried parted_row",
    "ranks": "first_hom leads same_rank",
    "cores": "core_nodes core fold_row",
    "rings": "odd_ring can_cancel",
    "twists": "twist_fault twisted twists twist_sorts",
    "cancelling": "telling_pair twist_row answers layers_agree",
    "roots": "direct_root direct_quotients",
    "relations": "distance_rows relation chain",
    "classes": "edge_classes",
    "boxes": "box_layer box_layers box_coordinates box_factors is_box_prime",
    "twins": "twin_classes thin blown_up",
    "skeletons": "dispenser skeleton",
    "groups": "good_sets direct_groups",
    "directs": "full_part direct_factors direct_coordinates is_direct_prime",
    "strongs": "with_loops without_loops strong_factors strong_coordinates is_strong_prime",
    "lots": "greatest_lots lots_with joined_lots lot_size untied_size",
    "levels": "levels_splits",
    "monomials": "is_monomial join_monomials part_monomials root_monomial common_monomial monomial_key",
    "terms": "add_terms multiply_terms divide_terms subtract_terms",
    "dividing": "root scaled_split",
    "measuring": "measure_poly web_quotient web_root common_factor",
    "expressions": "parse write_tree names_in",
    "identities": "expand identity_holds counterexample",
    "equations": "solve",
    "splits": "splits full_splits web_splits",
    "desk": "replay",
    "reports": "report",
}
# The class values, attributes of objects, properties, static methods and methods of each class, and its arguments.
CLASSES = {
    "polys": ("Poly", "(terms)", {
        "value": {"MAX_POWER": 16},
        "property": "total height lead",
        "staticmethod": {"of_number": "(number)", "of_prime": "(number)"},
        "method": {"power": "(self, exponent)"},
        "sign": "__add__ __radd__ __mul__ __rmul__ __pow__ __floordiv__ __call__ __str__",
    }),
    "books": ("PrimeBook", "(kind)", {
        "property": "primes",
        "method": {"place_of": "(self, web)", "read": "(self, web)", "build": "(self, poly)"},
        "sign": "__iter__",
    }),
    "desk": ("Desk", "(kind)", {
        "value": {"MAX_ENTRIES": 20},
        "property": "journal",
        "method": {
            "set_web": "(self, name, web)",
            "set_formula": "(self, name, text)",
            "set_equation": "(self, name, left, right)",
            "drop": "(self, name)",
            "built": "(self, name)",
            "form_of": "(self, name)",
            "used_by": "(self, name)",
            "steps": "(self)",
            "undo": "(self)",
            "redo": "(self)",
            "run_lines": "(self, lines)",
        },
        "sign": "__getitem__ __setitem__ __contains__ __iter__",
    }),
}
GENERATORS = "all_renamings all_webs homs partings twists good_sets lots_with".split()
ARGUMENTS = {
    "one_to_one_by_homs": "(x, a)",
    "homs_by_one_to_one": "(x, a)",
    "hom_profile": "(a, limit, *, loops=False)",
    "telling_web": "(a, b)",
    "map_number": "(base_size, row)",
    "map_row": "(base_size, length, number)",
    "power": "(base, exponent)",
    "curried": "(x_size, a_size, b_size, row)",
    "uncurried": "(x_size, a_size, b_size, row)",
    "parted_row": "(b_size, c_size, a_size)",
    "first_hom": "(x, a)",
    "leads": "(x, a)",
    "same_rank": "(a, b)",
    "core_nodes": "(web)",
    "core": "(web)",
    "fold_row": "(web)",
    "odd_ring": "(web)",
    "can_cancel": "(web)",
    "twist_fault": "(web, row)",
    "twisted": "(web, row)",
    "twists": "(web)",
    "twist_sorts": "(web)",
    "telling_pair": "(web)",
    "twist_row": "(a, row, c)",
    "answers": "(a, c)",
    "layers_agree": "(a, b, rows)",
    "direct_root": "(web, degree)",
    "direct_quotients": "(web, factor)",
    "distance_rows": "(web)",
    "relation": "(web, first, second)",
    "chain": "(web, first, second)",
    "edge_classes": "(web)",
    "box_layer": "(web, *classes, start=0)",
    "box_layers": "(web)",
    "box_coordinates": "(web)",
    "box_factors": "(web)",
    "is_box_prime": "(web)",
    "twin_classes": "(web)",
    "thin": "(web)",
    "blown_up": "(web, sizes)",
    "dispenser": "(web, first, second)",
    "skeleton": "(web)",
    "good_sets": "(web)",
    "direct_groups": "(web)",
    "full_part": "(web)",
    "direct_factors": "(web)",
    "direct_coordinates": "(web)",
    "is_direct_prime": "(web)",
    "with_loops": "(web)",
    "without_loops": "(web)",
    "strong_factors": "(web)",
    "strong_coordinates": "(web)",
    "is_strong_prime": "(web)",
    "greatest_lots": "(web)",
    "lots_with": "(web, *nodes, least=0)",
    "joined_lots": "(second_size, first, second)",
    "lot_size": "(web)",
    "untied_size": "(web)",
    "levels_splits": "(web)",
    "is_monomial": "(value)",
    "join_monomials": "(first, second)",
    "common_monomial": "(first, second)",
    "part_monomials": "(first, second)",
    "root_monomial": "(monomial, degree)",
    "monomial_key": "(monomial)",
    "add_terms": "(first, second)",
    "multiply_terms": "(first, second)",
    "divide_terms": "(first, second)",
    "subtract_terms": "(first, second)",
    "root": "(poly, degree)",
    "scaled_split": "(poly)",
    "measure_poly": "(book, poly, modulus)",
    "web_quotient": "(book, a, b)",
    "web_root": "(book, web, degree)",
    "common_factor": "(book, a, b)",
    "parse": "(text)",
    "write_tree": "(tree)",
    "names_in": "(tree)",
    "expand": "(tree, values)",
    "identity_holds": "(left, right)",
    "counterexample": "(left, right)",
    "solve": "(coefficients, target)",
    "splits": "(p)",
    "full_splits": "(p)",
    "web_splits": "(book, web)",
    "replay": "(kind, lines)",
    "report": "(desk)",
}
VALUES = [
    ("webs", "MAX_NODES", 64), ("renamings", "MAX_RENAMED", 9), ("sorts", "MAX_SORTED", 5), ("walks", "MAX_WALK", 12),
    ("homs", "MAX_MAPS", 4096), ("partings", "MAX_PARTED", 6), ("twists", "MAX_TWISTED", 6),
    ("products", "KINDS", ("box", "strong", "direct", "levels")), ("lots", "MAX_LOTS", 16), ("terms", "MAX_TERMS", 64),
    ("terms", "MAX_DIGITS", 120), ("terms", "MAX_EXPONENT", 64),
]


class InterfaceTest(unittest.TestCase):
    def each_function(self):
        for module, names in FUNCTIONS.items():
            for name in names.split():
                yield module, name, getattr(importlib.import_module(f"webnumbers.{module}"), name)

    def test_each_function_is_defined_in_its_module(self):
        for module, name, function in self.each_function():
            self.assertEqual((f"webnumbers.{module}", name), (function.__module__, function.__qualname__))

    def test_what_yields_values(self):
        found = [name for _, name, function in self.each_function() if inspect.isgeneratorfunction(function)]
        self.assertEqual(sorted(GENERATORS), sorted(found))
        self.assertTrue(inspect.isgeneratorfunction(Desk.steps))

    def test_arguments(self):
        for _, name, function in self.each_function():
            if name in ARGUMENTS:
                self.assertEqual(ARGUMENTS[name], str(inspect.signature(function)))

    def test_values(self):
        for module, name, value in VALUES:
            self.assertEqual(value, getattr(importlib.import_module(f"webnumbers.{module}"), name))

    def test_classes(self):
        for module, (name, arguments, parts) in CLASSES.items():
            kind = getattr(importlib.import_module(f"webnumbers.{module}"), name)
            self.assertEqual((f"webnumbers.{module}", name), (kind.__module__, kind.__qualname__))
            self.assertEqual(arguments, str(inspect.signature(kind)))
            # Each part is defined in the class itself.
            own = vars(kind)
            for word, value in parts.get("value", {}).items():
                self.assertEqual(value, own[word])
            for word in parts.get("property", "").split():
                self.assertIsInstance(own[word], property)
            for word, told in parts.get("staticmethod", {}).items():
                self.assertIsInstance(own[word], staticmethod)
                self.assertEqual(told, str(inspect.signature(own[word].__func__)))
            for word, told in parts.get("method", {}).items():
                self.assertEqual(told, str(inspect.signature(own[word])))
            for word in parts.get("sign", "").split():
                self.assertTrue(inspect.isfunction(own[word]))


if __name__ == "__main__":
    unittest.main()
