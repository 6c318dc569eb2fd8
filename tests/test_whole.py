"""Over the whole program: nothing is printed, what is handed in is not changed, all that is told is new ([1], [3])."""

import contextlib
import copy
import importlib
import io
import unittest

from etasure.desk import Desk
from tests.helpers import Case, fraction
from tests.test_interface import MODULES

JACOBI = [(1, {1: -8, 2: 20, 4: -8}, ()), (-1, {1: 8, 2: -4}, ()), (-16, {2: -4, 4: 8}, ())]
PLAIN = [(1, quotient, ()) for _, quotient, _ in JACOBI]
DELTA = [(1, {1: 24}, ())]
FIVE = ("part", 5, ((1, -1), (5, 5)))
MIXED = [(1, {}, {1: -11, 2: -1}), (-1, {}, {2: -11, 1: -1}), (-1, {}, {}), (-11, {5: 6, 1: -6}, {})]
ODD, APART = [(2, (0,), 1)], [(1, (0,), 2)]
TWO, TURN = (1, 0, 2, 1), (1, 0, 5, 1)
# For each function of the interface one or more calls.
CALLS = {
    "rows": {"is_row": [([1],)], "row_plus": [([1, 2], [3])], "row_times": [([1, 2], [3, 4])],
             "row_inverse": [([1, 2],)], "row_power": [([1, 2], 0), ([1, 2], 1), ([1, 2], -3)],
             "row_spread": [([1, 2], 1), ([1, 2], 3)], "row_section": [([1, 2, 3], 1, 0), ([1, 2, 3], 2, 1)],
             "row_woven": [([[1, 2]],), ([[1], [2, 3]],)]},
    "products": {"product_row": [([1, 1], 4)], "powers_of": [([1, 1, 2],)], "weighted_sums": [([1, 1], 4)]},
    "sparse": {"triple_sum": [(3, 1, -1, 7)], "triple_product": [(3, 1, 1, 7)], "quintuple_sum": [(5, 1, 9)],
               "quintuple_product": [(5, 2, 9)]},
    "matrices": {"is_matrix": [(TWO,)], "is_cusp": [((1, 0),)], "composed": [(TWO, TURN)], "inverted": [(TWO,)],
                 "upright": [((-1, 0, -2, -1),)], "moved": [(TWO, (1, 0))]},
    "words": {"matrix_of": [((1, 2),)], "word_of": [(TWO,)], "chain_of": [(TWO,)]},
    "cosets": {"index_of": [(6,)], "point_for": [(6, 2, 3)], "all_points": [(6,)], "point_of": [(6, TWO)],
               "matrix_at": [(6, (0, 1))]},
    "cusps": {"all_cusps": [(6,)], "width_of": [(6, (1, 2))], "cusp_of": [(6, (5, 4))],
              "carried": [(6, (1, 2), (3, 2))], "turn_at": [(6, (1, 2))], "fixed_cusp": [(6, (1, 3, 0, 1))]},
    "genus": {"elliptic": [(5,)], "cusp_count": [(5,)], "genus_of": [(11,)], "rank_of": [(11,)]},
    "groups": {"generators": [(11,)], "is_path": [(2, ((1, 3),))], "along": [(2, ((1, 3),))], "path_of": [(2, TWO)]},
    "conjugates": {"conjugator": [(2, (1, 1, 0, 1), (1, 1, 0, 1))]},
    "quotients": {"is_quotient": [({1: 1},)], "pairs_of": [({2: 1, 1: 1},)], "weight_of": [({2: 1, 1: 1},)],
                  "start_of": [({2: 1},)], "least_level": [({2: 1},)], "joined": [({2: 1, 1: 1}, {}),
                                                                                  ({2: 1}, {2: -1})],
                  "raised": [({2: 1, 1: 1}, 1)], "spread_out": [({2: 1, 1: 1}, 1)], "row_of": [({2: 1, 1: 1}, 5)]},
    "roots": {"kronecker": [(3, 7)], "dedekind": [(3, 7)], "whole_root": [(TWO,)], "root_of": [(TWO,)]},
    "multipliers": {"multiplier": [({2: 1, 1: 1}, TWO)]},
    "classes": {"alike": [(2, {1: 1}, {2: 1})], "parting": [(2, {1: 1}, {2: 1})], "class_order": [(2, {1: 1, 2: -1})],
                "plain_sign": [(5, {5: 5, 1: -1})]},
    "orders": {"order_at": [({2: 1}, 4)], "all_orders": [(6, {2: 1})], "local_orders": [(6, {2: 1})],
               "is_holomorphic": [({2: 1},)]},
    "lattice": {"quotients_above": [(2, 1, {2: (0, 1), 1: (0, 1)})], "holomorphic_ones": [(2, 1)]},
    "units": {"with_orders": [(2, {2: (0, 1), 1: (1, 1)})], "unit_basis": [(11,)], "in_units": [(11, {11: -12, 1: 12})],
              "unit_with": [(11, {11: 1, 1: -1})], "unit_classes": [(11,)]},
    "eisenstein": {"divisor_sum": [(6, 1)], "eisenstein_row": [(4, 5)]},
    "pieces": {"is_piece": [(FIVE,)], "piece_weight": [(FIVE,)], "piece_level": [(FIVE,)], "piece_sign": [(FIVE,)],
               "piece_start": [(FIVE,)], "piece_row": [(FIVE, 3)], "piece_least": [(FIVE, 1)]},
    "terms": {"is_term": [(PLAIN[0],)], "term_level": [(PLAIN[0],)], "term_twice": [(PLAIN[0],)],
              "term_start": [(PLAIN[0],)], "term_row": [(PLAIN[0], 3)], "term_least": [(PLAIN[0], 2)],
              "term_multiplier": [(DELTA[0], TWO)], "term_times": [(PLAIN[0], (1, {}, ())), (PLAIN[0], PLAIN[1])]},
    "sums": {"is_sum": [(JACOBI,)], "sum_level": [(JACOBI,)], "coefficients": [(JACOBI[:2], (3, 1))],
             "collected": [(JACOBI,)], "sum_times": [(JACOBI, [(1, {}, ())]), (JACOBI, DELTA)],
             "slope": [({4: 1, 2: 1},)]},
    "alikeness": {"same_class": [(4, PLAIN[0], PLAIN[1])], "parted_by": [(4, PLAIN[0], DELTA[0])],
                  "class_places": [(4, JACOBI + DELTA)], "class_bound": [(4, JACOBI)]},
    "equal": {"first_exponent": [(4, JACOBI[:2])], "is_zero": [(4, JACOBI)], "first_unlike": [(4, JACOBI, DELTA)],
              "sum_paper": [(4, JACOBI)], "is_sum_paper": [(4, JACOBI, ((0, 1, 2),))]},
    "relations": {"relations": [(4, PLAIN)], "free_places": [(4, PLAIN)], "sum_rank": [(4, PLAIN)],
                  "combination": [(4, PLAIN[2], PLAIN[:2])], "against": [(4, PLAIN[2], PLAIN[:1])]},
    "divisible": {"content": [(4, PLAIN)], "balance": [(4, PLAIN)], "is_balance": [(4, PLAIN, {(0, 1): 1})],
                  "first_undivided": [(4, PLAIN, 5)], "first_incongruent": [(4, PLAIN[:1], PLAIN[1:2], 16)]},
    "wholes": {"is_whole": [(4, PLAIN, [(1, 16), (-1, 16), (0, 1)])], "whole_rows": [(4, PLAIN)], "gaps": [(4, PLAIN)]},
    "modulo": {"relations_modulo": [(4, PLAIN, 2)], "unit_modulo": [(9,)],
               "lifted": [(DELTA[0], 5, 0), (DELTA[0], 5, 2)],
               "meeting": [(5, [(1, {}, (("four", 1),)), (-1, {}, ())], 5)],
               "first_not_modulo": [(5, [(1, {}, (("four", 1),)), (-1, {}, ())], 5)]},
    "progress": {"progression": [({1: -1}, 5, 4, 3)], "fits": [({1: -1}, 5, 4)], "fitting": [({1: -1}, 5)],
                 "progression_term": [({1: -1}, 5, 4)], "content_of": [({1: -1}, 5, 4)],
                 "last_needed": [({1: -1}, 7, 5)], "first_not": [({1: -1}, 5, 4, 25)],
                 "parted": [(({1: -1}, 5, 4), ({1: -1}, 5, 4))]},
    "ramanujan": {"spelled": [({1: -1}, 7, 5)], "is_spelling": [({1: -1}, 5, 4, [((5, 1), {5: 5, 1: -6})])]},
    "towers": {"tower": [(7, 1)], "tower_content": [(7, 1)], "tower_step": [(5, 0, [1, 2])]},
    "hecke": {"sign_of": [(1, DELTA)], "hecke_row": [(1, DELTA, 2, 5)], "reach_of": [(1, DELTA)]},
    "multiplied": {"is_cuspidal": [(1, DELTA)], "first_broken": [(2, DELTA)], "coefficient_at": [(1, DELTA, 12)]},
    "forms": {"is_form": [((1, 2),)], "form_row": [((1, 2), 5)], "form_term": [((1, 2),)], "least_missed": [((1, 2),)],
              "gaps_of": [((1, 2), 9)]},
    "divided": {"by_divisors": [((1, 1, 1, 1),)], "divided_count": [((1, 1, 1, 1), 6)]},
    "periods": {"is_period_product": [(5, {1: 1})], "folded": [(5, 8)], "period_start": [(5, {2: 1, 1: 1})],
                "period_row": [(5, {2: 1, 1: 1}, 5)], "stretched": [(5, {2: 1, 1: 1}, 1), (5, {2: 1, 1: 3}, 2)],
                "refined": [(5, {2: 1, 1: 1}, 1), (5, {2: 1, 1: 3}, 2)], "whole_period": [(6,)],
                "period_moved": [(5, {2: 1, 1: 2}, (1, 0, 0, 1)), (5, {2: 1, 1: 2}, (2, 1, 5, 3))],
                "period_order": [(5, {2: 1, 1: 2}, (1, 5))]},
    "narrow": {"is_narrow": [(5, TURN)], "narrow_index": [(5,)], "narrow_cusps": [(5,)], "narrow_generators": [(5,)],
               "narrow_path": [(5, TURN)]},
    "mixed": {"is_mixed": [(5, MIXED[0])], "mixed_start": [(5, MIXED[0])], "mixed_row": [(5, MIXED[0], 4)],
              "mixed_multiplier": [(5, MIXED[0], TURN)], "mixed_order": [(5, MIXED[0], (1, 2))],
              "same_sort": [(5, 5, MIXED[0], MIXED[3])]},
    "identities": {"sort_places": [(5, 5, MIXED)], "sort_bound": [(5, 5, MIXED)], "first_mixed": [(5, 5, MIXED[:2])],
                   "mixed_relations": [(5, 5, MIXED)], "three_terms": [(11, 4, 2, 1, 0)]},
    "partitions": {"is_partition": [((2, 1),)], "partitions_of": [(5,)], "mirrored": [((2, 1),)],
                   "franklin": [((4, 1),)]},
    "families": {"is_family": [(ODD,)], "is_in": [(ODD, (3, 1))], "family_row": [(ODD, 5)], "family_powers": [(ODD,)],
                 "first_unlike_count": [(ODD, [(3, (0,), 1)])]},
    "pairings": {"paired": [(ODD, APART, (3, 3, 1))], "family_quotient": [(APART,)]},
    "texts": {"ratio_text": [((1, 2),)], "quotient_text": [({2: 1, 1: 1},)], "matrix_text": [(TWO,)],
              "term_text": [(PLAIN[0],)], "sum_text": [(JACOBI,)], "read_ratio": [("1/2",)],
              "read_quotient": [("1^2*3^4",)], "read_matrix": [("1,0,2,1",)], "read_term": [("1 [1^2]",)],
              "read_sum": [("1 [1^2] + 1 [1^2]",)]},
}


def names_of(listed):
    return [entry.split("(")[0] for entry in listed.split()]


def parts_of(thing):
    """All lists and dicts in what is told."""
    if isinstance(thing, dict):
        return [thing] + [part for key in thing for part in parts_of(thing[key])]
    if isinstance(thing, (list, tuple)):
        inner = [part for one in thing for part in parts_of(one)]
        return [thing] + inner if isinstance(thing, list) else inner
    return []


def spoil(thing):
    for part in parts_of(thing):
        part.clear()


class TestWhole(Case):

    def all_calls(self):
        for module, functions in CALLS.items():
            for name, calls in functions.items():
                for arguments in calls:
                    yield getattr(importlib.import_module(f"etasure.{module}"), name), arguments

    def test_all_functions_are_called(self):
        self.assertEqual({module: list(functions) for module, functions in CALLS.items()},
                         {module: names_of(listed) for module, listed in MODULES.items()})

    def test_nothing_is_printed_or_changed(self):
        told = io.StringIO()
        with contextlib.redirect_stdout(told), contextlib.redirect_stderr(told):
            for function, arguments in self.all_calls():
                kept = copy.deepcopy(arguments)
                function(*arguments)
                self.assertEqual(arguments, kept, function.__name__)
            desk = Desk()
            desk.say("let a 1 [one]")
            desk.say("show a")
            desk.say("what")
        self.assertEqual(told.getvalue(), "")

    def test_all_that_is_told_is_new(self):
        for function, arguments in self.all_calls():
            kept = copy.deepcopy(arguments)
            told = function(*arguments)
            expected = copy.deepcopy(told)
            mine = [id(part) for part in parts_of(arguments)]
            self.assertFalse([part for part in parts_of(told) if id(part) in mine], function.__name__)
            spoil(told)
            self.assertEqual(arguments, kept, function.__name__)
            self.assert_same(function(*arguments), expected)

    def test_keys_ascend(self):
        met = 0
        for function, arguments in self.all_calls():
            for part in parts_of(function(*arguments)):
                if isinstance(part, dict) and part:
                    met += 1
                    is_ratios = isinstance(next(iter(part)), tuple)
                    self.assertEqual(list(part), sorted(part, key=fraction if is_ratios else None), function.__name__)
        self.assertGreater(met, 30)

    def test_calls_by_name(self):
        for function, arguments in self.all_calls():
            names = function.__code__.co_varnames[:function.__code__.co_argcount]
            told = function(*arguments)
            self.assert_same(function(**dict(zip(names, arguments))), told)


if __name__ == "__main__":
    unittest.main()
