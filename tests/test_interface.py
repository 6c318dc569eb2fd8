"""The interface: names, parameters, where they are defined, and which module imports from which ([3], [5], [6])."""

import ast
import importlib
import inspect
import pathlib
import unittest

from etasure import desk

PACKAGE = pathlib.Path(__file__).resolve().parent.parent / "etasure"

# The modules of the interface, in its order, with their functions and parameters; errors and desk are told below.
MODULES = {
    "rows": "is_row(thing) row_plus(one,other) row_times(one,other) row_inverse(row) row_power(row,k) row_spread(row,m)"
            " row_section(row,m,t) row_woven(rows)",
    "products": "product_row(powers,most) powers_of(row) weighted_sums(powers,most)",
    "sparse": "triple_sum(m,s,sign,most) triple_product(m,s,sign,most) quintuple_sum(m,s,most)"
              " quintuple_product(m,s,most)",
    "matrices": "is_matrix(thing) is_cusp(thing) composed(one,other) inverted(matrix) upright(matrix)"
                " moved(matrix,cusp)",
    "words": "matrix_of(word) word_of(matrix) chain_of(matrix)",
    "cosets": "index_of(level) point_for(level,c,d) all_points(level) point_of(level,matrix) matrix_at(level,pair)",
    "cusps": "all_cusps(level) width_of(level,cusp) cusp_of(level,cusp) carried(level,one,other) turn_at(level,cusp)"
             " fixed_cusp(level,matrix)",
    "genus": "elliptic(level) cusp_count(level) genus_of(level) rank_of(level)",
    "groups": "generators(level) is_path(level,thing) along(level,path) path_of(level,matrix)",
    "conjugates": "conjugator(level,one,other)",
    "quotients": "is_quotient(thing) pairs_of(quotient) weight_of(quotient) start_of(quotient) least_level(quotient)"
                 " joined(one,other) raised(quotient,k) spread_out(quotient,m) row_of(quotient,most)",
    "roots": "kronecker(a,n) dedekind(d,c) whole_root(matrix) root_of(matrix)",
    "multipliers": "multiplier(quotient,matrix)",
    "classes": "alike(level,one,other) parting(level,one,other) class_order(level,quotient) plain_sign(level,quotient)",
    "orders": "order_at(quotient,c) all_orders(level,quotient) local_orders(level,quotient) is_holomorphic(quotient)",
    "lattice": "quotients_above(level,twice,lows) holomorphic_ones(level,twice)",
    "units": "with_orders(level,wanted) unit_basis(level) in_units(level,quotient) unit_with(level,wanted)"
             " unit_classes(level)",
    "eisenstein": "divisor_sum(n,k) eisenstein_row(weight,most)",
    "pieces": "is_piece(thing) piece_weight(piece) piece_level(piece) piece_sign(piece) piece_start(piece)"
              " piece_row(piece,most) piece_least(piece,c)",
    "terms": "is_term(thing) term_level(term) term_twice(term) term_start(term) term_row(term,most)"
             " term_least(term,c) term_multiplier(term,matrix) term_times(one,other)",
    "sums": "is_sum(thing) sum_level(terms) coefficients(terms,last) collected(terms) sum_times(one,other)"
            " slope(quotient)",
    "alikeness": "same_class(level,one,other) parted_by(level,one,other) class_places(level,terms)"
                 " class_bound(level,terms)",
    "equal": "first_exponent(level,terms) is_zero(level,terms) first_unlike(level,one,other) sum_paper(level,terms)"
             " is_sum_paper(level,terms,thing)",
    "relations": "relations(level,terms) free_places(level,terms) sum_rank(level,terms)"
                 " combination(level,target,terms) against(level,target,terms)",
    "divisible": "content(level,terms) balance(level,terms) is_balance(level,terms,thing)"
                 " first_undivided(level,terms,u) first_incongruent(level,one,other,u)",
    "wholes": "is_whole(level,terms,ratios) whole_rows(level,terms) gaps(level,terms)",
    "modulo": "relations_modulo(level,terms,p) unit_modulo(u) lifted(term,u,j) meeting(level,terms,u)"
              " first_not_modulo(level,terms,u)",
    "progress": "progression(quotient,m,t,most) fits(quotient,m,t) fitting(quotient,m) progression_term(quotient,m,t)"
                " content_of(quotient,m,t) last_needed(quotient,m,t) first_not(quotient,m,t,u) parted(one,other)",
    "ramanujan": "spelled(quotient,m,t) is_spelling(quotient,m,t,thing)",
    "towers": "tower(prime,k) tower_content(prime,k) tower_step(prime,k,row)",
    "hecke": "sign_of(level,terms) hecke_row(level,terms,p,most) reach_of(level,terms)",
    "multiplied": "is_cuspidal(level,terms) first_broken(level,terms) coefficient_at(level,terms,n)",
    "forms": "is_form(thing) form_row(form,most) form_term(form) least_missed(form) gaps_of(form,most)",
    "divided": "by_divisors(form) divided_count(form,n)",
    "periods": "is_period_product(period,thing) folded(period,g) period_start(period,product)"
               " period_row(period,product,most) stretched(period,product,k) refined(period,product,k)"
               " whole_period(period) period_moved(period,product,matrix) period_order(period,product,cusp)",
    "narrow": "is_narrow(level,matrix) narrow_index(level) narrow_cusps(level) narrow_generators(level)"
              " narrow_path(level,matrix)",
    "mixed": "is_mixed(period,thing) mixed_start(period,term) mixed_row(period,term,most)"
             " mixed_multiplier(period,term,matrix) mixed_order(period,term,cusp) same_sort(level,period,one,other)",
    "identities": "sort_places(level,period,terms) sort_bound(level,period,terms) first_mixed(level,period,terms)"
                  " mixed_relations(level,period,terms) three_terms(period,a,b,c,d)",
    "partitions": "is_partition(thing) partitions_of(n) mirrored(partition) franklin(partition)",
    "families": "is_family(thing) is_in(family,partition) family_row(family,most) family_powers(family)"
                " first_unlike_count(one,other)",
    "pairings": "paired(one,other,partition) family_quotient(family)",
    "texts": "ratio_text(ratio) quotient_text(quotient) matrix_text(matrix) term_text(term) sum_text(terms)"
             " read_ratio(text) read_quotient(text) read_matrix(text) read_term(text) read_sum(text)",
}
ORDER = """errors rows products sparse matrices words cosets cusps genus groups conjugates quotients roots multipliers
classes orders lattice units eisenstein pieces terms sums alikeness equal relations divisible wholes modulo progress
ramanujan towers hecke multiplied forms divided periods narrow mixed identities partitions families pairings texts
desk""".split()


def imported_modules(name):
    """The modules of the package that a module imports from."""
    tree = ast.parse((PACKAGE / f"{name}.py").read_text())
    return [node.module.split(".")[1] for node in tree.body
            if isinstance(node, ast.ImportFrom) and node.module.startswith("etasure.")]


def reached_modules(name):
    """The same, with what those import from."""
    reached = imported_modules(name)
    for near in reached:
        reached.extend([far for far in imported_modules(near) if far not in reached])
    return reached


class TestInterface(unittest.TestCase):

    def test_functions_and_parameters(self):
        for name, listed in MODULES.items():
            module = importlib.import_module(f"etasure.{name}")
            for entry in listed.split():
                function_name, parameters = entry[:-1].split("(")
                function = getattr(module, function_name)
                self.assertTrue(inspect.isfunction(function))
                self.assertEqual(function.__module__, f"etasure.{name}")
                self.assertEqual(list(inspect.signature(function).parameters), parameters.split(","))
                for parameter in inspect.signature(function).parameters.values():
                    self.assertIs(parameter.kind, inspect.Parameter.POSITIONAL_OR_KEYWORD)

    def test_all_modules_are_there(self):
        self.assertEqual(["errors", *MODULES, "desk"], ORDER)
        for name in ORDER:
            self.assertTrue((PACKAGE / f"{name}.py").is_file(), name)

    def test_desk(self):
        self.assertTrue(inspect.isclass(desk.Desk))
        self.assertEqual(desk.Desk.__module__, "etasure.desk")
        self.assertEqual(list(inspect.signature(desk.Desk).parameters), [])
        self.assertIn("say", vars(desk.Desk))
        self.assertEqual(list(inspect.signature(desk.Desk.say).parameters), ["self", "line"])

    def test_order_of_modules(self):
        for path in sorted(PACKAGE.glob("*.py")):
            for near in reached_modules(path.stem):
                if path.stem in ORDER and near in ORDER:
                    self.assertLess(ORDER.index(near), ORDER.index(path.stem), f"{path.stem} imports {near}")

    def test_the_package_itself_defines_nothing(self):
        tree = ast.parse((PACKAGE / "__init__.py").read_text())
        self.assertEqual([type(node) for node in tree.body], [ast.Expr])

    def test_importing_prints_nothing_and_reads_nothing(self):
        for path in sorted(PACKAGE.glob("*.py")):
            tree = ast.parse(path.read_text())
            names = {node.id for node in ast.walk(tree) if isinstance(node, ast.Name)}
            self.assertFalse(names & {"print", "open", "input", "eval", "exec"}, path.name)


if __name__ == "__main__":
    unittest.main()
