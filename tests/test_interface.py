"""The names and arguments of the interface, each defined where it is listed."""

import ast
import importlib
import inspect
import os
import unittest

TOP = os.path.dirname(os.path.dirname(os.path.abspath(__file__)))
INTERFACE = """
base.polys: is_polynomial(numbers); trimmed(numbers); degree(one); value(one, at); plus(one, two); times(one, two);
    scaled(one, number); raised(one, k)
base.tables: value_at(table, at); product(one, two); number_rank(numbers); determinant(numbers); reach(table);
    rank(table); point(table); multiple_of(table)
models.model: is_model(model); powers(model); exact_table(model); meetings(model); exact_laws(model);
    sized_laws(model); sizes_of(model)
models.parts: check_book(book); nodes(book, name); flatten(book, name)
models.texts: write_book(book); read_book(text); law_text(told); read_law(line)
ranks.assign: entry(model, i, quantity); exact_rank(model, columns); falling(model, columns); value(model, columns);
    is_assignment(model, rows, columns, pairs); assignment(model); rank(model); least_sets(model)
ranks.papers: rank_paper(model); check_rank(model, number, paper)
ranks.needless: relations(model); demand(model, multipliers); check_relation(model, multipliers)
blocks.graph: arcs(model, rows, columns, pairs); left_out(model, rows, columns, pairs); exits(model, rows, columns,
    pairs); feeds(model, rows, columns, pairs, i)
blocks.tied: tied(model); loose(model); tied_paper(model, quantity); loose_paper(model, quantity); check_tied(model,
    quantity, paper); check_loose(model, quantity, paper)
blocks.blocks: parts(model); needs(model); own_laws(model); is_least(model, columns); parts_paper(model);
    check_parts(model, parts, paper)
blocks.hangs: hangs(model); hangs_paper(model, quantity, i); rests_paper(model, quantity, i); check_hangs(model,
    quantity, i, paper); check_rests(model, quantity, i, paper)
blocks.givens: completes(model, columns); dearest(model, wishes); givens_paper(model, wishes); check_givens(model,
    wishes, columns, paper); spare(model); kept(model, order)
marks.grids: grid_of(model); powers_of(grid); without(grid, i, j); exact_rows(grid); changed(grid, changes)
marks.marks: is_marks(grid, p, q); least_marks(grid); plain_count(grid); tight_numbers(grid, p, q);
    tight_places(grid, p, q); is_regular(grid, p, q, rows, columns); short_set(grid, p, q)
begin.relax: beginnings(grid); beginnings_paper(grid); check_beginnings(grid, number, paper)
begin.depth: depth(grid, i, j); depths(grid); index(grid); depth_paper(grid, i, j); check_depth(grid, i, j, number,
    paper)
stages.stages: first_stage(grid, paper); stage(grid, paper, k); is_choice(grid, paper, choice); beginnings_of(grid,
    paper, choice)
stages.choice: told_choice(grid, paper, wishes); choice_paper(grid, paper, wishes); check_choice(grid, paper,
    wishes, choice, shown)
stages.good: tight_table(model, paper, sizes); is_good(model, paper, choice, sizes)
runs.ratios: ratio(n, d); is_ratio(pair); plus(one, two); minus(one, two); times(one, two); over(one, two);
    solved(rows, right)
runs.said: say(model, known); said_grid(model, sizes); is_ordinary(model, sizes)
runs.run: run(grid, paper, choice, sources, values, h); keeps(grid, sources, lists)
store.promises: holds(model, promise); reason(model, promise)
store.edits: edited(model, edit)
store.store: Store(model); edit(edit); back(); promise(promise); free(k); model(); promises(); edits(); why(edit);
    copy()
store.desk: Desk(); do(line); draft(); store(); copy()
steer.gcds: primitive(one); gcd(one, two); divided(one, two); often(one, two); squarefree(one)
steer.factor: exact_factor(grid); factor_paper(grid); check_factor(grid, factor, paper); is_arrangement(grid,
    columns, places); are_weights(grid, part, columns, places, weights)
steer.steering: steering(model); unsteered(model); split(model, changes); steering_paper(model);
    check_steering(model, number, factor, paper)
steer.watching: watching(model, seen); unwatched(model, seen); watching_paper(model, seen); check_watching(model,
    seen, number, factor, paper)
values.groups: groups(model); idle(model); groups_paper(model); check_groups(model, groups, paper); faults(model,
    sizes)
values.leading: polynomial(model, k); factor(model); value_of(told, sizes)
values.one: forbidden(model, sizes, k); alone(model, k)
values.sure: is_sure(model, k); weak_sizes(model, k)
pairing.corners: corner(model, order, wishes, i, k); pairing(model, order, wishes)
pairing.papers: pairing_paper(model, order, wishes); check_pairing(model, order, wishes, pairs, paper)
pairing.instead: chain(model, order, wishes, i); substitute(model, wishes, i); substitutes(model, wishes)
pairing.keeper: Keeper(model, wishes); model(); wishes(); pairs(); given(); instead(i); put(i, row); drop(i);
    exchange(i); prefer(k); more(name); back(); copy()
"""


def entries():
    """The pairs of a module and the list of the names with their arguments."""
    text = INTERFACE.strip().replace("\n    ", " ")
    for line in text.split("\n"):
        module, _, names = line.partition(": ")
        yield module, [one.strip() for one in names.split(";")]


def arguments(told):
    name, _, rest = told.partition("(")
    return name, [one for one in rest[:-1].split(", ") if one]


class TestInterface(unittest.TestCase):
    def test_functions_and_classes(self):
        for path, names in entries():
            module = importlib.import_module("unsaidsizes." + path)
            with open(os.path.join(TOP, "unsaidsizes", *path.split(".")) + ".py", encoding="utf-8") as file:
                tree = ast.parse(file.read())
            defined = {node.name: node for node in tree.body if isinstance(node, (ast.FunctionDef, ast.ClassDef))}
            known, own = defined, module
            for told in names:
                name, args = arguments(told)
                self.assertIn(name, known, path)
                if name[0].isupper():
                    # What follows are the methods, in the class itself.
                    own = getattr(module, name)
                    known = {node.name: node for node in defined[name].body if isinstance(node, ast.FunctionDef)}
                    self.assertEqual(inspect.getfullargspec(own.__init__).args, ["self"] + args)
                else:
                    self.assertEqual(inspect.getfullargspec(getattr(own, name)).args, (["self"] if own is not module else []) + args, told)

    def test_many(self):
        self.assertEqual(sum(len(names) for _, names in entries()), 180)

    def test_folders(self):
        self.assertEqual([name for name in os.listdir(TOP) if os.path.isdir(os.path.join(TOP, name)) and not name.startswith(".")
                          and name != "__pycache__"].count("unsaidsizes"), 1)
        for here, folders, files in os.walk(os.path.join(TOP, "unsaidsizes")):
            folders[:] = [name for name in folders if name != "__pycache__"]
            self.assertFalse([name for name in files if name.startswith("test")])


if __name__ == "__main__":
    unittest.main()
