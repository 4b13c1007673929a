"""The interface: names, arguments, and where they are defined."""

import importlib
import inspect
import unittest

FUNCTIONS = {
    "words": ["is_name(text)", "is_letter(text)", "is_relation(text)", "is_choice(text)", "tokens(text)"],
    "termtext": ["read_term(text)"],
    "formulatext": ["read_formula(text)"],
    "putting": ["put_names(thing, terms)", "put_letters(thing, terms)", "put_choice(thing, old, new)"],
    "pieces": ["choice_terms(things)", "atoms_of(formulas)", "members_of(formula)"],
    "books": ["body_at(choice, parts, term)"],
    "values": ["value_of(term, world, inputs, guesses)", "truth_of(formula, world, inputs, guesses)",
               "look_at(formula, world, inputs, guesses)"],
    "corrections": ["wrong_entry(world, guesses)", "open_demands(task, guesses)", "correction(task, guesses, number)",
                    "corrected(task, guesses, number)"],
    "flags": ["choice_list(task)", "flags(task, guesses)", "storeys(task)", "bound(task)"],
    "journals": ["first_wrong_step(task, start, journal)", "replayed(task, start, journal)",
                 "is_finished(task, start, journal)", "phases(task, journal)"],
    "climbing": ["climb(task, *, picks=(), start=None, limit=1000)",
                 "climb_steps(task, *, picks=(), start=None, limit=1000)"],
    "quick": ["quick_climb(task, *, picks=(), start=None, limit=1000)"],
    "tower": ["tower(m)"],
    "going": ["kept(world, guesses)", "resume(task, guesses, *, picks=(), limit=1000)", "needed(task, guesses)",
              "watched(task, *, picks=(), limit=1000)"],
    "lines": ["read_line(book, text, row)"],
    "boxes": ["boxes_of(derivation, number)", "may_cite(derivation, number, cited)",
              "may_cite_box(derivation, number, opening)"],
    "orders": ["order_gap(formula)"],
    "follows": ["entails(formulas, formula)"],
    "swaps": ["is_swap(formula, other, left, right)"],
    "choicerules": ["demand_formula(book, head, by)", "least_formula(book, head, by)", "zero_formula(book, head)"],
    "checker": ["first_wrong_line(library, derivation)", "is_accepted(library, derivation)",
                "put_in_derivation(derivation, terms)"],
    "unfolding": ["unfolded(library, derivation)"],
    "runs": ["run(library, derivation, world, inputs, *, picks=(), limit=1000)"],
    "codes": ["code_of(task)"],
    "machine": ["machine_run(code, world, inputs, *, limit=1000)"],
    "tables": ["climb_table(end)"],
    "shapes": ["holes_of(formula, letter)", "shape_of(formula, letter)"],
    "telling": ["tell_formula(book, formula)"],
    "spokenlines": ["read_spoken_line(book, text, row)"],
    "spokennames": ["names_at(spoken, number)", "spoken_boxes(spoken, number)"],
    "spokenrules": ["first_wrong_spoken(spoken)"],
    "told": ["tell(spoken, numbers)"],
    "without": ["next_choice(derivation)", "trial_terms(derivation)", "taken_out(derivation)",
                "without_choices(derivation)"],
    "relations": ["is_relational(formula)", "holds_in(world, inputs, claim)"],
    "candidates": ["candidates_of(book, claim)", "demands_for(book, claim)"],
    "settling": ["settle(book, claim)"],
}
# Class methods are shown as they are called, without `cls`.
CLASSES = {
    "terms.Term": ["of_number(number)", "of_name(word)", "of_letter(word)", "of_function(name, *parts)",
                   "of_choice(name, *parts)", "__add__(self, number)", "__eq__(self, other)", "__str__(self)"],
    "formulas.Formula": ["same(left, right)", "most(left, right)", "holds(name, *terms)", "some(letter, part)",
                         "every(letter, part)", "__invert__(self)", "__and__(self, other)", "__or__(self, other)",
                         "__rshift__(self, other)", "__eq__(self, other)", "__str__(self)"],
    "books.Choice": [],
    "books.Book": ["read(text)", "choice_of(self, name)", "fits(self, thing)", "extended(self, name, count, body)",
                   "__eq__(self, other)", "__str__(self)"],
    "worlds.World": ["read(book, text)", "at(self, name, *numbers)", "changed(self, name, place, value)",
                     "__eq__(self, other)", "__str__(self)"],
    "guesses.Guesses": ["__init__(self, rows)", "read(text)", "at(self, name, numbers)", "has(self, name, numbers)",
                        "added(self, name, numbers, number)", "without(self, names)", "within(self, other)",
                        "__or__(self, other)", "__len__(self)", "__iter__(self)", "__eq__(self, other)",
                        "__str__(self)"],
    "values.Look": [],
    "demands.Demand": ["__init__(self, book, head, by)", "read(book, text)", "__eq__(self, other)", "__str__(self)"],
    "tasks.Task": ["__init__(self, book, world, inputs, rows)", "false_ones(self, guesses)", "stands(self, guesses)"],
    "journals.Journal": ["__init__(self, steps)", "read(text)", "__len__(self)", "__eq__(self, other)", "__str__(self)"],
    "climbing.Climb": [],
    "lines.Line": ["__eq__(self, other)", "__str__(self)"],
    "derivations.Derivation": ["read(book, text)", "__len__(self)", "__iter__(self)", "__eq__(self, other)",
                               "__str__(self)"],
    "library.Library": ["__init__(self, book)", "added(self, name, derivation)", "fact(self, name)",
                        "__contains__(self, name)"],
    "runs.Run": [],
    "codes.Code": ["read(text)", "__len__(self)", "__eq__(self, other)", "__str__(self)"],
    "telling.Told": [],
    "spokenlines.SpokenLine": ["__eq__(self, other)", "__str__(self)"],
    "spoken.Spoken": ["read(book, inputs, text)", "__len__(self)", "__iter__(self)", "__eq__(self, other)",
                      "__str__(self)"],
    "settling.Settled": [],
    "desk.Desk": ["__init__(self, task)", "set_place(self, name, place, value)", "set_input(self, name, number)",
                  "add_demand(self, text)", "remove_demand(self, number)", "correct(self, pick)",
                  "settle(self, limit=1000)", "undo(self)", "redo(self)", "__eq__(self, other)", "__str__(self)"],
}


class InterfaceTest(unittest.TestCase):

    def test_functions(self):
        for module, shown in FUNCTIONS.items():
            names = vars(importlib.import_module(f"rightatlast.{module}"))
            for text in shown:
                function = names[text.partition("(")[0]]
                self.assertEqual(function.__name__ + str(inspect.signature(function)), text)
                self.assertEqual(function.__module__, f"rightatlast.{module}")

    def test_classes_define_their_methods_themselves(self):
        for path, shown in CLASSES.items():
            module, _, name = path.partition(".")
            found = getattr(importlib.import_module(f"rightatlast.{module}"), name)
            self.assertEqual(found.__module__, f"rightatlast.{module}")
            for text in shown:
                method = text.partition("(")[0]
                self.assertIn(method, vars(found), path)
                self.assertEqual(method + str(inspect.signature(getattr(found, method))), text, path)


if __name__ == "__main__":
    unittest.main()
