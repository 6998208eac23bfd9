"""The section "The interface": all names exist in their modules, with their arguments as written."""

import importlib
import inspect
import unittest

FUNCTIONS = {
    "tables": ["product(one, other)", "turned_over(table)", "cover(table)", "rest(table, m)", "carried(table, by)",
               "determinant(table)", "is_basis(table)", "back(table)"],
    "forms": ["is_form(thing)", "pairing(table, one, other)", "worth(table, row)", "low_row(table)", "half(form)"],
    "rows": ["rows_of(form, n)", "how_many(form, n)", "counts_to(form, n)", "least_worth(form)"],
    "least": ["least(form)", "alike(one, other)"],
    "turnings": ["turnings(form)", "turnings_many(form)"],
    "cone": ["lines(form, p)", "line_of(form, p, row)", "lift(form, p, line)"],
    "beside": ["beside(form, p, line)", "is_step(form, p, line, table)", "way_back(form, p, line, step)"],
    "books": ["book(form, p)", "kin_by_two(form, p, q)"],
    "led": ["sign(form, p, n)", "led(form, p, n)", "led_alone(form, p, n)"],
    "shares": ["weight(form, p)", "shared(form, p, n)", "polynomial(rows)"],
    "papers": ["paper(form, p)", "is_right(form, paper)"],
    "texts": ["show(form)", "read(text)"],
}


class Interface(unittest.TestCase):
    def test_functions(self):
        for module, functions in FUNCTIONS.items():
            there = importlib.import_module(f"conekin.{module}")
            for wanted in functions:
                told = getattr(there, wanted.partition("(")[0])
                self.assertEqual(told.__name__ + str(inspect.signature(told)), wanted)

    def test_the_desk(self):
        told = importlib.import_module("conekin.desk").Desk
        self.assertEqual(str(inspect.signature(told)), "()")
        self.assertEqual(str(inspect.signature(vars(told)["say"])), "(self, row)")


if __name__ == "__main__":
    unittest.main()
