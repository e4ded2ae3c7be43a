"""The interface: names, arguments, and where methods are defined."""

import importlib
import inspect
import unittest

from farbetween.desk import Desk
from farbetween.house import House
from farbetween.machines import Machine
from farbetween.shares import Share

FUNCTIONS = {
    "shares": ["plus(one, other)", "minus(one, other)", "times(one, other)", "over(one, other)", "less(one, other)", "sum_of(shares)"],
    "carrying": [
        "cheapest(costs, first, second)", "cost_of(costs, plan)", "brought(prices, first, second)",
        "is_plan(thing, first, second)", "are_prices(thing, costs)",
    ],
    "machines": ["menu(machine, room)", "heap(machine, room, sign)", "trimmed(machine)"],
    "alike": ["alike_sets(machine)", "alike(one, other)", "least(machine)"],
    "depths": ["apart_to(fade, one, other, depth)"],
    "apart": [
        "apart(fade, one, other)", "distance(fade, one, other)", "papers(fade, one, other)",
        "is_above(thing, fade, one, other, table)", "is_below(thing, fade, one, other, table)",
    ],
    "sayings": ["worths(book, fade, machine)", "worth(book, fade, machine)", "deep(book)", "telling(fade, one, other, depth)"],
    "words": ["chance(machine, word)", "chances(machine, word)", "farthest_word(fade, one, other, long)"],
    "joinings": [
        "stop()", "ahead(sign, machine)", "toss(sign, weights, one, other)", "beside(shared, one, other)", "only(signs, machine)",
        "rename(pairs, machine)",
    ],
    "recipes": ["read_recipe(text)", "show_recipe(recipe)", "made(recipe, parts)", "parts_of(recipe)", "bound(recipe, fade, drifts)"],
    "texts": ["show(machine)", "read(text)"],
}
METHODS = [
    "put(self, name, machine)", "keep(self, name, text)", "swap(self, name, machine, within)", "back(self)", "machine_of(self, name)",
    "first(self, name)", "drift(self, name)", "text_of(self, name)", "parts(self)", "wholes(self)", "__len__(self)",
]


class Interface(unittest.TestCase):

    def test_functions(self):
        for name, told in FUNCTIONS.items():
            module = importlib.import_module(f"farbetween.{name}")
            for each in told:
                function = getattr(module, each.split("(")[0])
                self.assertEqual(function.__name__ + str(inspect.signature(function)), each)
                self.assertEqual(function.__module__, f"farbetween.{name}")

    def test_shares(self):
        self.assertEqual(str(inspect.signature(Share)), "(top, bottom=1)")
        self.assertEqual(list(vars(Share(1, 2))), ["top", "bottom"])
        for method in ["__init__", "__eq__", "__str__"]:
            self.assertIn(method, vars(Share))

    def test_machines(self):
        self.assertEqual(str(inspect.signature(Machine)), "(many, steps)")
        self.assertEqual(list(vars(Machine(1, []))), ["many", "steps"])
        for method in ["__init__", "__eq__", "__len__"]:
            self.assertIn(method, vars(Machine))

    def test_house_and_desk(self):
        self.assertEqual(str(inspect.signature(House)), "(fade)")
        self.assertEqual(str(inspect.signature(Desk)), "()")
        for owner, methods in [(House, METHODS), (Desk, ["say(self, row)"])]:
            self.assertEqual(owner.__bases__, (object,))
            for each in methods:
                method = vars(owner)[each.split("(")[0]]
                self.assertEqual(method.__name__ + str(inspect.signature(method)), each)


if __name__ == "__main__":
    unittest.main()
