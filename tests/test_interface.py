"""The names, arguments and places of the interface, as far as it has been built."""

import unittest

from armedexits.exits import Beneath, Exits, Lost, Refused
from armedexits.listings import listing, parse
from armedexits.programs import Program, Stretch

PLACES = {
    "armedexits.programs": (Stretch, Program),
    "armedexits.listings": (listing, parse),
    "armedexits.exits": (Lost, Beneath, Refused, Exits),
}

METHODS = {
    Stretch: ("__contains__", "__eq__", "__le__", "__lt__", "__ge__", "__gt__", "crosses"),
    Program: ("stretch_of", "redirected", "performs", "jumps"),
    Lost: ("__call__",),
    Beneath: ("__call__",),
    Refused: ("__call__",),
    Exits: ("__getitem__", "__setitem__", "__contains__", "__iter__", "arm", "take", "cells"),
}


class Interface(unittest.TestCase):
    def test_everything_is_defined_where_it_is_listed(self):
        for place, members in PLACES.items():
            for member in members:
                self.assertEqual(member.__module__, place)

    def test_methods_are_defined_in_the_class_itself(self):
        for owner, names in METHODS.items():
            for name in names:
                with self.subTest(owner=owner.__name__, name=name):
                    self.assertIn(name, vars(owner))

    def test_arguments_by_name(self):
        program = Program(paragraphs=[("a", [("perform", "a", "a"), ("go", "a")])])
        self.assertEqual(program.stretch_of(way=(0, 1)), Stretch(first=0, last=0))
        self.assertEqual(program.redirected(choice=((0, 1),)).jumps, ())
        self.assertEqual(parse(text=listing(program=program)).bodies, program.bodies)
        self.assertEqual(Exits(rule=Lost(), cells=[()]).cells, ((),))
        self.assertEqual(Beneath(depth=2)(held=((0, 1), (0, 2)), way=(0, 3)), ((0, 1), (0, 2), (0, 3)))


if __name__ == "__main__":
    unittest.main()
