"""The rules and Exits: points 6 and 7, and the interface of armedexits.exits."""

import unittest

from armedexits.errors import ArmedTwice, NotArmed
from armedexits.exits import Beneath, Exits, Lost, Refused
from tests.helpers import error_of

A, B, C, D, E = (0, 1), (2, 4), (7, 3), (500, 0), (12, 99)

HELD = [(), (A,), (A, B), (A, B, C), (A, B, C, D), (A, A), (E, A, E)]


class Rules(unittest.TestCase):
    def test_lost_keeps_only_the_new_way(self):
        for held in HELD:
            self.assertEqual(Lost()(held, E), (E,))

    def test_beneath_zero_is_as_lost(self):
        for held in HELD:
            self.assertEqual(Beneath(0)(held, E), (E,))

    def test_beneath_one(self):
        rule = Beneath(1)
        self.assertEqual(rule((), E), (E,))
        self.assertEqual(rule((A,), E), (A, E))
        self.assertEqual(rule((A, B), E), (B, E))
        self.assertEqual(rule((A, B, C), E), (C, E))

    def test_beneath_two(self):
        rule = Beneath(2)
        self.assertEqual(rule((), E), (E,))
        self.assertEqual(rule((A,), E), (A, E))
        self.assertEqual(rule((A, B), E), (A, B, E))
        self.assertEqual(rule((A, B, C), E), (B, C, E))
        self.assertEqual(rule((A, B, C, D), E), (C, D, E))

    def test_the_default_depth_is_one(self):
        self.assertEqual(Beneath().depth, 1)
        for held in HELD:
            self.assertEqual(Beneath()(held, E), Beneath(1)(held, E))

    def test_depth_is_an_attribute(self):
        for depth in (0, 1, 2):
            self.assertEqual(Beneath(depth).depth, depth)
            self.assertEqual(Beneath(depth=depth).depth, depth)

    def test_a_way_that_is_held_already_is_stored_again(self):
        self.assertEqual(Lost()((A,), A), (A,))
        self.assertEqual(Beneath(0)((A,), A), (A,))
        self.assertEqual(Beneath(1)((A,), A), (A, A))
        self.assertEqual(Beneath(1)((B, A), A), (A, A))
        self.assertEqual(Beneath(2)((B, A), A), (B, A, A))
        self.assertEqual(Beneath(2)((A, B), A), (A, B, A))

    def test_refused_stores_in_an_empty_cell(self):
        self.assertEqual(Refused()((), A), (A,))

    def test_refused_refuses_every_filled_cell(self):
        for held in HELD[1:]:
            error = error_of(self, ArmedTwice, Refused(), held, E)
            self.assertEqual((error.held, error.way), (held, E))

    def test_refused_refuses_the_way_that_it_holds(self):
        error = error_of(self, ArmedTwice, Refused(), (A,), A)
        self.assertEqual((error.held, error.way), ((A,), A))

    def test_contents_are_tuples(self):
        for rule in (Lost(), Beneath(0), Beneath(), Beneath(2), Refused()):
            self.assertIsInstance(rule((), A), tuple)

    def test_a_rule_remembers_nothing(self):
        rule = Refused()
        self.assertEqual(rule((), A), (A,))
        self.assertEqual(rule((), B), (B,))
        rule = Beneath(2)
        self.assertEqual(rule((A, B), C), (A, B, C))
        self.assertEqual(rule((), C), (C,))

    def test_arguments_by_name(self):
        for rule in (Lost(), Beneath(), Refused()):
            self.assertEqual(rule(held=(), way=A), (A,))


class Contents(unittest.TestCase):
    def test_cells_from_a_tuple_and_from_a_list(self):
        for kind in (tuple, list):
            exits = Exits(Lost(), kind([(), (A,), (A, B)]))
            self.assertEqual(exits.cells, ((), (A,), (A, B)))
            self.assertIsInstance(exits.cells, tuple)
            self.assertEqual([exits[0], exits[1], exits[2]], [(), (A,), (A, B)])

    def test_no_cells(self):
        self.assertEqual(Exits(Lost(), ()).cells, ())
        self.assertEqual(list(Exits(Lost(), [])), [])

    def test_many_cells(self):
        exits = Exits(Beneath(), [()] * 20)
        exits.arm(19, A)
        self.assertEqual(exits.cells, ((),) * 19 + ((A,),))

    def test_a_list_may_change_afterwards(self):
        cells = [(), (A,)]
        exits = Exits(Lost(), cells)
        cells[0] = (B,)
        cells.append((C,))
        self.assertEqual(exits.cells, ((), (A,)))
        self.assertEqual(list(exits), [(), (A,)])

    def test_the_list_that_was_passed_is_not_modified(self):
        cells = [(), (A,)]
        exits = Exits(Lost(), cells)
        exits.arm(0, B)
        exits.take(1)
        exits[1] = (C, D)
        self.assertEqual(cells, [(), (A,)])

    def test_filled_cells_are_in(self):
        exits = Exits(Lost(), [(), (A,), (A, B), ()])
        self.assertEqual([p in exits for p in range(4)], [False, True, True, False])
        self.assertIs(0 in exits, False)
        self.assertIs(1 in exits, True)
        exits.arm(0, C)
        exits.take(1)
        exits.take(2)
        exits[3] = (D,)
        self.assertEqual([p in exits for p in range(4)], [True, False, True, True])

    def test_replacement_of_a_content(self):
        exits = Exits(Refused(), [(), (A,), ()])
        exits[1] = (B, C)
        self.assertEqual(exits.cells, ((), (B, C), ()))
        exits[1] = ()
        exits[2] = (E,)
        self.assertEqual(exits.cells, ((), (), (E,)))
        self.assertEqual(exits[2], (E,))

    def test_a_replacement_does_not_ask_the_rule(self):
        exits = Exits(Refused(), [(A,)])
        exits[0] = (A, B, C)
        self.assertEqual(exits[0], (A, B, C))

    def test_iteration_yields_the_contents_in_order(self):
        exits = Exits(Lost(), [(A,), (), (B, C)])
        self.assertEqual([ways for ways in exits], [(A,), (), (B, C)])
        self.assertEqual(list(exits), [(A,), (), (B, C)])
        self.assertEqual(list(exits), list(exits.cells))
        exits.take(2)
        self.assertEqual(list(exits), [(A,), (), (B,)])

    def test_cells_that_were_read_do_not_change(self):
        exits = Exits(Lost(), [(), ()])
        before = exits.cells
        exits.arm(0, A)
        self.assertEqual(before, ((), ()))
        self.assertEqual(exits.cells, ((A,), ()))

    def test_cells_is_a_property(self):
        self.assertIsInstance(vars(Exits)["cells"], property)

    def test_two_objects_are_apart(self):
        cells, rule = [(), (A,)], Beneath()
        one, two = Exits(rule, cells), Exits(rule, cells)
        one.arm(0, B)
        one.take(1)
        two[1] = (C,)
        self.assertEqual(one.cells, ((B,), ()))
        self.assertEqual(two.cells, ((), (C,)))


class ArmAndTake(unittest.TestCase):
    def test_arm_returns_none(self):
        for rule in (Lost(), Beneath(0), Beneath(), Beneath(2), Refused()):
            self.assertIsNone(Exits(rule, [()]).arm(0, A))

    def test_arm_stores_by_each_rule(self):
        for rule, cells in (
            (Lost(), ((C,), (C,), (C,))),
            (Beneath(0), ((C,), (C,), (C,))),
            (Beneath(), ((C,), (A, C), (B, C))),
            (Beneath(2), ((C,), (A, C), (A, B, C))),
        ):
            exits = Exits(rule, [(), (A,), (A, B)])
            for p in range(3):
                exits.arm(p, C)
            self.assertEqual(exits.cells, cells)

    def test_arm_changes_only_its_cell(self):
        exits = Exits(Beneath(), [(A,), (B,), (C,)])
        exits.arm(1, D)
        self.assertEqual(exits.cells, ((A,), (B, D), (C,)))

    def test_take_removes_the_newest_way_and_returns_it(self):
        exits = Exits(Lost(), [(A,), (A, B, C), (D,)])
        self.assertEqual(exits.take(1), C)
        self.assertEqual(exits.cells, ((A,), (A, B), (D,)))
        self.assertEqual(exits.take(1), B)
        self.assertEqual(exits.take(1), A)
        self.assertEqual(exits.cells, ((A,), (), (D,)))

    def test_arm_and_take_under_each_rule(self):
        for rule, taken in (
            (Lost(), [C]), (Beneath(0), [C]), (Beneath(), [C, B]), (Beneath(2), [C, B, A]),
        ):
            exits = Exits(rule, [()])
            for way in (A, B, C):
                exits.arm(0, way)
            found = []
            while 0 in exits:
                found.append(exits.take(0))
            self.assertEqual(found, taken)

    def test_take_at_an_empty_cell(self):
        exits = Exits(Beneath(), [(A,), (), (B, C)])
        error = error_of(self, NotArmed, exits.take, 1)
        self.assertEqual(error.paragraph, 1)
        self.assertEqual(exits.cells, ((A,), (), (B, C)))

    def test_take_once_more_than_there_are_ways(self):
        exits = Exits(Lost(), [(), (), (A,)])
        exits.take(2)
        self.assertEqual(error_of(self, NotArmed, exits.take, 2).paragraph, 2)
        self.assertEqual(error_of(self, NotArmed, exits.take, 0).paragraph, 0)
        self.assertEqual(exits.cells, ((), (), ()))

    def test_refused_raises_and_changes_nothing(self):
        exits = Exits(Refused(), [(), (A, B)])
        error = error_of(self, ArmedTwice, exits.arm, 1, C)
        self.assertEqual((error.held, error.way), ((A, B), C))
        self.assertEqual(exits.cells, ((), (A, B)))
        exits.arm(0, D)
        error = error_of(self, ArmedTwice, exits.arm, 0, D)
        self.assertEqual((error.held, error.way), ((D,), D))
        self.assertEqual(exits.cells, ((D,), (A, B)))

    def test_refused_stores_again_when_the_way_is_taken(self):
        exits = Exits(Refused(), [()])
        exits.arm(0, A)
        self.assertEqual(exits.take(0), A)
        exits.arm(0, B)
        self.assertEqual(exits.cells, ((B,),))

    def test_any_points_may_stand_as_ways(self):
        exits = Exits(Beneath(), [()])
        exits.arm(0, (99, 12))
        exits.arm(0, (0, 0))
        self.assertEqual(exits.cells, (((99, 12), (0, 0)),))
        self.assertEqual(exits.take(0), (0, 0))


if __name__ == "__main__":
    unittest.main()
