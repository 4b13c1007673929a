"""Point 32: towers."""

import unittest

from samples import some_picks
from support import PackageTest

from rightatlast.climbing import climb
from rightatlast.corrections import corrected, open_demands
from rightatlast.errors import TooLarge
from rightatlast.flags import bound
from rightatlast.guesses import Guesses
from rightatlast.tasks import Task
from rightatlast.tower import tower

PICKS = ["pick Ca 0: y0 = 1", "pick Cb 1: y0 = 1", "pick Cc 2: y0 = 1", "pick Cd 3: y0 = 1", "pick Ce 4: y0 = 1",
         "pick Cf 5: y0 = 1"]
CB = "Cb(Ca)"
CC = f"Cc(Ca, {CB})"
CD = f"Cd(Ca, {CB}, {CC})"
CE = f"Ce(Ca, {CB}, {CC}, {CD})"
CF = f"Cf(Ca, {CB}, {CC}, {CD}, {CE})"
DEMANDS = {
    1: ["Ca by 1"],
    2: [f"Ca by {CB}", f"{CB} by 1"],
    3: ["Ca by both(Cb(Ca), Cc(Ca, Cb(Ca)))", "Cb(Ca) by Cc(Ca, Cb(Ca))", "Cc(Ca, Cb(Ca)) by 1"],
    4: [f"Ca by both({CB}, both({CC}, {CD}))", f"{CB} by both({CC}, {CD})", f"{CC} by {CD}", f"{CD} by 1"],
    5: [f"Ca by both({CB}, both({CC}, both({CD}, {CE})))", f"{CB} by both({CC}, both({CD}, {CE}))",
        f"{CC} by both({CD}, {CE})", f"{CD} by {CE}", f"{CE} by 1"],
    6: [f"Ca by both({CB}, both({CC}, both({CD}, both({CE}, {CF}))))", f"{CB} by both({CC}, both({CD}, both({CE}, {CF})))",
        f"{CC} by both({CD}, both({CE}, {CF}))", f"{CD} by both({CE}, {CF})", f"{CE} by {CF}", f"{CF} by 1"],
}


class TowerTest(PackageTest):

    def test_book_world_and_demands(self):
        for m in range(1, 7):
            task = tower(m)
            self.assertIsInstance(task, Task)
            self.assertEqual(task.book.text, "\n".join(["fun both 2"] + PICKS[:m]))
            self.assertEqual(task.world.text, "top 1\nboth 0 0 0 1")
            self.assertEqual(task.world.book, task.book)
            self.assertEqual(task.inputs, ())
            self.assertEqual([demand.text for demand in task.demands], DEMANDS[m])

    def test_the_number_of_corrections(self):
        for m in range(1, 7):
            for picks in [()] + [some_picks(seed) for seed in range(4)]:
                end = climb(tower(m), picks=picks)
                self.assertEqual((len(end.journal), end.looks), (2 ** m - 1, m * 2 ** m))
            self.assertEqual(bound(tower(m)), 2 ** m - 1)

    def test_one_open_demand_before_each_correction(self):
        for m in range(1, 6):
            task = tower(m)
            now = Guesses([])
            for _ in range(2 ** m - 1):
                self.assertEqual(len(open_demands(task, now)), 1)
                now = corrected(task, now, open_demands(task, now)[0])
            self.assertTrue(task.stands(now))

    def test_0_and_7(self):
        for m in (0, 7, 8, 999999, 10 ** 3999):
            self.refuses(TooLarge, {}, tower, m)


if __name__ == "__main__":
    unittest.main()
