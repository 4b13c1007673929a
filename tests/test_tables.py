"""Point 49: tables of climbs."""

import unittest

from samples import SlowClimb, long_task, some_picks, some_task
from support import PackageTest

from rightatlast.climbing import climb
from rightatlast.corrections import corrected
from rightatlast.flags import flags
from rightatlast.guesses import Guesses
from rightatlast.journals import Journal, replayed
from rightatlast.tables import climb_table
from rightatlast.tower import tower


def row(count, demand, shown, entry):
    """A row of a table."""
    return str(count).rjust(4) + " " + str(demand).rjust(3) + "  " + shown + "  " + entry


class TableTest(PackageTest):

    def test_a_tower(self):
        self.assertEqual(climb_table(climb(tower(2), picks=(7, 1))),
                         ["   1   2  01  Cb(0) = 1", "   2   1  10  Ca = 1", "   3   2  11  Cb(1) = 1"])
        self.assertEqual(climb_table(climb(tower(3))),
                         ["   1   3  001  Cc(0, 0) = 1", "   2   2  010  Cb(0) = 1", "   3   3  011  Cc(0, 1) = 1",
                          "   4   1  100  Ca = 1", "   5   3  101  Cc(1, 0) = 1", "   6   2  110  Cb(1) = 1",
                          "   7   3  111  Cc(1, 1) = 1"])

    def test_no_corrections(self):
        end = climb(tower(2))
        again = climb(tower(2), start=end.guesses)
        self.assertEqual(climb_table(again), [])
        self.assertIsInstance(climb_table(again), list)

    def test_some_tasks(self):
        upper = 0
        for seed in range(30):
            task = some_task(seed, seed < 20)
            picks = some_picks(seed)
            slow = SlowClimb(task, picks, 1000)
            shown = [flags(task, guesses) for guesses in slow.states[1:]]
            entries = [Guesses([step[1:]]).text for step in slow.steps]
            expected = [row(count, step[0], one, entry)
                        for count, (step, one, entry) in enumerate(zip(slow.steps, shown, entries), start=1)]
            self.assertEqual(climb_table(climb(task, picks=picks)), expected)
            upper += sum(1 for step in slow.steps if step[1].startswith("U"))
        self.assertGreater(upper, 5)

    def test_climbs_with_a_start(self):
        end = climb(tower(4))
        for count in (1, 4, 7, 14):
            start = replayed(tower(4), None, Journal(list(end.journal.steps[:count])))
            rest = climb(tower(4), start=start)
            table = climb_table(rest)
            self.assertEqual(len(table), 15 - count)
            self.assertEqual([one[5:] for one in table], [one[5:] for one in climb_table(end)[count:]])
            self.assertEqual([one[:4] for one in table], [str(number).rjust(4) for number in range(1, 16 - count)])

    def test_a_start_with_upper_entries(self):
        # The start that the climb keeps is the one without them.
        for seed in range(20):
            task = some_task(seed, True)
            end = climb(task)
            again = climb(task, start=end.guesses)
            state = again.start
            expected = []
            for count, step in enumerate(again.journal.steps, start=1):
                state = corrected(task, state, step[0])
                expected.append(row(count, step[0], flags(task, state), Guesses([step[1:]]).text))
            self.assertEqual(climb_table(again), expected)

    def test_numbers_of_two_and_more_digits(self):
        table = climb_table(climb(long_task(17), limit=2000))
        self.assertEqual(len(table), 64 * 17 + 63)
        self.assertEqual([one[:4] for one in table], [str(number).rjust(4) for number in range(1, len(table) + 1)])
        self.assertEqual({one[5:8] for one in table}, {str(number).rjust(3) for number in range(1, 24)})
        self.assertEqual(table[9][:10], "  10  16  ")
        self.assertEqual(table[999][:5], "1000 ")


if __name__ == "__main__":
    unittest.main()
