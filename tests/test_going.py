"""Points 33 and 34: kept guesses, resuming, needed guesses, watched places."""

import random
import unittest

from samples import SlowClimb, some_picks, some_task
from support import PackageTest

from rightatlast.books import Book
from rightatlast.climbing import climb
from rightatlast.corrections import wrong_entry
from rightatlast.errors import TooLarge, Unfinished
from rightatlast.going import kept, needed, resume, watched
from rightatlast.guesses import Guesses
from rightatlast.journals import Journal
from rightatlast.tasks import Task
from rightatlast.worlds import World

BOOK = Book.read("fun f 1\nrel R 2\npick Low 1: f(y0) <= p1\npick Eq 1: y0 = p1\npick Any 0: y0 = y0\n"
                 "pick Both 1: (f(y0) = 2 and R(p1, y0))\npick Up 1: Low(p1) <= y0")
WORLD = World.read(BOOK, "top 3\nf 9 7 2 5\nR 0 0 1 1 0 1 0 0 0 0 0 0 1 1 1 1")
EMPTY = Guesses([])


def task(*rows, world=WORLD, **inputs):
    """The task with these demands and inputs."""
    return Task(BOOK, world, inputs, list(rows))


class KeptTest(PackageTest):

    def test_entries_that_are_kept_and_lost_in_a_changed_world(self):
        guesses = Guesses.read("Low(2) = 2\nLow(5) = 2\nLow(7) = 1\nLow(9) = 0\nEq(4) = 4\nAny = 0")
        self.assertIsNone(wrong_entry(WORLD, guesses))
        self.assertEqual(kept(WORLD, guesses), guesses)
        # At 2 the body of Low(2) holds no more; at 1 that of Low(5) holds already.
        self.assertEqual(kept(WORLD.changed("f", (2,), 3), guesses).text,
                         "Any = 0\nEq(4) = 4\nLow(5) = 2\nLow(7) = 1\nLow(9) = 0")
        self.assertEqual(kept(WORLD.changed("f", (1,), 4), guesses).text,
                         "Any = 0\nEq(4) = 4\nLow(2) = 2\nLow(7) = 1\nLow(9) = 0")
        self.assertEqual(kept(WORLD.changed("f", (0,), 0), guesses).text, "Any = 0\nEq(4) = 4\nLow(9) = 0")
        self.assertEqual(kept(WORLD.changed("R", (0, 0), True), guesses), guesses)
        self.assertEqual(len(guesses), 6)

    def test_guesses_that_are_not_right(self):
        guesses = Guesses.read("Low(2) = 3\nLow(7) = 1\nEq = 0\nEq(1, 1) = 1\nNeu = 0\nAny = 1\nEq(3) = 4")
        self.assertEqual(kept(WORLD, guesses).text, "Low(7) = 1")
        self.assertEqual(kept(WORLD, EMPTY), EMPTY)

    def test_entries_of_upper_choices_are_not_kept(self):
        guesses = Guesses.read("Low(2) = 2\nUp(2) = 5\nUp(0) = 0\nUp = 7\nUp(1, 1) = 7")
        self.assertEqual(kept(WORLD, guesses).text, "Low(2) = 2")

    def test_too_large(self):
        zeros = [("Low", (number,), 0) for number in range(9, 2010)]
        self.assertEqual(len(kept(WORLD, Guesses(zeros[:2000]))), 2000)
        self.refuses(TooLarge, {}, kept, WORLD, Guesses(zeros))
        self.assertEqual(len(kept(WORLD, Guesses([("Eq", (19999,), 19999)]))), 1)
        self.refuses(TooLarge, {}, kept, WORLD, Guesses([("Eq", (20000,), 20000)]))

    def test_what_is_passed_is_counted(self):
        self.refuses(TooLarge, {}, kept, WORLD, Guesses([("Up", (0,), 20000)]))
        self.refuses(TooLarge, {}, kept, WORLD, Guesses([("Neu", (number,), 0) for number in range(2001)]))


class ResumeTest(PackageTest):

    def test_the_climb_from_the_kept_guesses(self):
        old = climb(task("Low(x) by 2", "Low(7) by 1", "Eq(4) by 4", "Up(2) by Low(2)", x=2)).guesses
        self.assertEqual(old.text, "Eq(4) = 4\nLow(2) = 2\nLow(7) = 1\nUp(2) = 2")
        changed = task("Low(x) by 3", "Low(7) by 1", "Eq(4) by 4", x=2,
                       world=WORLD.changed("f", (2,), 3).changed("f", (3,), 1))
        end = resume(changed, old)
        self.assertEqual(end.start.text, "Eq(4) = 4\nLow(7) = 1")
        self.assertEqual(end.journal.steps, ((1, "Low", (2,), 3),))
        self.assertEqual((end.guesses.text, end.looks), ("Eq(4) = 4\nLow(2) = 3\nLow(7) = 1", 6))
        self.assertEqual(old.text, "Eq(4) = 4\nLow(2) = 2\nLow(7) = 1\nUp(2) = 2")

    def test_picks_and_limit(self):
        found = task("Low(2) by 2", "Low(7) by 1", "Eq(4) by 4")
        guesses = Guesses.read("Low(2) = 2\nLow(7) = 3")
        self.assertEqual([step[0] for step in resume(found, guesses, picks=(1,)).journal.steps], [3, 2])
        self.assertEqual([step[0] for step in resume(found, guesses, limit=2).journal.steps], [2, 3])
        self.refuses(Unfinished, {"journal": Journal([(2, "Low", (7,), 1)])}, resume, found, guesses, limit=1)
        self.refuses(Unfinished, {"journal": Journal([(3, "Eq", (4,), 4)])}, resume, found, guesses, limit=1, picks=(3,))

    def test_all_tasks_in_a_changed_world(self):
        for seed in range(60):
            found = some_task(seed, seed % 2 == 0)
            end = climb(found, picks=some_picks(seed))
            world = found.world.changed("f", (seed % 4,), seed % 3)
            changed = Task(found.book, world, dict(found.inputs), [demand.text for demand in found.demands])
            start = kept(world, end.guesses)
            self.assertTrue(start.within(end.guesses))
            self.assertIsNone(wrong_entry(world, start))
            again = resume(changed, end.guesses, picks=some_picks(seed))
            plain = climb(changed, start=start, picks=some_picks(seed))
            self.assertEqual((again.journal, again.guesses, again.looks), (plain.journal, plain.guesses, plain.looks))

    def test_the_errors_in_their_order(self):
        found = task("Low(2) by 2")
        large = Guesses([("Up", (0,), 20000)])
        for passed in ({"picks": (0,) * 61}, {"picks": (1000000,)}, {"limit": 2001}):
            self.refuses(TooLarge, {}, resume, found, EMPTY, **passed)
        self.refuses(TooLarge, {}, resume, found, large)
        self.refuses(TooLarge, {}, resume, found, large, limit=0)
        self.refuses(Unfinished, {"journal": Journal([])}, resume, found, Guesses.read("Low(2) = 1"), limit=0)
        self.assertEqual(len(resume(found, EMPTY, limit=2000, picks=(999999,) * 60).journal), 1)


class NeededTest(PackageTest):

    def test_entries_that_no_look_reads(self):
        found = task("Low(x) by 2", "Eq(Low(x)) by 2", x=2)
        guesses = Guesses.read("Low(2) = 2\nLow(3) = 2\nEq(2) = 2\nEq(0) = 0\nEq = 3\nNeu(2) = 1\nUp(2) = 2")
        self.assertEqual(needed(found, guesses).text, "Eq(2) = 2\nLow(2) = 2")
        self.assertTrue(found.stands(needed(found, guesses)))

    def test_keys_with_the_given_guesses(self):
        found = task("Low(x) by 2", "Eq(Low(x)) by 2", x=2)
        self.assertEqual(needed(found, Guesses.read("Eq(0) = 5\nEq(2) = 2")).text, "Eq(0) = 5")
        self.assertEqual(needed(found, Guesses.read("Eq(0) = 5\nEq(2) = 2\nLow(2) = 0")).text, "Eq(0) = 5\nLow(2) = 0")

    def test_entries_of_upper_choices_and_of_bodies(self):
        # The formula is `(Low(1) <= 5 -> Low(1) <= Up(1))`.
        self.assertEqual(needed(task("Up(1) by 5"), Guesses.read("Low(1) = 3\nUp(1) = 4\nUp(2) = 4")).text,
                         "Low(1) = 3\nUp(1) = 4")

    def test_heads_and_by_terms_alone_are_not_read(self):
        # The body of Any is `y0 = y0`, that of Eq at (p1, y0) needs both; nothing reads a parameter that is not there.
        book = Book.read("pick Any 1: y0 = y0\npick Eq 1: y0 = p1")
        found = Task(book, World.read(book, "top 0"), {}, ["Any(Eq(1)) by Eq(2)"])
        guesses = Guesses.read("Eq(1) = 1\nEq(2) = 2\nAny(1) = 0\nAny(0) = 0")
        self.assertEqual(needed(found, guesses).text, "Any(1) = 0\nEq(1) = 1\nEq(2) = 2")
        book = Book.read("pick No 1: 1 = 1\npick Eq 1: y0 = p1")
        found = Task(book, World.read(book, "top 0"), {}, ["No(Eq(1)) by Eq(2)"])
        self.assertEqual(needed(found, guesses).text, "")

    def test_guesses_that_are_not_right_and_many(self):
        found = task("Low(2) by 2")
        many = Guesses([("Low", (number,), 99999) for number in range(5000)])
        self.assertEqual(needed(found, many).text, "Low(2) = 99999")
        self.assertEqual(needed(task(), many), EMPTY)

    def test_what_stands_stands_with_the_needed_ones(self):
        for seed in range(60):
            found = some_task(seed, seed % 2 == 0)
            guesses = climb(found, picks=some_picks(seed)).guesses
            few = needed(found, guesses)
            self.assertTrue(found.stands(few) and few.within(guesses))
            self.assertEqual(needed(found, few), few)


class WatchedTest(PackageTest):

    def test_places_of_looks_and_of_trials(self):
        # The formula of the first demand reads f at 2 and at the guess, 0 and then 2. The trials read f at 0, 1 and 2.
        self.assertEqual(watched(task("Low(2) by 2")), (("f", (0,)), ("f", (1,)), ("f", (2,))))
        # The first look reads f at 3 and at 0. The trials read f at 0, and 9 <= 9 holds there.
        self.assertEqual(watched(task("Low(9) by 3")), (("f", (0,)), ("f", (3,))))
        self.assertEqual(watched(task("Eq(4) by 4", "Any by 3")), ())
        self.assertEqual(watched(task()), ())

    def test_all_parts_of_a_body_are_read_in_each_trial(self):
        # Both(3) by 2: f(y0) = 2 at 2 alone, and R(3, y0) is read at 0 and 1 nevertheless.
        self.assertEqual(watched(task("Both(3) by 2")), (("R", (3, 0)), ("R", (3, 1)), ("R", (3, 2)), ("f", (0,)),
                                                         ("f", (1,)), ("f", (2,))))

    def test_trials_of_upper_choices_are_none(self):
        # Up(4) is 2 at once; nothing is tried. Low(4) is entered: f is read at 0, 1, 2 by the trials, at 2 by the look.
        book = Book.read("fun f 1\npick Low 1: f(y0) <= p1\npick Up 1: (Low(p1) = 0 and f(y0) <= p1)")
        world = World.read(book, "top 3\nf 9 7 2 5")
        found = Task(book, world, {}, ["Up(5) by 3"])
        self.assertEqual(climb(found).journal.text, "1: Up(5) = 3")
        self.assertEqual(watched(found), (("f", (0,)), ("f", (3,))))

    def test_the_trials_end_at_the_number_that_is_entered(self):
        self.assertEqual(watched(task("Low(7) by 3")), (("f", (0,)), ("f", (1,)), ("f", (3,))))

    def test_numbers_above_the_top(self):
        self.assertEqual(watched(task("Low(7) by 8")), (("f", (0,)), ("f", (1,)), ("f", (3,))))
        self.assertEqual(watched(task("Low(f(0)) by f(1)")), (("f", (0,)), ("f", (1,)), ("f", (3,))))

    def test_the_order(self):
        places = watched(task("Both(3) by 2", "Low(f(1)) by 2", "Both(0) by 2"))
        self.assertEqual(list(places), sorted(set(places)))
        self.assertEqual([name for name, _ in places], ["R"] * 6 + ["f"] * 3)

    def test_all_climbs(self):
        for seed in range(80):
            found = some_task(seed, seed % 2 == 0)
            slow = SlowClimb(found, some_picks(seed), 200)
            self.assertEqual(watched(found, picks=some_picks(seed), limit=200), tuple(sorted(slow.places)))

    def test_other_worlds_with_the_same_watched_places(self):
        source = random.Random(5)
        for seed in range(60):
            found = some_task(seed, seed % 2 == 0)
            picks = some_picks(seed)
            places = watched(found, picks=picks)
            world = found.world
            for name, place in world.places:
                if (name, place) not in places:
                    world = world.changed(name, place, source.randrange(9) if name in "fg" else source.randrange(2) == 1)
            other = Task(found.book, world, dict(found.inputs), [demand.text for demand in found.demands])
            self.assertEqual(climb(other, picks=picks).journal, climb(found, picks=picks).journal)

    def test_errors(self):
        found = task("Low(2) by 2", "Low(7) by 1")
        for passed in ({"picks": (0,) * 61}, {"picks": (1000000,)}, {"limit": 2001}):
            self.refuses(TooLarge, {}, watched, found, **passed)
        self.refuses(Unfinished, {"journal": Journal([])}, watched, found, limit=0)
        self.refuses(Unfinished, {"journal": Journal([(2, "Low", (7,), 1)])}, watched, found, limit=1, picks=(1,))
        self.assertEqual(len(watched(found, limit=2, picks=(999999,) * 60)), 3)


if __name__ == "__main__":
    unittest.main()
