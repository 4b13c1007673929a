"""Points 63 and 64: the desk."""

import random
import unittest

from samples import BOOK, long_task, some_task
from support import PackageTest

from rightatlast.books import Book
from rightatlast.climbing import climb
from rightatlast.corrections import corrected, open_demands, wrong_entry
from rightatlast.desk import Desk
from rightatlast.errors import (BadDemand, BadInput, BadPlace, MissingInput, NotOpen, NothingThere, RightatlastError, TooLarge,
                                TooWide, Unfinished, UnknownName)
from rightatlast.going import kept
from rightatlast.guesses import Guesses
from rightatlast.journals import Journal
from rightatlast.tasks import Task
from rightatlast.tower import tower
from rightatlast.worlds import World

SMALL = Book.read("fun f 1\nrel R 1\npick Low 1: f(y0) <= p1\npick Any 0: R(y0)\npick Up 1: (Low(p1) <= y0 and R(y0))")
WORLD = World.read(SMALL, "top 3\nf 9 7 2 5\nR 0 0 1 1")
ROWS = ["Low(x) by 3", "Up(x) by 3", "Any by z"]


def small_task(rows=ROWS, inputs=None, world=WORLD):
    """A task with ground and upper demands."""
    return Task(SMALL, world, inputs if inputs is not None else {"x": 5, "z": 2}, list(rows))


def settled_desk():
    """A desk whose task stands: `Any = 2`, `Low(5) = 2` and `Up(5) = 3`."""
    desk = Desk(small_task())
    desk.settle()
    return desk


class StateTest(PackageTest):

    def test_the_beginning(self):
        task = small_task()
        desk = Desk(task)
        self.assertEqual([demand.text for demand in desk.task.demands], ROWS)
        self.assertEqual((desk.task.book, desk.task.world, desk.task.inputs), (SMALL, WORLD, task.inputs))
        self.assertEqual((desk.guesses, desk.standing, desk.undone, desk.done), (Guesses([]), False, 0, 0))
        self.assertIs(desk.standing, False)
        self.assertEqual(desk.text, "\n".join([SMALL.text, "--", WORLD.text, "--", "x 5", "z 2", "--", *ROWS, "--"]))
        self.assertEqual(str(desk), desk.text)
        self.assertIs(Desk(small_task([])).standing, True)

    def test_the_text(self):
        desk = settled_desk()
        self.assertEqual(desk.text.split("\n"), [
            "fun f 1", "rel R 1", "pick Low 1: f(y0) <= p1", "pick Any 0: R(y0)", "pick Up 1: (Low(p1) <= y0 and R(y0))", "--",
            "top 3", "f 9 7 2 5", "R 0 0 1 1", "--", "x 5", "z 2", "--", "Low(x) by 3", "Up(x) by 3", "Any by z", "--",
            "Any = 2", "Low(5) = 2", "Up(5) = 3"])

    def test_parts_without_rows(self):
        book = Book.read("")
        desk = Desk(Task(book, World.read(book, "top 0"), {}, []))
        self.assertEqual(desk.text, "--\ntop 0\n--\n--\n--")
        desk.set_input("b", 1)
        desk.set_input("a", 99)
        self.assertEqual(desk.text, "--\ntop 0\n--\na 99\nb 1\n--\n--")

    def test_equality(self):
        self.assertEqual(Desk(small_task()), Desk(small_task()))
        self.assertNotEqual(Desk(small_task()), settled_desk())
        self.assertNotEqual(Desk(small_task()), Desk(small_task()).text)
        # The history does not count.
        desk = settled_desk()
        desk.undo()
        self.assertEqual(desk, Desk(small_task()))

    def test_a_task_that_was_told_before_stays_as_it_was(self):
        passed = small_task()
        desk = Desk(passed)
        told = desk.task
        world = told.world.text
        guesses = desk.guesses
        desk.settle()
        desk.set_place("R", (3,), False)
        desk.set_input("u", 3)
        desk.add_demand("Low(7) by u")
        desk.remove_demand(1)
        desk.correct(0)
        for task in (passed, told):
            self.assertEqual([demand.text for demand in task.demands], ROWS)
            self.assertEqual((task.world.text, task.inputs), (world, (("x", 5), ("z", 2))))
        self.assertEqual((guesses.text, len(guesses)), ("", 0))


class DeedsTest(PackageTest):

    def becomes(self, desk, rows, inputs, world, guesses, done):
        """The state of a desk is this one."""
        self.assertEqual([demand.text for demand in desk.task.demands], rows)
        self.assertEqual(dict(desk.task.inputs), inputs)
        self.assertEqual(desk.task.world.text, world)
        self.assertEqual(desk.guesses.text, guesses)
        self.assertIs(desk.standing, desk.task.stands(desk.guesses))
        self.assertEqual((desk.done, desk.undone), (done, 0))
        shown = [SMALL.text, "--", world, "--", *[f"{name} {inputs[name]}" for name in sorted(inputs)], "--", *rows, "--"]
        self.assertEqual(desk.text, "\n".join(shown + ([guesses] if guesses else [])))
        self.assertIsNone(wrong_entry(desk.task.world, desk.guesses))

    def test_settling(self):
        desk = Desk(small_task())
        self.assertIsNone(desk.settle())
        self.becomes(desk, ROWS, {"x": 5, "z": 2}, WORLD.text, "Any = 2\nLow(5) = 2\nUp(5) = 3", 1)
        self.assertIs(desk.standing, True)
        self.assertEqual(desk.guesses, climb(small_task()).guesses)
        # Once more: the upper entries are removed first and entered again.
        desk.settle(1)
        self.becomes(desk, ROWS, {"x": 5, "z": 2}, WORLD.text, "Any = 2\nLow(5) = 2\nUp(5) = 3", 2)

    def test_settling_with_limits(self):
        for limit in (0, 1, 2):
            desk = Desk(small_task())
            self.refuses(Unfinished, {"journal": Journal(list(climb(small_task()).journal.steps[:limit]))}, desk.settle, limit)
            self.assertEqual(desk, Desk(small_task()))
            self.assertEqual((desk.done, desk.undone, len(desk.guesses)), (0, 0, 0))
        for limit in (3, 1000, 2000):
            desk = Desk(small_task())
            desk.settle(limit)
            self.assertIs(desk.standing, True)
        # A task that stands with upper entries does not stand without them.
        desk = settled_desk()
        before = desk.text
        self.refuses(Unfinished, {"journal": Journal([])}, desk.settle, 0)
        self.assertEqual((desk.text, desk.done), (before, 1))
        desk = Desk(tower(6))
        desk.settle(63)
        self.assertEqual(desk.guesses, climb(tower(6)).guesses)
        desk = Desk(tower(6))
        desk.settle(limit=63)
        self.assertIs(desk.standing, True)

    def test_the_limit_is_1000_if_none_is_given(self):
        desk = Desk(long_task(16))
        with self.assertRaises(Unfinished) as caught:
            desk.settle()
        self.assertEqual(len(caught.exception.journal), 1000)
        desk.settle(2000)
        self.assertIs(desk.standing, True)

    def test_upper_entries_that_nobody_needs_go_away(self):
        desk = settled_desk()
        desk.remove_demand(2)
        self.assertEqual(desk.guesses.text, "Any = 2\nLow(5) = 2")
        desk.undo()
        self.assertEqual(desk.guesses.text, "Any = 2\nLow(5) = 2\nUp(5) = 3")
        desk.set_input("x", 5)
        self.assertEqual(desk.guesses.text, "Any = 2\nLow(5) = 2")

    def test_setting_a_place(self):
        desk = settled_desk()
        self.assertIsNone(desk.set_place("f", (3,), 0))
        self.becomes(desk, ROWS, {"x": 5, "z": 2}, "top 3\nf 9 7 2 0\nR 0 0 1 1", "Any = 2\nLow(5) = 2", 1 + 1)
        # Low(5) = 2 is not right in a world in which the body holds at 1.
        desk.set_place("f", (1,), 5)
        self.becomes(desk, ROWS, {"x": 5, "z": 2}, "top 3\nf 9 5 2 0\nR 0 0 1 1", "Any = 2", 3)
        desk.set_place("R", (2,), False)
        self.becomes(desk, ROWS, {"x": 5, "z": 2}, "top 3\nf 9 5 2 0\nR 0 0 0 1", "", 4)
        desk.set_place("R", (0,), True)
        self.becomes(desk, ROWS, {"x": 5, "z": 2}, "top 3\nf 9 5 2 0\nR 1 0 0 1", "", 5)
        # What changes nothing is a deed, too, and the upper entries go away.
        desk = settled_desk()
        desk.set_place("f", (3,), 5)
        self.becomes(desk, ROWS, {"x": 5, "z": 2}, WORLD.text, "Any = 2\nLow(5) = 2", 2)

    def test_places_of_two_numbers(self):
        for seed in range(10):
            task = some_task(seed, True)
            desk = Desk(task)
            desk.settle()
            guesses = desk.guesses
            world = desk.task.world.changed("S", (1, 2), True).changed("g", (3, 3), 42)
            desk.set_place("S", (1, 2), True)
            desk.set_place("g", (3, 3), 42)
            self.assertEqual(desk.task.world, world)
            self.assertEqual(desk.guesses, kept(world, kept(task.world.changed("S", (1, 2), True), guesses)))
            self.assertEqual(desk.task.inputs, task.inputs)

    def test_setting_an_input(self):
        desk = settled_desk()
        self.assertIsNone(desk.set_input("x", 1))
        self.becomes(desk, ROWS, {"x": 1, "z": 2}, WORLD.text, "Any = 2\nLow(5) = 2", 2)
        desk.set_input("a", 99)
        self.becomes(desk, ROWS, {"a": 99, "x": 1, "z": 2}, WORLD.text, "Any = 2\nLow(5) = 2", 3)
        desk.settle()
        desk.set_input("x", 5)
        desk.settle()
        self.becomes(desk, ROWS, {"a": 99, "x": 5, "z": 2}, WORLD.text, "Any = 2\nLow(5) = 2\nUp(5) = 3", 6)

    def test_adding_and_removing(self):
        desk = settled_desk()
        self.assertIsNone(desk.add_demand("Low( z+5 ) by  1 + 2"))
        self.becomes(desk, [*ROWS, "Low(z + 5) by 3"], {"x": 5, "z": 2}, WORLD.text, "Any = 2\nLow(5) = 2", 2)
        self.assertEqual(desk.task.false_ones(desk.guesses), (2, 4))
        self.assertIsNone(desk.remove_demand(2))
        self.becomes(desk, [ROWS[0], ROWS[2], "Low(z + 5) by 3"], {"x": 5, "z": 2}, WORLD.text, "Any = 2\nLow(5) = 2", 3)
        desk.remove_demand(3)
        desk.remove_demand(1)
        self.becomes(desk, [ROWS[2]], {"x": 5, "z": 2}, WORLD.text, "Any = 2\nLow(5) = 2", 5)
        desk.remove_demand(1)
        self.becomes(desk, [], {"x": 5, "z": 2}, WORLD.text, "Any = 2\nLow(5) = 2", 6)
        desk.add_demand("Any by 3")
        self.becomes(desk, ["Any by 3"], {"x": 5, "z": 2}, WORLD.text, "Any = 2\nLow(5) = 2", 7)
        # The same demand again is one more.
        desk.add_demand("Any by 3")
        self.becomes(desk, ["Any by 3"] * 2, {"x": 5, "z": 2}, WORLD.text, "Any = 2\nLow(5) = 2", 8)

    def test_correcting(self):
        desk = Desk(small_task())
        self.assertEqual(open_demands(small_task(), Guesses([])), (1, 3))
        self.assertIsNone(desk.correct(3))
        self.becomes(desk, ROWS, {"x": 5, "z": 2}, WORLD.text, "Any = 2", 1)
        desk.correct(999999)
        self.becomes(desk, ROWS, {"x": 5, "z": 2}, WORLD.text, "Any = 2\nLow(5) = 2", 2)
        desk.correct(7)
        self.becomes(desk, ROWS, {"x": 5, "z": 2}, WORLD.text, "Any = 2\nLow(5) = 2\nUp(5) = 3", 3)
        self.assertIs(desk.standing, True)
        desk = Desk(small_task())
        desk.correct(2)
        self.assertEqual(desk.guesses.text, "Low(5) = 2")

    def test_correcting_like_a_climb(self):
        source = random.Random(63)
        for seed in range(12):
            task = some_task(seed, True)
            desk = Desk(task)
            guesses = Guesses([])
            while not desk.standing and desk.done < 190:
                pick = source.randrange(1000000)
                numbers = open_demands(task, guesses)
                guesses = corrected(task, guesses, numbers[pick % len(numbers)])
                desk.correct(pick)
                self.assertEqual(desk.guesses, guesses)
            self.assertIs(task.stands(desk.guesses), desk.standing)

    def test_a_ground_correction_removes_upper_entries(self):
        # The ground demand becomes false by the upper entry.
        desk = Desk(small_task(["Up(x) by 3", "Low(Up(x)) by 2"]))
        desk.correct(0)
        self.assertEqual(desk.guesses.text, "Up(5) = 3")
        desk.correct(0)
        self.assertEqual(desk.guesses.text, "Low(3) = 2")

    def test_the_kept_guesses_of_many_states(self):
        source = random.Random(64)
        desk = Desk(some_task(3, True))
        for _ in range(60):
            kind = source.randrange(5)
            if kind == 0:
                desk.set_place("R", (source.randrange(4),), source.random() < 0.5)
            elif kind == 1:
                desk.set_input(source.choice("xz"), source.randrange(6))
            elif kind == 2 and not desk.standing:
                desk.correct(source.randrange(99))
            elif kind == 3:
                desk.settle()
            else:
                desk.set_place("S", (source.randrange(4), source.randrange(4)), source.random() < 0.5)
            self.assertIsNone(wrong_entry(desk.task.world, desk.guesses))
            self.assertIs(desk.standing, desk.task.stands(desk.guesses))


class HistoryTest(PackageTest):

    def test_undo_and_redo(self):
        desk = Desk(small_task())
        deeds = [lambda: desk.settle(), lambda: desk.set_place("f", (1,), 3), lambda: desk.set_input("x", 3),
                 lambda: desk.add_demand("Low(z) by 3"), lambda: desk.remove_demand(1), lambda: desk.correct(5),
                 lambda: desk.set_input("x", 3)]
        texts = [desk.text]
        for deed in deeds:
            deed()
            texts.append(desk.text)
        self.assertEqual(len(set(texts)), 7)
        for turn in (1, 2):
            for count in range(7, 0, -1):
                self.assertEqual((desk.text, desk.done, desk.undone), (texts[count], count, 7 - count))
                self.assertIs(desk.standing, desk.task.stands(desk.guesses))
                self.assertIsNone(desk.undo())
            self.assertEqual((desk.text, desk.done, desk.undone), (texts[0], 0, 7))
            self.refuses(NothingThere, {}, desk.undo)
            for count in range(1, 8):
                self.assertIsNone(desk.redo())
                self.assertEqual((desk.text, desk.done, desk.undone), (texts[count], count, 7 - count), turn)
                self.assertIs(desk.standing, desk.task.stands(desk.guesses))
            self.refuses(NothingThere, {}, desk.redo)
            self.assertEqual((desk.text, desk.done, desk.undone), (texts[7], 7, 0))

    def test_nothing_there(self):
        desk = Desk(small_task())
        self.refuses(NothingThere, {}, desk.undo)
        self.refuses(NothingThere, {}, desk.redo)
        self.assertEqual((desk, desk.done, desk.undone), (Desk(small_task()), 0, 0))

    def test_a_new_deed_forgets_what_was_undone(self):
        desk = Desk(small_task())
        desk.set_input("x", 1)
        desk.set_input("x", 2)
        desk.set_input("x", 3)
        desk.undo()
        desk.undo()
        self.assertEqual((dict(desk.task.inputs)["x"], desk.done, desk.undone), (1, 1, 2))
        desk.set_input("x", 7)
        self.assertEqual((dict(desk.task.inputs)["x"], desk.done, desk.undone), (7, 2, 0))
        self.refuses(NothingThere, {}, desk.redo)
        desk.undo()
        self.assertEqual(dict(desk.task.inputs)["x"], 1)
        desk.undo()
        self.assertEqual(dict(desk.task.inputs)["x"], 5)
        desk.redo()
        desk.redo()
        self.assertEqual(dict(desk.task.inputs)["x"], 7)

    def test_a_deed_that_is_refused_forgets_nothing(self):
        desk = Desk(small_task())
        desk.settle()
        desk.set_input("x", 3)
        desk.undo()
        for kind, deed in ((UnknownName, lambda: desk.set_place("T", (0,), 1)), (BadInput, lambda: desk.set_input("X", 1)),
                           (BadDemand, lambda: desk.add_demand("x by 3")), (NotOpen, lambda: desk.remove_demand(0)),
                           (NotOpen, lambda: desk.correct(0)), (Unfinished, lambda: desk.settle(0))):
            with self.assertRaises(kind):
                deed()
            self.assertEqual((desk, desk.done, desk.undone), (settled_desk(), 1, 1))
        desk.redo()
        self.assertEqual(dict(desk.task.inputs)["x"], 3)


class ErrorsTest(PackageTest):

    def refused(self, desk, kind, fields, deed, *arguments):
        """A deed is refused, and everything is as before."""
        before = (desk.text, desk.done, desk.undone, desk.standing, desk.guesses.text)
        self.refuses(kind, fields, deed, *arguments)
        self.assertEqual((desk.text, desk.done, desk.undone, desk.standing, desk.guesses.text), before)

    def test_places(self):
        desk = settled_desk()
        self.refused(desk, UnknownName, {"name": "T"}, desk.set_place, "T", (9,), 100)
        self.refused(desk, UnknownName, {"name": "Low"}, desk.set_place, "Low", (0,), 1)
        self.refused(desk, BadPlace, {"place": (4,)}, desk.set_place, "f", (4,), 100)
        self.refused(desk, BadPlace, {"place": (0, 0)}, desk.set_place, "R", (0, 0), True)
        self.refused(desk, TooLarge, {}, desk.set_place, "f", (3,), 100)
        desk.set_place("f", (3,), 99)
        self.assertEqual(desk.task.world.at("f", 3), 99)

    def test_inputs(self):
        desk = settled_desk()
        for name in ("X", "", "y1", "abcdefghi", "not"):
            self.refused(desk, BadInput, {"name": name}, desk.set_input, name, 1)
        self.refused(desk, BadInput, {"name": "x"}, desk.set_input, "x", 100)
        desk.set_input("x", 99)
        desk.set_input("abcdefgh", 0)
        self.assertEqual(desk.task.inputs, (("abcdefgh", 0), ("x", 99), ("z", 2)))

    def test_demands(self):
        desk = settled_desk()
        self.refused(desk, BadDemand, {"row": 4}, desk.add_demand, "Low(x)")
        self.refused(desk, BadDemand, {"row": 4}, desk.add_demand, "Low(x, u) by y1")
        self.refused(desk, MissingInput, {"name": "u"}, desk.add_demand, "Low(u) by v")
        self.refused(desk, NotOpen, {"demand": 0}, desk.remove_demand, 0)
        self.refused(desk, NotOpen, {"demand": 4}, desk.remove_demand, 4)
        self.refused(desk, NotOpen, {"demand": 999999}, desk.remove_demand, 999999)

    def test_60_and_61_demands(self):
        desk = Desk(small_task(["Any by z"] * 59))
        desk.add_demand("Any by 3")
        self.assertEqual(len(desk.task.demands), 60)
        self.refused(desk, TooLarge, {}, desk.add_demand, "nothing")
        desk.remove_demand(17)
        self.refused(desk, BadDemand, {"row": 60}, desk.add_demand, "nothing")
        desk.add_demand("Any by 1")
        self.assertEqual([demand.text for demand in desk.task.demands[58:]], ["Any by 3", "Any by 1"])

    def test_40_and_41_choice_terms(self):
        desk = Desk(small_task([f"Low({number}) by 0" for number in range(39)]))
        desk.add_demand("Low(39) by x")
        self.refused(desk, TooWide, {}, desk.add_demand, "Low(40) by x")
        self.refused(desk, MissingInput, {"name": "u"}, desk.add_demand, "Low(40) by u")

    def test_correcting(self):
        desk = settled_desk()
        self.refused(desk, TooLarge, {}, desk.correct, 1000000)
        self.refused(desk, NotOpen, {"demand": 0}, desk.correct, 999999)
        desk = Desk(small_task([]))
        self.refused(desk, NotOpen, {"demand": 0}, desk.correct, 0)

    def test_settling(self):
        desk = Desk(small_task())
        self.refused(desk, TooLarge, {}, desk.settle, 2001)
        self.refused(desk, Unfinished, {"journal": Journal([])}, desk.settle, 0)

    def many_entries(self, more):
        """A desk with 200 entries of 99, and perhaps some more."""
        book = Book.read("fun f 2\npick Big 2: 99 <= y0\npick Up 2: Big(p1, p2) + 1 <= y0")
        world = World.read(book, "top 0\nf 0")
        rows = [f"Big(x, {number}) by 99" for number in range(40)]
        desk = Desk(Task(book, world, {"x": 0}, rows))
        for number in range(5):
            desk.set_input("x", number)
            desk.settle()
        desk.set_input("x", 5)
        for _ in range(more):
            desk.correct(0)
        return desk

    def test_the_amount_of_point_24(self):
        desk = self.many_entries(0)
        self.assertEqual((len(desk.guesses), sum(row[2] + 1 for row in desk.guesses)), (200, 20000))
        desk.set_place("f", (0, 0), 1)
        self.assertEqual(len(desk.guesses), 200)
        desk.settle()
        self.assertEqual(len(desk.guesses), 240)
        desk = self.many_entries(1)
        self.assertEqual(len(desk.guesses), 201)
        self.refused(desk, TooLarge, {}, desk.set_place, "f", (0, 0), 1)
        self.refused(desk, TooLarge, {}, desk.settle)
        # Correcting, inputs and demands do not examine the guesses.
        desk.correct(0)
        desk.set_input("x", 6)
        desk.remove_demand(40)
        desk.add_demand("Big(6, 7) by 99")
        desk.correct(39)
        self.assertEqual(len(desk.guesses), 203)
        self.assertTrue(desk.guesses.has("Big", (6, 7)))

    def test_entries_of_upper_choices_do_not_count_for_settling(self):
        desk = self.many_entries(0)
        for number in range(40, 0, -1):
            desk.remove_demand(number)
        desk.add_demand("Up(7, 7) by 5")
        desk.correct(0)
        self.assertEqual((len(desk.guesses), desk.standing), (201, True))
        self.refused(desk, TooLarge, {}, desk.set_place, "f", (0, 0), 1)
        desk.settle()
        self.assertEqual(len(desk.guesses), 201)


class RoomTest(PackageTest):
    """198, 199 and 200 deeds."""

    def worked(self, done, task=None):
        """A desk with so many deeds."""
        desk = Desk(task if task is not None else small_task())
        for number in range(done):
            desk.set_input("u", number % 90)
        self.assertEqual((desk.done, desk.undone), (done, 0))
        return desk

    def deeds(self, desk):
        """One deed of each kind."""
        return {"place": lambda: desk.set_place("f", (1,), 3), "input": lambda: desk.set_input("u", 3),
                "add": lambda: desk.add_demand("Any by 3"), "remove": lambda: desk.remove_demand(1),
                "correct": lambda: desk.correct(0), "settle": lambda: desk.settle()}

    def test_199_and_200_deeds(self):
        for last in ("place", "input", "add", "remove", "correct"):
            desk = self.worked(198)
            deeds = self.deeds(desk)
            deeds[last]()
            self.assertEqual((desk.done, desk.undone, desk.standing), (199, 0, False))
            before = desk.text
            for name in deeds:
                self.refuses(TooLarge, {}, deeds[name])
                self.assertEqual((desk.text, desk.done, desk.undone), (before, 199, 0))
            desk.undo()
            self.assertEqual((desk.done, desk.undone), (198, 1))
            desk.redo()
            self.assertEqual((desk.text, desk.done, desk.undone), (before, 199, 0))

    def test_settling_as_the_last_deed(self):
        desk = self.worked(198)
        desk.settle()
        self.assertEqual((desk.done, desk.undone, desk.standing), (199, 0, True))
        before = desk.text
        self.refuses(TooLarge, {}, desk.settle)
        self.assertEqual((desk.text, desk.done, desk.undone), (before, 199, 0))

    def test_all_deeds_can_be_undone(self):
        desk = self.worked(199)
        for count in range(199, 0, -1):
            self.assertEqual((desk.done, desk.undone), (count, 199 - count))
            desk.undo()
        self.assertEqual(desk, Desk(small_task()))
        self.refuses(NothingThere, {}, desk.undo)
        for _ in range(199):
            desk.redo()
        self.assertEqual((desk.done, desk.undone), (199, 0))
        self.refuses(NothingThere, {}, desk.redo)
        self.refuses(TooLarge, {}, desk.set_input, "u", 1)
        # An undone deed makes room.
        desk.undo()
        desk.set_input("u", 1)
        self.assertEqual((desk.done, desk.undone), (199, 0))

    def test_other_errors_come_first(self):
        desk = self.worked(199)
        self.refuses(UnknownName, {"name": "T"}, desk.set_place, "T", (0,), 1)
        self.refuses(BadPlace, {"place": (9,)}, desk.set_place, "f", (9,), 1)
        self.refuses(BadInput, {"name": "X"}, desk.set_input, "X", 1)
        self.refuses(BadInput, {"name": "x"}, desk.set_input, "x", 100)
        self.refuses(BadDemand, {"row": 4}, desk.add_demand, "nothing")
        self.refuses(MissingInput, {"name": "v"}, desk.add_demand, "Any by v")
        self.refuses(NotOpen, {"demand": 7}, desk.remove_demand, 7)
        self.refuses(TooLarge, {}, desk.correct, 0)
        self.refuses(NotOpen, {"demand": 0}, self.worked(199, small_task([])).correct, 0)
        self.refuses(TooWide, {}, self.worked(199, small_task([f"Low({number}) by 0" for number in range(40)])).add_demand,
                     "Low(40) by 0")
        # But before the work, so before Unfinished.
        self.refuses(TooLarge, {}, desk.settle, 0)
        self.refuses(TooLarge, {}, desk.settle, 2000)
        self.assertEqual((desk.done, desk.undone, len(desk.guesses)), (199, 0, 0))
        desk.undo()
        self.refuses(Unfinished, {"journal": Journal([])}, desk.settle, 0)

    def test_undo_and_redo_need_no_room(self):
        desk = self.worked(199)
        desk.undo()
        desk.redo()
        desk.undo()
        self.assertEqual((desk.done, desk.undone), (198, 1))


if __name__ == "__main__":
    unittest.main()
