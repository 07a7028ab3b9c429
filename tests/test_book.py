"""Promise [44]."""

import random
import unittest

from tests.helpers import MANY, PIECES, TASKS, all_kinds, composed, done, fewest_searched, of_other_kinds, raised
from tests.helpers import told_by
from tests.test_writes import STAYS, SWAP
from whilemoved.book import Book
from whilemoved.changes import with_spare
from whilemoved.errors import Broken, CannotDo, NoIndex, NoPromise, NotRight, NotSafe, Nothing, TooMany, Wrong
from whilemoved.fewsums import fewest_sum_writes
from whilemoved.forms import is_task
from whilemoved.judge import is_safe
from whilemoved.layouts import can_be_done, led
from whilemoved.once import can_once
from whilemoved.store import Store
from whilemoved.writes import fewest_writes

TASK = ((1, 1), (0, 1, None), (1, 0, None))
WIDE = ((1, 1), (0, 1, None, None), (1, 0, None, None))
STRETCH = ((2, 0),)


def state(book):
    return book.task(), book.promises()


def undoable(book):
    """How many deeds can be taken back."""
    twin, many = book.twin(), 0
    while raised(twin.undo) is None:
        many += 1
    return many


class Books(unittest.TestCase):
    def check_refused(self, book, error, fields, name, *given):
        """That a deed raises an error that keeps the very objects, and changes nothing, also for undo."""
        before, twin, many, shown = state(book), book.twin(), undoable(book), repr(given)
        got = raised(getattr(book, name), *given)
        self.assertIs(type(got), error, (name, given))
        self.assertEqual(list(vars(got)), list(fields))
        for key, thing in fields.items():
            self.assertIs(getattr(got, key), thing, (name, given))
        self.assertEqual(state(book), before)
        self.assertTrue(book == twin)
        self.assertEqual([undoable(book), repr(given)], [many, shown])

    def check_done(self, book, name, *given):
        """That a deed returns None, and can be taken back."""
        before, many = state(book), undoable(book)
        self.assertIsNone(getattr(book, name)(*given))
        twin = book.twin()
        self.assertEqual(undoable(book), many + 1)
        self.assertIsNone(twin.undo())
        self.assertEqual(state(twin), before)


class Made(Books):
    def test_at_first(self):
        for task in (TASK, WIDE, ((), (), ()), STAYS):
            self.assertEqual(state(Book(task)), (task, []))
            self.assertIs(type(raised(Book(task).undo)), Nothing)

    def test_wrong_tasks(self):
        bad = [((1,), (0,), (0, 0)), ((2,), (0,), (0,)), ((1,), (0,), (None,)), Book(TASK), Store(((), (), ()), ())]
        for thing in all_kinds() + of_other_kinds(TASK) + bad:
            before = repr(thing)
            self.assertEqual(told_by(raised(Book, thing)), (Wrong, {"place": 0}), thing)
            self.assertEqual(repr(thing), before)

    def test_more_than_sixteen_places(self):
        task = with_spare(TASK, 20)
        self.assertEqual(Book(task).task(), task)

    def test_what_is_told_may_be_changed(self):
        book = done(Book(TASK), ("promise", ("writes", 3)), ("promise", ("sums", 1, 9)))
        book.promises().clear()
        book.promises().append(None)
        self.assertEqual(book.promises(), [("writes", 3), ("sums", 1, 9)])
        self.assertIsNot(book.promises(), book.promises())


class Places(Books):
    def test_open_and_free(self):
        book = Book(TASK)
        self.check_done(book, "add_place")
        self.assertEqual(book.task(), with_spare(TASK, 1))
        self.assertEqual(done(Book(((), (), ())), ("add_place",)).task(), ((), (None,), (None,)))

    def test_sixteen_at_the_most(self):
        book = Book(with_spare(TASK, 12))
        self.check_done(book, "add_place")
        self.assertEqual(len(book.task()[1]), 16)
        self.assertEqual(told_by(raised(book.add_place)), (TooMany, {"most": 16}))
        self.assertEqual(told_by(raised(Book(with_spare(TASK, 20)).add_place)), (TooMany, {"most": 16}))
        before, many = state(book), undoable(book)
        raised(book.add_place)
        self.assertEqual([state(book), undoable(book)], [before, many])

    def test_all_promises_are_kept(self):
        for task in composed(1, 60, PIECES, 9, 8):
            book = Book(task)
            for thing in ([("writes", fewest_writes(task) or 0), ("stretches", 1), ("stretches", 2)]
                          + [("sums", by, fewest_sum_writes(task, by) or 0) for by in (1, 2)]):
                raised(book.promise, thing)
            kept = book.promises()
            self.assertIsNone(book.add_place())
            again = Book(book.task())
            for thing in kept:
                self.assertIsNone(again.promise(thing))


class Wishes(Books):
    def test_wanted_and_free(self):
        book = Book(WIDE)
        self.check_done(book, "set_wish", 3, 0)
        self.assertEqual(book.task(), (WIDE[0], WIDE[1], (1, 0, None, 0)))
        self.check_done(book, "set_wish", 1, None)
        self.assertEqual(book.task()[2], (1, None, None, 0))
        # Even what was wanted already.
        self.check_done(book, "set_wish", 3, 0)
        self.check_done(book, "set_wish", 2, None)

    def test_wrong_places_ahead_of_wrong_items(self):
        book = Book(TASK)
        for thing in all_kinds() + [3, -1, (0,), "1", True, False, Book(TASK)]:
            for item in (0, None, 2, True, thing):
                self.assert_wrong(book, 0, "set_wish", thing, item)
        for thing in [kind for kind in all_kinds() if kind is not None] + [2, -1, (0,), "1", True, False, Book(TASK)]:
            self.assert_wrong(book, 1, "set_wish", 0, thing)

    def assert_wrong(self, book, place, name, *given):
        self.check_refused(book, Wrong, {"place": place}, name, *given)

    def test_no_place(self):
        self.assert_wrong(Book(((), (), ())), 0, "set_wish", 0, None)

    def test_not_right(self):
        book = Book(TASK)
        for place, item, value in ((0, None, 1), (1, None, 0), (0, 0, 1), (1, 1, 0)):
            self.check_refused(book, NotRight, {"value": value}, "set_wish", place, item)
        self.assertIsNone(book.set_wish(2, 1))
        self.assertIsNone(book.set_wish(0, 0))

    def test_not_right_ahead_of_broken(self):
        book = done(Book(WIDE), ("promise", ("writes", 3)), ("set_wish", 3, 0))
        # With value 0 wanted there, too, four places would be wrong.
        self.check_refused(book, NotRight, {"value": 1}, "set_wish", 0, 0)
        promise = book.promises()[0]
        self.check_refused(book, Broken, {"promise": promise}, "set_wish", 2, 1)


class Needs(Books):
    def test_more_and_less(self):
        book = Book(((2, 1), (0, 0, 0, 1), (0, 0, 0, 1)))
        self.check_done(book, "set_need", 0, 3)
        self.assertEqual(book.task()[0], (3, 1))
        self.check_done(book, "set_need", 0, 1)
        self.check_done(book, "set_need", 0, 1)
        self.assertEqual(book.task()[0], (1, 1))

    def test_wrong_values_ahead_of_wrong_needs(self):
        book = Book(((2, 1), (0, 0, 0, 1), (0, 0, 0, 1)))
        for thing in all_kinds() + [2, -1, (0,), "1", True, False, Book(TASK)]:
            for need in (1, 0, True, thing):
                self.check_refused(book, Wrong, {"place": 0}, "set_need", thing, need)
        for thing in [kind for kind in all_kinds() if kind != 10 ** 39] + [0, -1, (1,), "1", True, False, Book(TASK)]:
            self.check_refused(book, Wrong, {"place": 1}, "set_need", 0, thing)

    def test_not_right(self):
        book = Book(((1, 1), (0, 0, 1, 1), (0, 0, 1, None)))
        for value, need in ((1, 2), (1, 3), (0, 3), (0, 10 ** 39)):
            self.check_refused(book, NotRight, {"value": value}, "set_need", value, need)
        book = Book(((1, 1), (0, 0, 1, None), (0, 0, 1, 1)))
        self.check_refused(book, NotRight, {"value": 1}, "set_need", 1, 2)
        self.check_done(book, "set_need", 0, 2)

    def test_broken(self):
        book = done(Book(((1, 1), (0, 0, 1), (1, 0, 0))), ("promise", ("sums", 3, 5)), ("promise", ("writes", 2)))
        sums, writes = book.promises()
        self.check_refused(book, Broken, {"promise": sums}, "set_need", 0, 2)
        book.free(0)
        self.check_refused(book, Broken, {"promise": writes}, "set_need", 0, 2)
        book.free(0)
        self.check_done(book, "set_need", 0, 2)
        self.check_refused(book, NotRight, {"value": 0}, "set_need", 0, 3)


class Going(Books):
    def test_done(self):
        book = Book(TASK)
        for stretch, layout in ((STRETCH, (0, 1, 0)), (((0, 1),), (1, 1, 0)), (((1, 2),), (1, 0, 0))):
            self.check_done(book, "go_on", stretch)
            self.assertEqual(book.task(), (TASK[0], layout, TASK[2]))
        # Even what changes nothing.
        self.check_done(book, "go_on", ((2, 1),))
        self.assertEqual(book.task()[1], (1, 0, 0))

    def test_wrong_stretches(self):
        bad = [(), ((0, 3),), ((3, 0),), ((0, 0),), ((0, 1), (1, 2)), ((1, 2), (0, 2)), ((0, 2), (0, 1)), STRETCH[0]]
        bad.extend([(STRETCH,), Book(TASK)])
        for thing in all_kinds() + of_other_kinds(STRETCH) + bad:
            self.check_refused(Book(TASK), Wrong, {"place": 0}, "go_on", thing)

    def test_the_order_of_errors(self):
        book = done(Book(TASK), ("promise", ("writes", 3)), ("promise", ("sums", 2, 4)))
        # It cannot be done, and is not safe either.
        self.assertEqual(told_by(raised(book.go_on, ((0, 2),))), (CannotDo, {"index": 0}))
        self.check_error(book, CannotDo, ((0, 2), (1, 2)))
        self.check_error(book, NotSafe, ((0, 1),))
        self.check_error(book, NotSafe, ((1, 0), (2, 0)))
        book = done(Book(WIDE), ("promise", ("stretches", 2)), ("promise", ("writes", 4)), ("promise", ("sums", 1, 3)))
        self.check_error(book, NotSafe, ((0, 1), (2, 1)))
        self.assertIsNone(book.go_on(((2, 0), (3, 1))))
        self.assertEqual(fewest_writes(book.task()), 2)
        book = done(Book(((1, 1), (0, 0, 1), (0, 1, None))), ("promise", ("writes", 2)), ("promise", ("stretches", 1)))
        self.check_error(book, NotSafe, ((2, 1),))
        self.check_refused(book, Broken, {"promise": book.promises()[1]}, "go_on", ((0, 2),))

    def check_error(self, book, kind, stretch):
        before = state(book)
        self.assertEqual(told_by(raised(book.go_on, stretch)), (kind, {"index": 0}))
        self.assertEqual(state(book), before)

    def test_promises_are_kept_on_the_way(self):
        book = done(Book(TASK), ("promise", ("writes", 3)))
        writes = book.promises()[0]
        done(book, ("go_on", STRETCH), ("go_on", ((0, 1),)), ("promise", ("writes", 1)))
        # This would put back what has been done.
        self.check_refused(book, Broken, {"promise": book.promises()[1]}, "go_on", ((0, 2),))
        book.free(1)
        self.check_done(book, "go_on", ((0, 2),))
        self.assertEqual(book.promises(), [writes])


def is_promise_by_the_words(thing):
    whole = [item for item in thing[1:] if type(item) is int and item >= 0]
    if thing[:1] in (("writes",), ("stretches",)) and len(thing) == 2:
        return len(whole) == 1 and (thing[0] == "writes" or thing[1] in (1, 2))
    return thing[:1] == ("sums",) and len(thing) == 3 and len(whole) == 2 and thing[1] > 0


class Promises(Books):
    def test_what_is_none(self):
        bad = [
            (), ("writes",), ("writes", -1), ("writes", True), ("writes", 1, 1), ("writes", None), ("writes", "3"),
            ["writes", 3], ("stretches", 0), ("stretches", 3), ("stretches", -1), ("stretches", True),
            ("stretches", 1, 1), ("stretches",),
            ("sums", 0, 3), ("sums", -1, 3), ("sums", 1, -1), ("sums", True, 3), ("sums", 1, True), ("sums", 1),
            ("sums",), ("sums", 1, 3, 3), ("sums", 1, None), ("sums", None, 1), ("sums", "1", 3), ("sum", 1, 3),
            ("Writes", 3), (3, "writes"), (("writes",), 3), ([], 3), ({}, 1, 3), (None, 3), (Book(TASK), 3),
            {"writes": 3}, "writes", ("writes", (3,)), ("", 1),
        ]
        for thing in bad:
            if isinstance(thing, tuple):
                self.assertFalse(is_promise_by_the_words(thing), thing)
        for thing in all_kinds() + bad + of_other_kinds(("writes", 1)) + of_other_kinds(("sums", 1, 1)):
            self.check_refused(Book(((), (), ())), NoPromise, {"promise": thing}, "promise", thing)

    def test_what_is_one(self):
        for thing in (
                ("writes", 0), ("writes", 10 ** 39), ("stretches", 1), ("stretches", 2), ("sums", 1, 0),
                ("sums", 10 ** 39, 10 ** 39)):
            book = Book(((), (), ()))
            self.check_done(book, "promise", thing)
            self.check_done(book, "promise", thing)
            self.assertEqual(book.promises(), [thing, thing])

    def test_broken_keeps_the_very_object(self):
        for task, thing in (
                (TASK, ("writes", 2)), (TASK, ("stretches", 1)), (TASK, ("stretches", 2)), (TASK, ("sums", 9, 2)),
                (SWAP, ("writes", 99)), (SWAP, ("sums", 1, 99)), (WIDE, ("stretches", 1))):
            self.check_refused(Book(task), Broken, {"promise": thing}, "promise", thing)

    def test_the_first_promise_that_is_not_kept(self):
        book = done(Book(WIDE), ("promise", ("sums", 1, 3)), ("promise", ("writes", 3)), ("promise", ("stretches", 2)))
        sums, writes, stretches = book.promises()
        self.assertIsNone(book.set_wish(3, 0))
        self.check_refused(book, Broken, {"promise": sums}, "set_wish", 2, 1)
        book.free(0)
        self.check_refused(book, Broken, {"promise": writes}, "set_wish", 2, 1)
        book.free(0)
        self.check_done(book, "set_wish", 2, 1)
        self.assertEqual(book.promises(), [stretches])

    def test_by_the_search(self):
        seen = {}
        for task in TASKS[::5]:
            fewest, fewer = fewest_searched(task, MANY), [fewest_searched(task, k) for k in (1, 2)]
            for most in range(6):
                self.check_kept(task, ("writes", most), fewest is not None and fewest <= most, seen)
                one = set(task[0]) <= {1}
                self.check_kept(task, ("sums", 1, most), one and fewest is not None and fewest <= most, seen)
            for most in (1, 2):
                self.check_kept(task, ("stretches", most), fewer[most - 1] is not None, seen)
        self.assertGreater(min(seen.values()), 50)

    def check_kept(self, task, thing, kept, seen):
        book = Book(task)
        if kept:
            self.assertIsNone(book.promise(thing))
            self.assertEqual(book.promises(), [thing])
        else:
            self.assertEqual(told_by(raised(book.promise, thing)), (Broken, {"promise": thing}))
        seen[thing[0], kept] = seen.get((thing[0], kept), 0) + 1

    def test_sums(self):
        four = with_spare(((1,) * 4, (0, 1, 2, 3), (1, 0, 3, 2)), 1)
        for by, least in ((1, 6), (2, 5), (3, 5), (11, 5), (10 ** 39, 5)):
            self.assertIsNone(Book(four).promise(("sums", by, least)))
            thing = ("sums", by, least - 1)
            self.check_refused(Book(four), Broken, {"promise": thing}, "promise", thing)
        more, thing = ((2,), (0, 0), (0, 0)), ("sums", 1, 99)
        self.check_refused(Book(more), Broken, {"promise": thing}, "promise", thing)

    def test_free(self):
        book = done(Book(TASK), ("promise", ("writes", 3)), ("promise", ("sums", 1, 3)), ("promise", ("writes", 9)))
        for thing in all_kinds() + [3, -1, -3, True, False, (0,), "0", Book(TASK)]:
            self.check_refused(book, NoIndex, {"index": thing}, "free", thing)
        many = undoable(book)
        self.assertEqual([book.free(1), book.promises()], [("sums", 1, 3), [("writes", 3), ("writes", 9)]])
        self.assertEqual([book.free(1), book.free(0), book.promises()], [("writes", 9), ("writes", 3), []])
        self.assertEqual(undoable(book), many + 3)
        self.check_refused(book, NoIndex, {"index": 0}, "free", 0)


class Undo(Books):
    DEEDS = (
        ("promise", ("writes", 5)), ("add_place",), ("go_on", STRETCH), ("set_wish", 3, 1), ("set_need", 1, 1),
        ("promise", ("sums", 2, 5)), ("free", 0), ("set_wish", 3, None), ("go_on", ((2, 0),)))

    def test_all_that_changes(self):
        book, states = Book(TASK), []
        for deed in self.DEEDS:
            states.append(state(book))
            done(book, deed)
        for told in states[::-1]:
            self.assertIsNone(book.undo())
            self.assertEqual(state(book), told)
        self.assertEqual(told_by(raised(book.undo)), (Nothing, {}))

    def test_what_failed_is_not_taken_back(self):
        book = done(Book(TASK), ("promise", ("writes", 3)), ("go_on", STRETCH))
        for deed in (
                ("set_wish", 0, 0), ("set_wish", 9, 0), ("go_on", ((0, 9),)), ("promise", ("writes", 0)), ("free", 1),
                ("promise", 3)):
            self.assertIsNotNone(raised(getattr(book, deed[0]), *deed[1:]))
        book.undo()
        self.assertEqual(state(book), (TASK, [("writes", 3)]))
        book.undo()
        self.assertEqual(state(book), (TASK, []))
        self.assertIs(type(raised(book.undo)), Nothing)

    def test_twins(self):
        book = done(Book(TASK), *self.DEEDS[:4])
        twin = book.twin()
        self.assertTrue(book == twin)
        self.assertEqual([type(twin), undoable(twin), undoable(book)], [Book, 4, 4])
        done(twin, ("undo",), ("undo",), ("set_wish", 3, 0))
        self.assertEqual([book.task()[1:], undoable(book)], [((0, 1, 0, None), (1, 0, None, 1)), 4])
        done(book, ("promise", ("writes", 9)))
        self.assertEqual(twin.promises(), [("writes", 5)])
        self.assertFalse(book == twin)


class Equal(Books):
    def test_tasks_and_promises_alone(self):
        self.assertTrue(Book(TASK) == Book(TASK))
        self.assertFalse(Book(TASK) != Book(TASK))
        self.assertFalse(Book(TASK) == Book(WIDE))
        self.assertTrue(done(Book(TASK), ("add_place",)) == Book(with_spare(TASK, 1)))
        one, other = ("promise", ("writes", 3)), ("promise", ("sums", 1, 3))
        self.assertTrue(done(Book(TASK), one, other) == done(Book(TASK), ("add_place",), ("undo",), one, other))
        self.assertFalse(done(Book(TASK), one, other) == done(Book(TASK), other, one))
        self.assertFalse(done(Book(TASK), one) == Book(TASK))
        self.assertTrue(done(Book(TASK), one, ("free", 0)) == Book(TASK))

    def test_nothing_else(self):
        for thing in all_kinds() + [TASK, Store(((), (), ()), ()), (TASK, [])]:
            self.assertIs(Book(TASK) == thing, False)
            self.assertIs(Book(TASK) != thing, True)
            self.assertIs(thing == Book(TASK), False)
            self.assertIs(Book(((), (), ())) == thing, False)


def kept_by(task, promises):
    for thing in promises:
        if thing[0] == "writes":
            good = fewest_writes(task) is not None and fewest_writes(task) <= thing[1]
        elif thing == ("stretches", 1):
            good = can_once(task)
        elif thing[0] == "stretches":
            good = fewest_searched(task, 2) is not None
        else:
            good = set(task[0]) <= {1} and fewest_sum_writes(task, thing[1]) is not None
            good = good and fewest_sum_writes(task, thing[1]) <= thing[2]
        if not good:
            return thing
    return None


class Walks(Books):
    """Books that are led through deeds of all kinds, beside a plain account of what they are to be."""

    def foretold(self, task, promises, deed):
        """The error of a deed, or the task and promises behind it."""
        needs, old, wish = task
        if deed[0] == "add_place":
            return with_spare(task, 1), promises
        if deed[0] == "free":
            if deed[1] >= len(promises):
                return NoIndex, deed[1]
            return task, promises[:deed[1]] + promises[deed[1] + 1:]
        if deed[0] == "promise":
            after, promises = task, promises + [deed[1]]
        elif deed[0] == "go_on":
            if not can_be_done(old, deed[1]):
                return CannotDo, 0
            if not is_safe(needs, old, deed[1]):
                return NotSafe, 0
            after = (needs, led(old, deed[1]), wish)
        else:
            row = (wish if deed[0] == "set_wish" else needs)
            row = row[:deed[1]] + (deed[2],) + row[deed[1] + 1:]
            after = (needs, old, row) if deed[0] == "set_wish" else (row, old, wish)
            for value, need in enumerate(after[0]):
                if min(old.count(value), after[2].count(value)) < need:
                    return NotRight, value
        broken = kept_by(after, promises)
        return (after, promises) if broken is None else (Broken, broken)

    def some_deed(self, chance, task):
        needs, old = task[0], task[1]
        places = list(range(len(old)))
        kinds = ["promise", "free", "set_wish", "set_wish", "set_need", "go_on", "go_on", "add_place"]
        kind = chance.choice(kinds[:7] if len(old) > 3 else kinds)
        if kind == "promise":
            most = chance.randint(0, 4)
            sums = ("sums", chance.randint(1, 3), most)
            return kind, chance.choice((("writes", most), ("stretches", chance.randint(1, 2)), sums))
        if kind == "free":
            return kind, chance.randint(0, 3)
        if kind == "set_wish":
            return kind, chance.choice(places), chance.choice([None] + list(range(len(needs))))
        if kind == "set_need":
            return kind, chance.randrange(len(needs)), chance.randint(1, 2)
        if kind == "add_place":
            return (kind,)
        row = chance.sample(places, 2)
        return kind, ((row[0], row[1]),)

    def test_walks(self):
        chance, seen = random.Random(1), {}
        for start in [task for task in TASKS if len(task[0]) == 2 and len(task[1]) == 4][::17]:
            book = Book(start)
            for _ in range(25):
                task, promises = state(book)
                deed = self.some_deed(chance, task)
                told = self.foretold(task, promises, deed)
                error = raised(getattr(book, deed[0]), *deed[1:])
                if isinstance(told[0], type):
                    got = (type(error), list(vars(error).values()))
                    self.assertEqual(got, (told[0], [told[1]]), (task, promises, deed))
                    self.assertEqual(state(book), (task, promises))
                else:
                    self.assertIsNone(error, (task, promises, deed))
                    self.assertEqual(state(book), (told[0], told[1]))
                self.assertTrue(is_task(book.task()))
                self.assertIsNone(kept_by(book.task(), book.promises()))
                seen[deed[0], type(error)] = seen.get((deed[0], type(error)), 0) + 1
        for key in (
                ("set_wish", NotRight), ("set_wish", Broken), ("set_need", NotRight), ("set_need", Broken),
                ("go_on", CannotDo), ("go_on", NotSafe), ("go_on", Broken), ("promise", Broken), ("free", NoIndex)):
            self.assertGreater(seen.get(key, 0), 3, key)


class Bounds(Books):
    def test_the_bounds(self):
        old = tuple(range(12)) + (0, 1, 2, 3)
        wish = (1, 0, 3, 2, 5, 4, 7, 6, 9, 8, 11, 10) + (None,) * 4
        book = Book(((1,) * 12, old, wish))
        fewest = fewest_writes(book.task())
        for thing in (("writes", fewest), ("sums", 3, fewest), ("sums", 10, fewest)):
            self.assertIsNone(book.promise(thing))
        less = ("writes", fewest - 1)
        self.assertEqual(told_by(raised(book.promise, less)), (Broken, {"promise": less}))
        self.assertEqual(type(raised(book.promise, ("stretches", 2))), Broken)
        book = Book(((1,) * 8, tuple(range(8)) * 2, tuple(range(7, -1, -1)) + (None,) * 8))
        self.assertIsNone(book.promise(("stretches", 2)))
        self.assertEqual(told_by(raised(book.add_place)), (TooMany, {"most": 16}))
        book = Book(((4, 4, 4), (0, 1, 2) * 4 + (None,) * 4, (1, 2, 0) * 4 + (None,) * 4))
        self.assertEqual(type(raised(book.promise, ("sums", 1, 99))), Broken)
        self.assertIsNone(book.promise(("writes", 13)))


if __name__ == "__main__":
    unittest.main()
