"""[41] to [44], and [51] of a Table: which books are right, and what they tell of tickets, hours and names."""

import copy
import random
import unittest

from sherdhall.errors import NoBook, NoTicket
from sherdhall.table import Table, replay
from samples import PLAIN
import oracle
from oracle import NAMES, begin, drawn_book, drawn_row, row

READY = row("ready", 1)
TEN = tuple(oracle.HOUSES[:10])


def book(*rows, ticket=1, hour=1, floor=0, age=1):
    """A book row and these rows."""
    return [row("book", age, ticket, hour, floor), *rows]


class Refused(unittest.TestCase):

    def no_book(self, rows, at):
        kept = copy.deepcopy(rows)
        with self.assertRaises(NoBook) as caught:
            replay(rows)
        self.assertEqual(caught.exception.at, at, rows)
        self.assertEqual(rows, kept)

    def right(self, rows):
        self.assertIsInstance(replay(rows), Table)

    def test_no_rows(self):
        self.no_book([], 0)

    def test_the_first_row_is_a_book_row(self):
        for first in (READY, begin(1, "a"), (6, "book", 1, 1, 1), (6, "book", 1, 1, 0, 0), None, [6, "book", 1, 1, 1, 0]):
            self.no_book([first, READY], 0)
        self.no_book([(6, "book", 1, 1)], 0)

    def test_its_floor_is_below_its_hour(self):
        for hour, floor in ((1, 1), (1, 2), (5, 5), (5, 9)):
            self.no_book(book(READY, hour=hour, floor=floor), 0)
        self.right(book(READY, hour=5, floor=4))

    def test_no_ready_row_comes(self):
        self.no_book(book(), 1)
        self.no_book(book((3, "ready")), 1)
        self.no_book(book(begin(1, "a"), begin(2, "a"), ticket=9), 3)
        self.no_book(book(begin(1, "a"), begin(2, "a"), (3, "ready"), ticket=9), 3)
        self.no_book(book(begin(1, "a"), (9, "begin", 2, "a"), ticket=9), 2)

    def test_only_the_last_row_may_be_torn(self):
        self.right(book(READY, (4, "root", 1)))
        self.right(book(READY, (10 ** 9,)))
        self.no_book(book(READY, (4, "root", 1), begin(1, "a")), 2)
        self.no_book(book((11, "begin"), READY), 1)
        self.no_book(book(READY, (4, "root"), (4, "root")), 2)

    def test_what_is_no_row(self):
        for thing in ((1,), (), (2, "root"), (4, "root", 1, True), [4, "root", 1, 1], None, "root", (5, "moved", 1, 0, "A")):
            self.no_book(book(READY, begin(1, "a"), thing), 3)
            self.no_book(book(thing, READY, ticket=9, hour=9), 1)

    def test_a_second_book_or_ready_row(self):
        self.no_book(book(READY, READY), 2)
        self.no_book(book(READY, begin(1, "a"), READY), 3)
        self.no_book(book(row("book", 1, 1, 1, 0), READY), 1)
        self.no_book(book(READY, row("book", 2, 1, 1, 0)), 2)

    def test_the_ready_row_has_the_age(self):
        self.no_book(book(row("ready", 2)), 1)
        self.no_book(book(READY, age=2), 1)
        self.no_book(book(begin(1, "a"), row("ready", 3), READY, ticket=9), 2)
        self.right(book(row("ready", 7), age=7))

    def test_moved_and_floor_rows_come_behind_the_ready_row(self):
        sealed = (begin(1, "a"), row("root", 1, 3))
        for early in (row("moved", 1, 0, "hd"), row("floor", 3)):
            self.no_book(book(*sealed, early, READY, ticket=2, hour=5), 3)
            self.right(book(*sealed, READY, early, ticket=2, hour=5))

    def test_tickets_rise_ahead_of_the_ready_row_below_the_next(self):
        self.right(book(begin(2, "a"), begin(3, "a"), begin(7, "b"), READY, ticket=8))
        self.no_book(book(begin(2, "a"), begin(2, "a"), READY, ticket=8), 2)
        self.no_book(book(begin(3, "a"), begin(2, "a"), READY, ticket=8), 2)
        self.no_book(book(begin(2, "a"), begin(8, "a"), READY, ticket=8), 2)
        self.no_book(book(begin(9, "a"), READY, ticket=8), 1)
        self.no_book(book(begin(1, "a"), READY), 1)

    def test_hours_rise_ahead_of_the_ready_row_below_the_next(self):
        begins = (begin(1, "a"), begin(2, "b"), begin(3, "a"))
        self.right(book(*begins, row("root", 1, 2), row("root", 3, 5), row("root", 2, 7), READY, ticket=4, hour=8))
        self.right(book(*begins, row("root", 1, 2), row("drop", "a", 5), READY, ticket=4, hour=6))
        for second in (row("root", 3, 2), row("root", 2, 1), row("drop", "a", 2), row("root", 3, 8), row("drop", "a", 9)):
            self.no_book(book(*begins, row("root", 1, 2), second, READY, ticket=4, hour=8), 5)

    def test_begins_and_roots_may_be_mixed_ahead_of_the_ready_row(self):
        rows = [begin(1, "a"), row("root", 1, 1), begin(4, "a"), row("drop", "a", 2), row("root", 4, 9), READY]
        table = replay(book(*rows, ticket=6, hour=11, floor=5))
        self.assertEqual(table.hours_of("a"), [(9, 4)])
        self.assertEqual((table.next_ticket(), table.next_hour(), table.least_hour()), (6, 11, 5))

    def test_behind_it_each_begin_row_has_the_next_ticket(self):
        self.right(book(READY, begin(5, "a"), begin(6, "a"), ticket=5))
        for ticket in (1, 4, 6, 7):
            self.no_book(book(READY, begin(ticket, "a"), ticket=5), 2)
        for ticket in (4, 5, 7):
            self.no_book(book(READY, begin(5, "a"), begin(ticket, "a"), ticket=5), 3)

    def test_behind_it_each_root_or_drop_row_has_the_next_hour(self):
        begins = (READY, begin(1, "a"), begin(2, "a"))
        self.right(book(*begins, row("root", 2, 5), row("root", 1, 6), row("drop", "a", 7), hour=5))
        for hour in (1, 4, 6, 7):
            self.no_book(book(*begins, row("root", 1, hour), hour=5), 4)
        for hour in (4, 5, 7):
            self.no_book(book(*begins, row("root", 1, 5), row("root", 2, hour), hour=5), 5)
            self.no_book(book(*begins, row("root", 1, 5), row("drop", "a", hour), hour=5), 5)

    def test_a_roots_ticket_was_begun_and_not_sealed(self):
        self.no_book(book(READY, row("root", 1, 1)), 2)
        self.no_book(book(READY, begin(1, "a"), row("root", 2, 1)), 3)
        self.no_book(book(READY, begin(1, "a"), row("root", 1, 1), row("root", 1, 2)), 4)
        self.no_book(book(begin(1, "a"), row("root", 1, 1), row("root", 1, 2), READY, ticket=2, hour=5), 3)
        self.no_book(book(row("root", 1, 1), begin(1, "a"), READY, ticket=2, hour=5), 1)
        self.no_book(book(begin(1, "a"), row("root", 1, 1), READY, row("root", 1, 5), ticket=2, hour=5), 4)

    def test_a_dropped_name_has_an_object_at_the_hour_ahead(self):
        sealed = (READY, begin(1, "a"), row("root", 1, 1))
        self.no_book(book(READY, row("drop", "a", 1)), 2)
        self.no_book(book(READY, begin(1, "a"), row("drop", "a", 1)), 3)
        self.no_book(book(*sealed, row("drop", "b", 2)), 4)
        self.right(book(*sealed, row("drop", "a", 2)))
        self.no_book(book(*sealed, row("drop", "a", 2), row("drop", "a", 3)), 5)
        self.no_book(book(begin(1, "a"), row("drop", "a", 1), READY, ticket=2, hour=5), 2)

    def test_a_moved_rows_ticket_is_sealed_and_kept(self):
        move = row("moved", 1, 0, "hd")
        sealed = (READY, begin(1, "a"), row("root", 1, 1))
        self.right(book(*sealed, move))
        self.no_book(book(READY, move), 2)
        self.no_book(book(READY, begin(1, "a"), move), 3)
        dropped = (*sealed, row("drop", "a", 2))
        self.right(book(*dropped, move))
        self.right(book(*dropped, row("floor", 1), move))
        self.no_book(book(*dropped, row("floor", 2), move), 6)
        again = (*sealed, begin(2, "a"), row("root", 2, 2))
        self.right(book(*again, move))
        self.no_book(book(*again, row("floor", 2), move), 7)
        self.no_book(book(begin(1, "a"), row("root", 1, 1), row("drop", "a", 2), READY, move, ticket=2, hour=4, floor=2), 5)

    def test_a_moved_rows_place_is_one_of_its_shape(self):
        sealed = (READY, begin(1, "a", shape=PLAIN, homes=TEN), row("root", 1, 1))
        for place in range(10):
            self.right(book(*sealed, row("moved", 1, place, "zz")))
        for place in (10, 11, 22, 10 ** 9):
            self.no_book(book(*sealed, row("moved", 1, place, "zz")), 4)

    def test_a_moved_rows_house_is_none_of_its_homes(self):
        sealed = (READY, begin(1, "a"), row("root", 1, 1))
        for house in ("ha", "hb", "hc"):
            self.no_book(book(*sealed, row("moved", 1, 0, house)), 4)
        moved = (*sealed, row("moved", 1, 0, "hd"))
        self.right(book(*moved, row("moved", 1, 1, "ha")))
        self.right(book(*moved, row("moved", 1, 0, "ha")))
        for house in ("hd", "hb", "hc"):
            self.no_book(book(*moved, row("moved", 1, 1, house)), 5)

    def test_a_floor_rows_hour_is_above_the_floor_and_below_the_next_hour(self):
        for floor in (3, 4):
            self.right(book(READY, row("floor", floor), hour=5, floor=2))
        for floor in (0, 1, 2, 5, 6):
            self.no_book(book(READY, row("floor", floor), hour=5, floor=2), 2)
        self.no_book(book(READY, row("floor", 3), row("floor", 3), hour=5, floor=2), 3)
        self.right(book(READY, row("floor", 3), row("floor", 4), hour=5, floor=2))
        self.no_book(book(READY, row("floor", 0)), 2)

    def test_the_first_row_that_does_not_fit(self):
        self.no_book(book(READY, begin(2, "a"), begin(9, "a"), None), 2)
        self.no_book(book(READY, begin(1, "a"), begin(9, "a"), None), 3)


class DrawnBooks(unittest.TestCase):

    def test_rows_that_do_not_fit(self):
        """Wherever a row of a right book lacks or comes twice, what is told is where the rest stops to fit."""
        for seed in range(60):
            rows = drawn_book(seed)
            self.assertIsInstance(replay(rows), Table)
            draw = random.Random(seed)
            other = list(rows)
            other.insert(draw.randrange(len(rows) + 1), draw.choice(rows))
            due = first_wrong(other)
            if due is None:
                self.assertIsInstance(replay(other), Table)
                continue
            with self.assertRaises(NoBook) as caught:
                replay(other)
            self.assertEqual(caught.exception.at, due)


def first_wrong(rows):
    """The number of the first row that does not fit, by the words of [41]; None of a right book."""
    for at in range(len(rows)):
        if not fits_behind(rows[:at], rows[at]):
            return at
    return None


def fits_behind(rows, one):
    word = one[1]
    if not rows or word == "book":
        return not rows and word == "book"
    ready = any(other[1] == "ready" for other in rows)
    if word == "ready":
        return not ready
    whole = rows if ready else rows + [READY]
    hours = [other[3] for other in oracle.of(rows, "root", "drop")]
    tickets = [other[2] for other in oracle.of(rows, "begin")]
    if word == "begin":
        return one[2] == oracle.next_ticket(rows) if ready else max(tickets, default=0) < one[2] < rows[0][3]
    if word in ("root", "drop"):
        due = one[3] == oracle.next_hour(rows) if ready else max(hours, default=0) < one[3] < rows[0][4]
        if word == "root":
            return due and one[2] in oracle.unsealed(rows)
        return due and oracle.ticket_at(rows, one[2], one[3] - 1) is not None
    if not ready:
        return False
    if word == "floor":
        return oracle.floor(rows) < one[2] < oracle.next_hour(rows)
    return one[2] in oracle.kept(whole) and one[4] not in oracle.about(rows, one[2])[3]


class Told(unittest.TestCase):

    def held_against_all_rows(self, rows, table):
        self.assertEqual(table.next_ticket(), oracle.next_ticket(rows))
        self.assertEqual(table.next_hour(), oracle.next_hour(rows))
        self.assertEqual(table.least_hour(), oracle.floor(rows))
        kept, unsealed = oracle.kept(rows), oracle.unsealed(rows)
        self.assertEqual(table.kept_tickets(), kept)
        self.assertEqual(table.unsealed_tickets(), unsealed)
        for hour in oracle.hours_told(rows):
            names = {name: oracle.ticket_at(rows, name, hour) for name in NAMES + ["other"]}
            self.assertEqual({name: table.ticket_at(name, hour) for name in names}, names)
            self.assertEqual(table.names_at(hour), sorted(name for name in names if names[name] is not None))
        for name in NAMES + ["other"]:
            self.assertEqual(table.hours_of(name), oracle.hours_of(rows, name))
        for ticket in range(oracle.next_ticket(rows) + 2):
            if ticket in kept + unsealed:
                self.assertEqual(table.about_ticket(ticket), oracle.about(rows, ticket))
            else:
                with self.assertRaises(NoTicket) as caught:
                    table.about_ticket(ticket)
                self.assertEqual(caught.exception.ticket, ticket)

    def test_drawn_books(self):
        words = set()
        for seed in range(150):
            rows = drawn_book(seed)
            self.held_against_all_rows(rows, replay(rows))
            words |= {one[1] for one in rows}
        self.assertEqual(len(words), 7)

    def test_a_long_book(self):
        draw = random.Random(7)
        rows = drawn_book(3)
        while len(rows) < 80:
            rows.append(drawn_row(draw, rows))
            if len(rows) % 20 == 0:
                self.held_against_all_rows(rows, replay(rows))

    def test_a_torn_last_row_counts_as_not_there(self):
        for seed in range(30):
            rows = drawn_book(seed)
            more = drawn_row(random.Random(seed), rows)
            for many in range(1, len(more)):
                self.held_against_all_rows(rows, replay(rows + [more[:many]]))

    def test_by_hand(self):
        rows = book(READY, begin(1, "a"), begin(2, "b"), begin(3, "a"), row("root", 1, 1), row("root", 3, 2),
                    row("root", 2, 3), row("drop", "a", 4), row("moved", 2, 1, "hz"))
        table = replay(rows)
        self.assertEqual((table.next_ticket(), table.next_hour(), table.least_hour()), (4, 5, 0))
        self.assertEqual((table.kept_tickets(), table.unsealed_tickets()), ([1, 2, 3], []))
        self.assertEqual([table.ticket_at("a", hour) for hour in range(5)], [None, 1, 3, 3, None])
        self.assertEqual([table.ticket_at("b", hour) for hour in range(5)], [None, None, None, 2, 2])
        self.assertEqual([table.names_at(hour) for hour in range(5)], [[], ["a"], ["a"], ["a", "b"], ["b"]])
        self.assertEqual(table.hours_of("a"), [(1, 1), (2, 3), (4, None)])
        self.assertEqual(table.about_ticket(2), ("b", 3, (1, 1, 1), ["ha", "hz", "hc"]))
        table = replay(rows + [row("floor", 2)])
        self.assertEqual((table.kept_tickets(), table.hours_of("a")), ([2, 3], [(2, 3), (4, None)]))
        table = replay(rows + [row("floor", 3)])
        self.assertEqual((table.kept_tickets(), table.hours_of("a")), ([2, 3], [(2, 3), (4, None)]))
        table = replay(rows + [row("floor", 4)])
        self.assertEqual((table.kept_tickets(), table.hours_of("a")), ([2], []))
        self.assertEqual(table.hours_of("b"), [(3, 2)])

    def test_of_no_name_nothing(self):
        table = replay(book(READY, begin(1, "a"), row("root", 1, 1)))
        for name in ("", "A", "a b", "abcdefghi", "zz"):
            self.assertEqual((table.ticket_at(name, 1), table.hours_of(name)), (None, []))

    def test_every_told_list_is_the_askers_own(self):
        rows = book(READY, begin(1, "a"), row("root", 1, 1), begin(2, "a"))
        table = replay(rows)
        kept = list(rows)
        for asked in (table.kept_tickets, table.unsealed_tickets, lambda: table.names_at(1),
                      lambda: table.hours_of("a"), lambda: table.hours_of("b"), lambda: table.about_ticket(1)[3]):
            due = list(asked())
            told = asked()
            self.assertIs(type(told), list)
            told.append(5)
            told.reverse()
            self.assertEqual(asked(), due)
        rows.append(None)
        rows[0] = None
        self.assertEqual(table.next_ticket(), 3)
        self.assertEqual(kept[0], row("book", 1, 1, 1, 0))

    def test_the_same_again(self):
        for seed in range(10):
            rows = drawn_book(seed)
            kept = copy.deepcopy(rows)
            self.held_against_all_rows(rows, replay(rows))
            self.held_against_all_rows(rows, replay(rows))
            self.assertEqual(rows, kept)


if __name__ == "__main__":
    unittest.main()
