"""Point [4]: craneyard/moves.py, against a search through all rows of places."""

import itertools
import unittest

from craneyard.moves import moved, span
from craneyard.rails import Rail

# End, room and speeds of small rails, on which every row can be tried.
SMALL = [
    (5, 1, [2]),
    (6, 1, [1, 3]),
    (6, 3, [2, 2]),
    (5, 5, [4, 1]),
    (6, 1, [2, 1, 2]),
    (6, 2, [1, 3, 1]),
    (6, 2, [9, 9, 9]),
    (4, 2, [1, 1, 1]),
]


def rail_of(end, room, speeds):
    return Rail(end, room, [(speed, 1) for speed in speeds])


def rows_apart(rail):
    """All rows of places that are apart, straight by the words of the document."""
    many = len(rail.cranes)
    found = []
    for row in itertools.product(range(rail.end + 1), repeat=many):
        if all(row[k] - row[k - 1] >= rail.room for k in range(1, many)):
            found.append(list(row))
    return found


def rows_let(rail, places, at_work):
    rows = []
    for row in rows_apart(rail):
        for crane, place in enumerate(row):
            way = abs(place - places[crane])
            if way > (0 if at_work[crane] else rail.cranes[crane][0]):
                break
        else:
            rows.append(row)
    return rows


def nearest_rows(rows, places, goals, ranks):
    """The rows that are left when each crane by its rank has kept only those nearest to its wish."""
    for crane in ranks:
        wish = places[crane] if goals[crane] is None else goals[crane]
        nearest = min(abs(row[crane] - wish) for row in rows)
        rows = [row for row in rows if abs(row[crane] - wish) == nearest]
    return rows


def truths(many):
    return [list(row) for row in itertools.product((False, True), repeat=many)]


class Span(unittest.TestCase):
    def test_a_lone_crane(self):
        rail = rail_of(10, 1, [3])
        self.assertEqual(span(rail, [5], [False], 0), (2, 8))
        self.assertEqual(span(rail, [1], [False], 0), (0, 4))
        self.assertEqual(span(rail, [9], [False], 0), (6, 10))
        self.assertEqual(span(rail, [5], [True], 0), (5, 5))

    def test_the_rail_holds_back(self):
        rail = rail_of(20, 4, [100, 100, 100])
        spans = [span(rail, [5, 10, 15], [False] * 3, crane) for crane in range(3)]
        self.assertEqual(spans, [rail.reach(crane) for crane in range(3)])

    def test_one_at_work_holds_back_all(self):
        rail = rail_of(30, 2, [100, 100, 100])
        at_work = [False, True, False]
        spans = [span(rail, [4, 10, 20], at_work, crane) for crane in range(3)]
        self.assertEqual(spans, [(0, 8), (10, 10), (12, 30)])

    def test_a_slow_one_holds_back_the_ones_behind_it(self):
        rail = rail_of(30, 2, [10, 10, 1])
        spans = [span(rail, [4, 8, 12], [False] * 3, crane) for crane in range(3)]
        self.assertEqual(spans, [(0, 9), (2, 11), (11, 13)])

    def test_the_greatest_rail(self):
        rail = Rail(10 ** 12, 10 ** 6, [(10 ** 9, 1), (10 ** 9, 1)])
        places = [5 * 10 ** 11, 5 * 10 ** 11 + 10 ** 6]
        self.assertEqual(span(rail, places, [False, True], 0), (5 * 10 ** 11 - 10 ** 9, 5 * 10 ** 11))
        self.assertEqual(span(rail, places, [False, False], 0)[1], 5 * 10 ** 11 + 10 ** 9)

    def test_as_searched(self):
        for size in SMALL:
            rail = rail_of(*size)
            for places, at_work in itertools.product(rows_apart(rail), truths(len(size[2]))):
                rows = rows_let(rail, places, at_work)
                for crane in range(len(places)):
                    stood = [row[crane] for row in rows]
                    found = span(rail, places, at_work, crane)
                    self.assertEqual(found, (min(stood), max(stood)), (size, places, at_work, crane))

    def test_it_is_a_tuple_and_changes_nothing(self):
        rail = rail_of(20, 4, [3, 3])
        places, at_work = [2, 9], [False, True]
        self.assertIs(span(rail, places, at_work, 0).__class__, tuple)
        self.assertEqual((places, at_work), ([2, 9], [False, True]))
        self.assertEqual((rail.end, rail.room, rail.cranes), (20, 4, ((3, 1), (3, 1))))


class Moved(unittest.TestCase):
    def test_a_lone_crane(self):
        rail = rail_of(10, 1, [3])
        for place, goal, told in ((5, 9, 8), (5, 0, 2), (5, 6, 6), (5, 5, 5), (5, None, 5), (0, 10, 3), (2, 0, 0)):
            with self.subTest(place=place, goal=goal):
                self.assertEqual(moved(rail, [place], [False], [goal], [0]), [told])

    def test_one_at_work_stays_whatever_its_goal(self):
        rail = rail_of(10, 1, [3, 3])
        self.assertEqual(moved(rail, [2, 6], [True, False], [9, 0], [0, 1]), [2, 3])
        self.assertEqual(moved(rail, [2, 6], [True, True], [9, 0], [1, 0]), [2, 6])

    def test_a_goal_at_nought_is_a_goal(self):
        rail = rail_of(10, 1, [3, 3])
        self.assertEqual(moved(rail, [5, 8], [False, False], [0, None], [0, 1]), [2, 8])

    def test_who_comes_first_pushes_the_others(self):
        rail = rail_of(10, 2, [3, 3])
        self.assertEqual(moved(rail, [4, 6], [False, False], [8, None], [0, 1]), [7, 9])
        self.assertEqual(moved(rail, [4, 6], [False, False], [8, None], [1, 0]), [4, 6])
        self.assertEqual(moved(rail, [4, 6], [False, False], [None, 2], [1, 0]), [1, 3])

    def test_two_against_each_other(self):
        rail = rail_of(20, 2, [3, 3])
        self.assertEqual(moved(rail, [8, 12], [False, False], [18, 2], [0, 1]), [11, 13])
        self.assertEqual(moved(rail, [8, 12], [False, False], [18, 2], [1, 0]), [7, 9])

    def test_ranks_of_three(self):
        rail = rail_of(20, 2, [4, 4, 4])
        places, goals = [6, 10, 14], [20, 10, 0]
        told = {
            (0, 1, 2): [10, 12, 14],
            (2, 1, 0): [6, 8, 10],
            (1, 0, 2): [8, 10, 12],
            (1, 2, 0): [8, 10, 12],
            (0, 2, 1): [10, 12, 14],
            (2, 0, 1): [6, 8, 10],
        }
        for ranks, row in told.items():
            with self.subTest(ranks):
                self.assertEqual(moved(rail, places, [False] * 3, goals, list(ranks)), row)

    def test_without_goals_all_stay(self):
        rail = rail_of(20, 4, [3, 5, 1])
        for ranks in itertools.permutations(range(3)):
            self.assertEqual(moved(rail, [0, 5, 9], [False, True, False], [None] * 3, list(ranks)), [0, 5, 9])

    def test_six_cranes_on_the_greatest_rail(self):
        room = 10 ** 6
        rail = Rail(10 ** 12, room, [(10 ** 9, 1)] * 6)
        places = [k * room for k in range(6)]
        goals = [rail.reach(0)[1]] + [None] * 5
        self.assertEqual(moved(rail, places, [False] * 6, goals, [0, 1, 2, 3, 4, 5]),
                         [10 ** 9 + k * room for k in range(6)])
        self.assertEqual(moved(rail, places, [False] * 5 + [True], goals, [0, 1, 2, 3, 4, 5]), places)

    def test_as_searched(self):
        for size in SMALL:
            rail = rail_of(*size)
            many = len(size[2])
            choices = []
            for crane in range(many):
                first, last = rail.reach(crane)
                choices.append([None] + sorted({first, (first + last) // 2, last}))
            orders = [list(order) for order in itertools.permutations(range(many))]
            works = [row for row in truths(many) if sum(row) < 2]
            for places, at_work in itertools.product(rows_apart(rail), works):
                let = rows_let(rail, places, at_work)
                for goals, ranks in itertools.product(itertools.product(*choices), orders):
                    found = moved(rail, places, at_work, list(goals), ranks)
                    rows = nearest_rows(let, places, goals, ranks)
                    self.assertEqual([found], rows, (size, places, at_work, goals, ranks))

    def test_the_row_is_apart_amid_the_turn_too(self):
        rail = rail_of(12, 2, [5, 3, 4])
        before = [0, 5, 9]
        behind = moved(rail, before, [False] * 3, [8, 2, 12], [0, 1, 2])
        for step in range(61):
            amid = [60 * here + step * (there - here) for here, there in zip(before, behind)]
            self.assertTrue(all(amid[k] - amid[k - 1] >= 60 * rail.room for k in (1, 2)))

    def test_what_was_handed_in_is_not_changed(self):
        rail = rail_of(20, 2, [3, 3])
        places, at_work, goals, ranks = [8, 12], [False, False], [18, None], [0, 1]
        moved(rail, places, at_work, goals, ranks)
        self.assertEqual((places, at_work, goals, ranks), ([8, 12], [False, False], [18, None], [0, 1]))
        self.assertEqual((rail.end, rail.room, rail.cranes), (20, 2, ((3, 1), (3, 1))))

    def test_the_list_is_a_new_one(self):
        rail = rail_of(20, 2, [3, 3])
        places = [8, 12]
        first = moved(rail, places, [False, False], [None, None], [0, 1])
        self.assertIs(first.__class__, list)
        self.assertIsNot(first, places)
        first[0] = 99
        first.append(7)
        self.assertEqual(places, [8, 12])
        self.assertEqual(moved(rail, places, [False, False], [None, None], [0, 1]), [8, 12])

    def test_later_changes_of_what_was_handed_in_change_nothing(self):
        rail = rail_of(20, 2, [3, 3])
        places, at_work, goals, ranks = [8, 12], [False, True], [18, 12], [0, 1]
        told = moved(rail, places, at_work, goals, ranks)
        for handed in (places, at_work, goals, ranks):
            handed.clear()
        self.assertEqual(told, [10, 12])


if __name__ == "__main__":
    unittest.main()
