"""Many turns at once: craneyard/courses.py against craneyard/moves.py, turn by turn."""

import random
import unittest

from craneyard.courses import Outlook, glide
from craneyard.moves import moved
from craneyard.rails import Rail


class Any:
    """A rail, places, goals and ranks by chance, but the same ones each time."""

    def __init__(self, seed):
        pick = random.Random(seed)
        many = pick.randint(1, 6)
        room = pick.randint(1, 4)
        end = (many - 1) * room + pick.choice([3, 20, 200, 3000])
        self.rail = Rail(end, room, [(pick.randint(1, 6), 1) for _ in range(many)])
        spare = sorted(pick.randint(0, end - (many - 1) * room) for _ in range(many))
        self.places = [place + at * room for at, place in enumerate(spare)]
        self.at_work = [pick.random() < 0.2 for _ in range(many)]
        self.goals = [None if pick.random() < 0.3 else self.goal(pick, crane) for crane in range(many)]
        self.ranks = pick.sample(range(many), many)

    def goal(self, pick, crane):
        first, last = self.rail.reach(crane)
        return pick.randint(first, last)

    def told(self, places):
        return self.rail, places, self.at_work, self.goals, self.ranks


class Glide(unittest.TestCase):
    def test_each_of_the_turns_is_as_it_is_told(self):
        for seed in range(800):
            chance = Any(seed)
            places = chance.places
            for most in (1, 2, 3, 400):
                steps, many = glide(*chance.told(places), most)
                with self.subTest(seed=seed, most=most):
                    self.assertTrue(1 <= many <= most)
                    for _ in range(many):
                        behind = moved(*chance.told(places))
                        self.assertEqual(behind, [place + step for place, step in zip(places, steps)])
                        places = behind

    def test_nothing_that_is_handed_in_is_changed(self):
        chance = Any(7)
        handed = list(chance.places), list(chance.at_work), list(chance.goals), list(chance.ranks)
        glide(*chance.told(chance.places), 100)
        self.assertEqual((chance.places, chance.at_work, chance.goals, chance.ranks), handed)

    def test_a_long_way_is_one_glide(self):
        rail = Rail(10 ** 12, 3, [(7, 1), (5, 1)])
        # Crane 1 stays till crane 0 is there, and goes ahead of it from then on.
        self.assertEqual(glide(rail, [7, 10 ** 11], [False] * 2, [10 ** 12 - 3, None], [0, 1], 10 ** 6),
                         ([7, 0], 10 ** 6))
        steps, many = glide(rail, [7, 710], [False] * 2, [10 ** 12 - 3, None], [0, 1], 10 ** 6)
        self.assertEqual(steps, [7, 0])
        self.assertIn(many, (99, 100))
        self.assertEqual(glide(rail, [700, 703], [False] * 2, [10 ** 12 - 3, None], [0, 1], 10 ** 6),
                         ([5, 5], 10 ** 6))

    def test_all_stay(self):
        rail = Rail(40, 3, [(7, 1), (5, 1)])
        self.assertEqual(glide(rail, [4, 20], [True, False], [None, None], [0, 1], 10 ** 6), ([0, 0], 10 ** 6))
        self.assertEqual(glide(rail, [4, 20], [False] * 2, [4, None], [0, 1], 3), ([0, 0], 3))

    def test_few_glides_bring_all_to_rest(self):
        for seed in range(300):
            chance = Any(seed)
            places = chance.places
            glides = 0
            while moved(*chance.told(places)) != places:
                steps, many = glide(*chance.told(places), 10 ** 6)
                places = [place + many * step for place, step in zip(places, steps)]
                glides += 1
            with self.subTest(seed):
                self.assertLessEqual(glides, 60)


class Outlooks(unittest.TestCase):
    def test_greatest_and_least(self):
        outlook = Outlook(50)
        self.assertEqual(outlook.greatest([(10, 0), (0, 0), (10, 2), (10, 1)]), (10, 2))
        self.assertEqual(outlook.least([(10, 0), (20, 0), (10, 2), (10, 1)]), (10, 0))
        self.assertEqual(outlook.turns, 50)
        # Level behind ten turns, ahead behind eleven.
        self.assertEqual(outlook.greatest([(0, 3), (10, 2)]), (10, 2))
        self.assertEqual(outlook.turns, 10)
        self.assertEqual(outlook.least([(0, 3), (10, 1)]), (0, 3))
        self.assertEqual(outlook.turns, 5)
        self.assertEqual(outlook.least([(0, 3), (10, 2)]), (0, 3))
        self.assertEqual(outlook.turns, 5)


if __name__ == "__main__":
    unittest.main()
