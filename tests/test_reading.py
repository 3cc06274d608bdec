"""The first sentence of [49]: when a card of a ticket can be read."""

import unittest

from sherdhall.cards import made_card
from sherdhall.errors import Dark
from sherdhall.ground import Ground
from sherdhall.reading import readable
from grounds import gone_dark, seen
from oracle import HOUSES

HOMES = HOUSES[:5]


def with_ticket():
    """A ground with the five cards of ticket 3, and some of others."""
    ground = Ground(HOUSES)
    for place, home in enumerate(HOMES):
        ground.lay_card(home, made_card(3, place, [place, 9, 9]))
        ground.lay_card(home, made_card(4, place, [1]))
    return ground


class Readable(unittest.TestCase):

    def told(self, ground, due, *, ticket=3, homes=tuple(HOMES)):
        handed = list(homes)
        before = seen(ground)
        told = readable(ground, ticket, handed)
        self.assertIs(type(told), list)
        self.assertEqual(told, due)
        self.assertEqual((handed, seen(ground)), (list(homes), before))
        told.append(99)
        self.assertEqual(readable(ground, ticket, handed), due)

    def test_all(self):
        self.told(with_ticket(), [0, 1, 2, 3, 4])
        self.told(with_ticket(), [0, 1, 2, 3, 4], ticket=4)
        self.told(with_ticket(), [], ticket=5)
        self.told(with_ticket(), [], homes=())

    def test_a_home_that_is_down(self):
        ground = with_ticket()
        ground.down(HOMES[1])
        self.told(ground, [0, 2, 3, 4])
        ground.down(HOMES[4])
        self.told(ground, [0, 2, 3])
        ground.up(HOMES[1])
        self.told(ground, [0, 1, 2, 3])

    def test_a_home_that_the_ground_has_not(self):
        self.told(with_ticket(), [0, 1, 3, 4], homes=HOMES[:2] + ["other"] + HOMES[3:])
        self.told(with_ticket(), [], homes=["other", "NONE", "", "ot her"])

    def test_no_card(self):
        ground = with_ticket()
        ground.take(HOMES[0], (3, 0))
        self.told(ground, [1, 2, 3, 4])
        ground.lose(HOMES[3])
        self.told(ground, [1, 2, 4])

    def test_a_card_of_another_place_in_another_home(self):
        self.told(with_ticket(), [2, 3, 4], homes=[HOMES[1], HOMES[0]] + HOMES[2:])
        self.told(with_ticket(), [0], homes=[HOMES[0], HOUSES[7]])

    def test_torn(self):
        for many in range(1, 8):
            ground = with_ticket()
            ground.set_fuse(many)
            with self.assertRaises(Dark):
                ground.lay_card(HOMES[2], made_card(3, 2, [2, 9, 9]))
            self.told(ground, [0, 1, 3, 4])

    def test_strange(self):
        ground = with_ticket()
        ground.exchange(HOMES[1], (3, 1), HOMES[2], (3, 2))
        self.told(ground, [0, 3, 4])
        ground.exchange(HOMES[0], (3, 0), HOMES[0], (4, 0))
        self.told(ground, [3, 4])
        self.told(ground, [1, 2, 3, 4], ticket=4)

    def test_spoilt(self):
        for at in range(3):
            ground = with_ticket()
            ground.change(HOMES[4], (3, 4), at=at, by=50)
            self.told(ground, [0, 1, 2, 3])
            ground.change(HOMES[4], (3, 4), at=at, by=-50)
            self.told(ground, [0, 1, 2, 3, 4])

    def test_in_the_dark(self):
        self.told(gone_dark(with_ticket()), [0, 1, 2, 3, 4])


if __name__ == "__main__":
    unittest.main()
