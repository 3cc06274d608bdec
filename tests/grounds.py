"""What several tests need: grounds, all that is told of one, and a look at refusals."""

import unittest

from sherdhall.cards import made_card
from sherdhall.errors import Dark
from sherdhall.ground import Ground

NO_NAMES = ["", "A", "a1", "a b", "abcdefghi", " a", "a\n", "hOuse", "-"]
CARD = made_card(1, 2, [10, 20, 96])
KEY = (1, 2)


def seen(ground):
    """All that is told of a ground."""
    houses = ground.houses()
    return {
        "up": [ground.is_up(name) for name in houses],
        "houses": houses,
        "cards": {(name, key): ground.card(name, key) for name in houses for key in ground.drawers(name)},
        "books": [ground.book_rows(0), ground.book_rows(1)],
        "dark": ground.is_dark(),
        "fuse": ground.fuse_left(),
        "written": ground.members_written(),
        "turn": ground.newest_turn(),
    }


def with_cards():
    """A ground with three houses and some cards."""
    ground = Ground(["ha", "hb", "hc"])
    ground.lay_card("ha", CARD)
    ground.lay_card("ha", made_card(1, 3, []))
    ground.lay_card("hb", made_card(2, 0, [5]))
    return ground


def gone_dark(ground):
    """The ground, dark."""
    ground.set_fuse(0)
    try:
        ground.empty(1)
    except Dark:
        pass
    return ground


class Grounds(unittest.TestCase):

    def refused(self, due, fields, asked, *things, **more):
        with self.assertRaises(due) as caught:
            asked(*things, **more)
        self.assertIs(type(caught.exception), due)
        self.assertEqual(vars(caught.exception), fields)
