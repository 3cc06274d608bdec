"""The ground: houses with drawers and two books, on a medium that may go dark at any member that is written."""

from sherdhall.book import is_torn
from sherdhall.errors import Dark, Down, NoCard, NoHouse, Taken
from sherdhall.field import plus
from sherdhall.names import check_name

FIRST_ROWS = ((6, "book", 1, 1, 1, 0), (3, "ready", 1))
# How many members of a card stand ahead of its cells, and how many it has besides them.
AHEAD = 3
BESIDES = 5


class Ground:
    """Houses by names, each up or down, with drawers by keys, and two books of rows."""

    def __init__(self, names, *, fuse=None):
        self._up = {}
        self._drawers = {}
        self._books = [list(FIRST_ROWS), []]
        self._fuse = fuse
        self._in_dark = False
        self._written = 0
        self._turn = 0
        for name in names:
            check_name(name)
        for name in names:
            self.add_house(name)

    def add_house(self, name):
        """A house comes, up and without drawers."""
        check_name(name)
        if name in self._up:
            raise Taken(name)
        self._up[name] = True
        self._drawers[name] = {}

    def houses(self):
        """The names of all houses, sorted."""
        return sorted(self._up)

    def is_up(self, name):
        """Whether the house is up."""
        self._check_house(name)
        return self._up[name]

    def drawers(self, name):
        """The keys of the house's drawers, sorted."""
        self._check_house(name)
        return sorted(self._drawers[name])

    def card(self, name, key):
        """The card as it lies under the key, or None."""
        self._check_house(name)
        return self._drawers[name].get(key)

    def down(self, name):
        """The house goes down; its drawers stay as they are."""
        self._check_house(name)
        self._up[name] = False

    def up(self, name):
        """The house comes up again."""
        self._check_house(name)
        self._up[name] = True

    def lose(self, name):
        """All drawers of the house are gone."""
        self._check_house(name)
        self._drawers[name] = {}

    def take(self, name, key):
        """A card is gone, with its drawer."""
        self._check_house(name)
        self._check_card(name, key)
        del self._drawers[name][key]

    def change(self, name, key, *, at, by):
        """The number by is added to a cell of a card."""
        self._check_house(name)
        self._check_card(name, key)
        card = self._drawers[name][key]
        # Of a torn card fewer cells may lie there than its first member tells.
        if not 0 <= at < min(card[0] - BESIDES, len(card) - AHEAD):
            raise NoCard(name, key)
        member = AHEAD + at
        self._drawers[name][key] = (*card[:member], plus(card[member], by), *card[member + 1:])

    def exchange(self, name, key, other, other_key):
        """The cards of two drawers are exchanged."""
        self._check_house(name)
        self._check_house(other)
        self._check_card(name, key)
        self._check_card(other, other_key)
        card = self._drawers[name][key]
        self._drawers[name][key] = self._drawers[other][other_key]
        self._drawers[other][other_key] = card

    def lay_card(self, name, card):
        """A card is written into the house, under its own key."""
        self._check_open(name)
        done = self._put_down(len(card))
        if done > 0:
            self._drawers[name][card[1:3]] = card[:done]
        self._check_done(done, len(card))

    def pull(self, name, key):
        """A card is pulled out of the house."""
        self._check_open(name)
        self._check_card(name, key)
        self._check_done(self._put_down(1), 1)
        del self._drawers[name][key]

    def strike(self, which, row):
        """A row is written behind all of a book."""
        self._check_lit()
        done = self._put_down(len(row))
        if done > 0:
            self._books[which].append(row[:done])
        self._check_done(done, len(row))

    def cut_off(self, which):
        """The torn last row of a book, where it has one, is cut off."""
        self._check_lit()
        rows = self._books[which]
        if len(rows) > 0 and is_torn(rows[-1]):
            self._check_done(self._put_down(1), 1)
            rows.pop()

    def empty(self, which):
        """All rows of a book are gone."""
        self._check_lit()
        self._check_done(self._put_down(1), 1)
        self._books[which] = []

    def book_rows(self, which):
        """The rows of a book, as they lie."""
        return list(self._books[which])

    def is_dark(self):
        """Whether the ground is dark."""
        return self._in_dark

    def fuse_left(self):
        """How many members may still be written; None where this has no bound."""
        return self._fuse

    def members_written(self):
        """How many members were put down in all, ever."""
        return self._written

    def newest_turn(self):
        """How often the ground was lit, and how many stores were made on it, in all."""
        return self._turn

    def next_turn(self):
        """A turn begins; told is its number."""
        self._turn += 1
        return self._turn

    def lit(self, *, fuse=None):
        """The ground is dark no more, with a fuse anew."""
        self._in_dark = False
        self._fuse = fuse
        self.next_turn()

    def set_fuse(self, many=None):
        """The fuse alone is set anew."""
        self._check_lit()
        self._fuse = many

    def twin(self):
        """A ground of its own, of which all the same is told."""
        other = Ground(self.houses(), fuse=self._fuse)
        other._up = {name: self._up[name] for name in self._up}
        other._drawers = {name: self._copied(name) for name in self._drawers}
        other._books = [list(rows) for rows in self._books]
        other._in_dark = self._in_dark
        other._written = self._written
        other._turn = self._turn
        return other

    def _copied(self, name):
        drawers = self._drawers[name]
        return {key: drawers[key] for key in drawers}

    def _check_house(self, name):
        check_name(name)
        if name not in self._up:
            raise NoHouse(name)

    def _check_card(self, name, key):
        if key not in self._drawers[name]:
            raise NoCard(name, key)

    def _check_lit(self):
        if self._in_dark:
            raise Dark(0)

    def _check_open(self, name):
        """Refuse where nothing can be written into the house."""
        self._check_lit()
        self._check_house(name)
        if not self._up[name]:
            raise Down(name)

    def _put_down(self, many):
        """How many of so many members are put down: where not all, the ground is dark from then on."""
        done = many if self._fuse is None else min(many, self._fuse)
        if self._fuse is not None:
            self._fuse -= done
        self._in_dark = done < many
        self._written += done
        return done

    def _check_done(self, done, many):
        if done < many:
            raise Dark(done)
