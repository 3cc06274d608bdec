"""Answers: what is done for each order of a desk, and what is told of it."""

from sherdhall.care import fold, forget, mend, sweep
from sherdhall.errors import NotEmpty
from sherdhall.homes import loads
from sherdhall.keeper import Keeper
from sherdhall.moves import LANES, rounds
from sherdhall.orders import parsed
from sherdhall.scrub import scrub
from sherdhall.settling import stairs
from sherdhall.texts import show_move, show_table, show_town

DONE = "ok"
NOTHING = "none"


def build_house(desk, name, zone, weight):
    """A house comes to the town, and to the ground where that has it not."""
    town = desk.keeper.town.with_house(name, zone, weight)
    if name not in desk.ground.houses():
        desk.ground.add_house(name)
    desk.keeper.use(town)
    return [DONE]


def weigh_house(desk, name, weight):
    """A house of the town has another weight."""
    desk.keeper.use(desk.keeper.town.weighing(name, weight))
    return [DONE]


def leave_house(desk, name):
    """A house without pieces goes out of the town."""
    town = desk.keeper.town.without(name)
    many = loads(desk.keeper.table()).get(name, 0)
    if many > 0:
        raise NotEmpty(name, many)
    desk.keeper.use(town)
    return [DONE]


def tell_town(desk):
    """The town's writing."""
    return [show_town(desk.keeper.town)]


def lose_house(desk, name):
    """All drawers of a house are gone."""
    desk.ground.lose(name)
    return [DONE]


def take_down(desk, name):
    """A house goes down."""
    desk.ground.down(name)
    return [DONE]


def bring_up(desk, name):
    """A house comes up."""
    desk.ground.up(name)
    return [DONE]


def take_card(desk, name, ticket, place):
    """A card is taken."""
    desk.ground.take(name, (ticket, place))
    return [DONE]


def change_card(desk, name, ticket, place, at, by):
    """A number is added to a cell of a card."""
    desk.ground.change(name, (ticket, place), at=at, by=by)
    return [DONE]


def set_fuse(desk, many):
    """Only so many members may still be written."""
    desk.ground.set_fuse(many)
    return [DONE]


def light_ground(desk):
    """The ground is lit, and the keeper made anew on it."""
    desk.ground.lit()
    desk.keeper = Keeper(desk.ground, desk.keeper.town, shape=desk.shape, zone=desk.zone)
    return [DONE]


def put_row(desk, name, *numbers):
    """A row is put; told is the hour."""
    return [desk.keeper.put(name, list(numbers))]


def read_row(desk, name, hour=None):
    """The numbers of a row."""
    return desk.keeper.read(name, at=hour)


def drop_name(desk, name):
    """A name is dropped; told is the hour."""
    return [desk.keeper.drop(name)]


def tell_names(desk, hour=None):
    """The names at an hour."""
    return desk.keeper.store.names(at=hour)


def tell_hours(desk, name):
    """The hours of a name, with their tickets."""
    told = desk.keeper.store.hours(name)
    return [f"{hour}:-" if ticket is None else f"{hour}:{ticket}" for hour, ticket in told]


def tell_table(desk):
    """The writing of the keeper's table."""
    return [show_table(desk.keeper.table())]


def scrub_all(desk):
    """The places that can not be read, each with its house and why."""
    return [f"{ticket}/{place}:{house}:{why}" for ticket, place, house, why in scrub(desk.keeper.store)]


def mend_piece(desk, ticket, place, house=None):
    """A piece is mended; told are the places read."""
    return mend(desk.keeper.store, ticket, place, into=house)


def sweep_all(desk):
    """Useless cards are pulled; told is how many."""
    return [sweep(desk.keeper.store)]


def forget_till(desk, hour):
    """Hours are forgotten; told are the tickets that are kept no more."""
    return forget(desk.keeper.store, hour)


def fold_book(desk):
    """The book is folded; told is how many rows it has."""
    return [fold(desk.keeper.store)]


def settle_table(desk, *bounds):
    """The table is settled, with the bounds that words name ahead of their numbers."""
    told = dict(zip(bounds[::2], bounds[1::2]))
    settling = desk.keeper.resettle(level=told.get("level"), moves=told.get("moves"))
    return ["level", settling.level, "moves", settling.many]


def tell_stairs(desk):
    """The stairs of the keeper's table in the usable houses."""
    keeper = desk.keeper
    table = keeper.table()
    told = stairs(keeper.usable(), table, zone=keeper.limit())
    return [f"{level}:{many}" for level, many in told]


def tell_plan(desk):
    """The moves that are left of the plan."""
    return [show_move(move) for move in desk.keeper.plan()]


def tell_rounds(desk, lanes=LANES):
    """The moves that are left of the plan, in rounds."""
    told = rounds(desk.keeper.plan(), lanes=lanes)
    return [" + ".join([" ".join([show_move(move) for move in part]) for part in told])]


def do_step(desk):
    """The first move of the plan is done, and told."""
    move = desk.keeper.step()
    return [] if move is None else [show_move(move)]


def tell_depth(desk):
    """How deep the desk is in its orders."""
    return [desk.depth()]


ANSWERS = {
    "house": build_house, "weigh": weigh_house, "gone": leave_house, "town": tell_town,
    "lose": lose_house, "down": take_down, "up": bring_up, "take": take_card, "change": change_card,
    "fuse": set_fuse, "light": light_ground,
    "put": put_row, "read": read_row, "drop": drop_name, "names": tell_names, "hours": tell_hours, "table": tell_table,
    "scrub": scrub_all, "mend": mend_piece, "sweep": sweep_all, "forget": forget_till, "fold": fold_book,
    "settle": settle_table, "stairs": tell_stairs, "plan": tell_plan, "rounds": tell_rounds, "step": do_step,
    "depth": tell_depth,
}


def answer(desk, row):
    """Do an order; told is a text."""
    word, handed = parsed(row)
    action = ANSWERS[word]
    told = " ".join([str(thing) for thing in action(desk, *handed)])
    return NOTHING if told == "" else told
