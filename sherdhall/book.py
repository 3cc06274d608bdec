"""The book: which rows it has, which of them are torn, and which of two books is the right one."""

from sherdhall.errors import NoBook
from sherdhall.field import is_between, is_whole
from sherdhall.laying import MOST
from sherdhall.names import is_name
from sherdhall.shapes import count, is_shape

# What stands behind the word of each row; only a begin row has more of its own.
MEMBERS = {
    "root": ("ticket", "hour"),
    "drop": ("name", "hour"),
    "moved": ("ticket", "place", "name"),
    "floor": ("floor",),
    "book": ("age", "ticket", "hour", "floor"),
    "ready": ("age",),
}
LEAST = {"ticket": 1, "hour": 1, "age": 1, "floor": 0, "place": 0}


def made_row(word, members):
    """The row with this word and, behind it, a tuple of members."""
    return (2 + len(members), word, *members)


def is_member(thing, kind):
    """Whether something, of any kind, may stand in a row where such a member is due."""
    if kind == "name":
        return is_name(thing)
    return is_whole(thing) and thing >= LEAST[kind]


def are_homes(things, shape):
    """Whether a tuple of things has as many unlike house names as the shape has places."""
    if len(things) != count(shape=shape) or not all([is_name(thing) for thing in things]):
        return False
    return len(set(things)) == len(things)


def is_begun(members):
    """Whether a tuple of things may stand behind the word of a begin row."""
    if len(members) < 6 or not is_member(members[0], "ticket") or not is_name(members[1]):
        return False
    shape = members[3:6]
    return is_between(members[2], 0, MOST) and is_shape(shape) and are_homes(members[6:], shape)


def is_row(thing):
    """Whether something, of any kind, is a row of a book."""
    if not isinstance(thing, tuple) or len(thing) < 2 or not is_whole(thing[0]) or thing[0] != len(thing):
        return False
    word, members = thing[1], thing[2:]
    if not isinstance(word, str):
        return False
    if word == "begin":
        return is_begun(members)
    if word not in MEMBERS or len(members) != len(MEMBERS[word]):
        return False
    return all([is_member(member, kind) for member, kind in zip(members, MEMBERS[word])])


def is_torn(row):
    """Whether a row lacks members that it should have by its first one."""
    return isinstance(row, tuple) and len(row) >= 1 and is_whole(row[0]) and row[0] > len(row)


def is_of(row, word):
    """Whether something, of any kind, is a row with this word."""
    return is_row(row) and row[1] == word


def ready_age(rows):
    """The age of a book that has its book row first and a ready row of that age; 0 of any other."""
    if len(rows) == 0 or not is_of(rows[0], "book"):
        return 0
    age = rows[0][2]
    return age if any([is_of(row, "ready") and row[2] == age for row in rows]) else 0


def right_book(books):
    """The number of the right one of two books."""
    first, second = ready_age(books[0]), ready_age(books[1])
    if first == 0 and second == 0:
        raise NoBook(0)
    return 1 if second > first else 0
