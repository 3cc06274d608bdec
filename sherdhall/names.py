"""Names: texts of one to eight small letters."""

from sherdhall.errors import NoName

LETTERS = "abcdefghijklmnopqrstuvwxyz"
LONGEST = 8


def is_name(thing):
    """Whether something, of any kind, is a name."""
    return isinstance(thing, str) and 1 <= len(thing) <= LONGEST and all([sign in LETTERS for sign in thing])


def check_name(name):
    """Refuse what is no name."""
    if not is_name(name):
        raise NoName(name)
