"""Orders: which texts are orders, and what they tell."""

from sherdhall.errors import NoOrder
from sherdhall.names import is_name
from sherdhall.words import is_number

FIGURES = 4
# Of each order's first word the forms of what stands behind it: NAME is a name, N a number, LANES one from 1 on, and
# N.. any number of numbers; small letters stand for themselves.
FORMS = {
    "house": ("NAME NAME N",),
    "weigh": ("NAME N",),
    "gone": ("NAME",),
    "town": ("",),
    "lose": ("NAME",),
    "down": ("NAME",),
    "up": ("NAME",),
    "take": ("NAME N N",),
    "change": ("NAME N N N N",),
    "fuse": ("N",),
    "light": ("",),
    "put": ("NAME N..",),
    "read": ("NAME", "NAME N"),
    "drop": ("NAME",),
    "names": ("", "N"),
    "hours": ("NAME",),
    "table": ("",),
    "scrub": ("",),
    "mend": ("N N", "N N NAME"),
    "sweep": ("",),
    "forget": ("N",),
    "fold": ("",),
    "settle": ("", "level N", "moves N", "level N moves N"),
    "stairs": ("",),
    "plan": ("",),
    "rounds": ("", "LANES"),
    "step": ("",),
    "depth": ("",),
}


def is_of_kind(word, kind):
    """Whether a word may stand where a form has this kind."""
    if kind == "NAME":
        return is_name(word)
    if kind == "N":
        return is_number(word, FIGURES)
    if kind == "LANES":
        return is_number(word, FIGURES) and word != "0"
    return word == kind


def is_of_form(words, form):
    """Whether the words are of the form."""
    kinds = [] if form == "" else form.split(" ")
    if len(kinds) > 0 and kinds[-1] == "N..":
        kinds = kinds[:-1] + ["N"] * (len(words) - len(kinds) + 1)
    return len(words) == len(kinds) and all([is_of_kind(word, kind) for word, kind in zip(words, kinds)])


def own(thing):
    """The thing, but a list or dict of its own where it is one: what is handed in is not kept."""
    if isinstance(thing, list):
        return list(thing)
    if isinstance(thing, dict):
        return {key: thing[key] for key in thing}
    return thing


def parsed(row):
    """The first word of an order, and a list of the names, numbers and words behind it."""
    words = row.split(" ") if isinstance(row, str) else [""]
    first, rest = words[0], words[1:]
    if not any([is_of_form(rest, form) for form in FORMS.get(first, ())]):
        raise NoOrder(own(row))
    return (first, [int(word) if is_number(word, FIGURES) else word for word in rest])
