"""What several tests need: shapes, things that are none, and fillings made by the document's words alone."""

import functools
import itertools

SHAPES = [(groups, size, sums) for groups in range(1, 5) for size in range(1, 5) for sums in range(3)]
SMALL = [shape for shape in SHAPES if shape[0] * (shape[1] + 1) + shape[2] <= 8]
TEN = [shape for shape in SHAPES if shape[0] * (shape[1] + 1) + shape[2] == 10]
PLAIN = (2, 3, 2)
FIRST_MARKS = (1, 11, 40, 30)

NO_WHOLES = [None, True, False, "1", "", b"1", 1.0, [1], (1,), {1: 1}, {1}, object()]

NO_SHAPES = [
    None, True, 2, "shape", "232", b"232", 2.5, [2, 3, 2], {2: 3}, {2, 3}, object(), (), (2,), (2, 3), (2, 3, 2, 2),
    (0, 3, 2), (5, 3, 2), (-1, 3, 2), (2, 0, 2), (2, 5, 2), (2, -1, 2), (2, 3, -1), (2, 3, 3), (10 ** 59, 3, 2),
    (True, 3, 2), (2, True, 2), (2, 3, True), (2, 3, False), (2.0, 3, 2), (2, 3.0, 2), (2, 3, 2.0), ("2", 3, 2),
    (2, "3", 2), (2, 3, "2"), (None, 3, 2), (2, None, 2), (2, 3, None), ([2], 3, 2), ((2, 3, 2),),
]


def kinds(shape):
    """What each place of the shape is, place by place."""
    groups, size, sums = shape
    out = []
    for group in range(groups):
        out += [("data", group, at) for at in range(size)] + [("local", group)]
    return out + [("over", number) for number in range(1, sums + 1)]


def data_of(shape):
    """The data places of the shape, rising."""
    return [place for place, kind in enumerate(kinds(shape)) if kind[0] == "data"]


def filling_of(numbers, shape):
    """The filling with these data numbers, in the order of their places."""
    told = kinds(shape)
    data = dict(zip([kind for kind in told if kind[0] == "data"], numbers))
    out = []
    for kind in told:
        if kind[0] == "data":
            out.append(data[kind])
        elif kind[0] == "local":
            out.append(sum(data[other] for other in data if other[1] == kind[1]) % 97)
        else:
            out.append(sum(data[one] * (FIRST_MARKS[one[1]] + one[2]) ** kind[1] for one in data) % 97)
    return out


def ones_of(shape):
    """The fillings of which one data number is 1 and the others are 0."""
    many = shape[0] * shape[1]
    return [filling_of([1 if at == one else 0 for at in range(many)], shape) for one in range(many)]


def some_numbers(many, seed=1):
    """So many numbers from 0 to 96, the same for the same seed."""
    out = []
    state = seed * 7919 + 13
    for _ in range(many):
        state = (state * 1103515245 + 12345) % 2 ** 31
        out.append(state // 65536 % 97)
    return out


@functools.cache
def told_places(left, shape):
    """The places that a tuple of left places tells, found by taking their numbers in the ones out of the others'."""
    ones = ones_of(shape)
    rows = {}
    for place in left:
        rest = rest_of([one[place] for one in ones], rows)
        leads = [at for at, number in enumerate(rest) if number != 0]
        if leads:
            undo = pow(rest[leads[0]], 95, 97)
            rows[leads[0]] = [number * undo % 97 for number in rest]
    places = range(len(kinds(shape)))
    return [place for place in places if not any(rest_of([one[place] for one in ones], rows))]


def rest_of(numbers, rows):
    """The numbers when each row, which begins at its key, is taken out of them."""
    for at in range(len(numbers)):
        if at in rows:
            by = numbers[at]
            numbers = [(number - by * other) % 97 for number, other in zip(numbers, rows[at])]
    return numbers


def lists_of(places, shortest, longest):
    """All lists, as tuples, of at least and at most so many of the places."""
    return [chosen for many in range(shortest, longest + 1) for chosen in itertools.combinations(places, many)]


def some_lists(shape, many, seed=1):
    """So many lists, as tuples, of some of the shape's places, the same for the same seed."""
    places = len(kinds(shape))
    numbers = some_numbers(many * places, seed)
    out = []
    for at in range(many):
        part = numbers[at * places:(at + 1) * places]
        out.append(tuple(place for place in range(places) if part[place] > 30 + at % 4 * 12))
    return out


def muddled(left):
    """The same places in another order, some of them twice."""
    return list(left)[::-2] + list(left)[::3] + list(left)
