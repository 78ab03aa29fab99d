"""Houses that stay within bounds, and houses that do not."""

import random

from loghouse.houses import House
from tests.samples import MILL_PARTS, made


def one_person(start, ends, arrows, looks, tests=(), deeds="ab", logs=0):
    """A house of one person, whose looks are a tuple of forms for each place."""
    return House(
        1, tuple((letter, 0) for letter in deeds), start, len(looks), ends, logs, arrows, tests, (looks,)
    )


SAME2 = ((0, 1, 0), (0, 0, 1))

# Turned by a sixth, and by a fourth; the register x is seen.
SIXTH = one_person((1, 0), (0,), ((0, "a", 0, ((0, 0, -1), (0, 1, 1)), ()),), ((((0, 1, 0),)),))
FOURTH = one_person((3, 1), (0,), ((0, "a", 0, ((0, 0, -1), (0, 1, 0)), ()),), ((((0, 1, 0),)),))
# Registers turned about a middle, exchanged and set; two places.
MIDDLE = one_person(
    (2, 5), (1,),
    (
        (0, "a", 1, ((6, -1, 0), (0, 0, 1)), ()),
        (0, "b", 0, ((0, 0, 1), (0, 1, 0)), ()),
        (1, "a", 0, ((0, 1, 0), (6, 0, -1)), ()),
        (1, "b", 1, ((2, 0, 0), (0, 1, 0)), ()),
    ),
    (((0, 1, 0),), ((1, 1, 1),)),
)
# Three registers exchanged and turned: all 48 ways to stand at the place 0, 6 at each of the others.
CUBE = one_person(
    (1, 2, 3), (2,),
    (
        (0, "a", 0, ((0, 0, 1, 0), (0, 0, 0, 1), (0, 1, 0, 0)), ("",)),
        (0, "b", 0, ((0, 0, 1, 0), (0, 1, 0, 0), (0, 0, 0, 1)), ("x",)),
        (0, "c", 0, ((0, -1, 0, 0), (0, 0, 1, 0), (0, 0, 0, 1)), ("y",)),
        (0, "d", 1, ((0, 1, 0, 0), (0, 0, 0, 0), (0, 0, 0, 0)), ("z",)),
        (1, "d", 2, ((0, 1, 0, 0), (0, 0, 1, 0), (5, 0, 0, 0)), ("z",)),
    ),
    (((0, 1, 0, 0), (0, 0, 1, 2)), ((0, 1, 0, 0),), ((0, 1, 0, 0),)), deeds="abcd", logs=1,
)
# The place 1 is left with a register that goes on for ever; no way leads there.
AWAY = one_person(
    (4,), (0,),
    ((0, "a", 0, ((8, -1),), ()), (1, "a", 1, ((1, 1),), ()), (1, "b", 0, ((0, 2),), ())),
    (((0, 1),), ((3, 2),)),
)
# Nothing is looked at, so the steps are no matter.
BLIND = one_person((0,), (), ((0, "a", 0, ((1, 1),), ()),), ((),))
# A sum of two registers that goes on for ever stands still.
LEVEL = one_person(
    (0, 7), (0,), ((0, "a", 0, ((1, 1, 0), (-1, 0, 1)), ()), (0, "b", 0, ((0, 0, 1), (0, 1, 0)), ())),
    (((0, 1, 1), (2, -3, -3)),),
)
BOUNDED = (SIXTH, FOURTH, MIDDLE, CUBE, AWAY, BLIND, LEVEL)

STEP = one_person((0,), (0,), ((0, "a", 0, ((1, 1),), ()),), (((0, 1),),))
DOUBLE = one_person((1,), (0,), ((0, "a", 0, ((0, 2),), ()),), (((0, 1),),))
MIRRORS = made(MILL_PARTS, arrows=(
    (0, "a", 0, ((1, -1),), ("x", "x")), (0, "b", 0, ((0, -1),), ("", "y")),
))
# A ring through all three places is needed, and what goes beyond is looked at behind another way.
ROUND = one_person(
    (0, 0), (2,),
    (
        (0, "a", 1, ((0, 0, 1), (1, 1, 0)), ()),
        (1, "a", 2, ((2, 0, 0), (0, 1, 1)), ()),
        (2, "a", 0, SAME2, ()),
        (2, "b", 2, ((0, -1, 0), (0, 0, 1)), ()),
    ),
    ((), (), ((0, 0, 1),)),
)
# Three registers, a chain: the last one stands still at first.
CHAIN = one_person(
    (0, 0, 0), (0,), ((0, "a", 0, ((1, 1, 0, 0), (0, 1, 1, 0), (0, 0, 1, 1)), ()),), (((0, 0, 0, 1),),),
)
# Only a test looks at what goes beyond, although no run does.
HELD = one_person(
    (0,), (0,), ((0, "a", 0, ((1, 1),), ()), (0, "b", 0, ((-1, 1),), ())), ((),),
    ((0, "a", (0, 1), -5, 4), (0, "b", (0, 1), -4, 5)),
)
# Both registers turned, by turns about unlike middles.
SHIFTED = one_person(
    (1, 1), (0,),
    ((0, "a", 0, ((0, 0, -1), (0, 1, 0)), ()), (0, "b", 0, ((1, 0, -1), (0, 1, 0)), ())),
    (((0, 1, 0),),),
)
# What grows is looked at only behind two further deeds, from which no way leads back.
LATE = one_person(
    (0, 5), (2,),
    (
        (0, "a", 0, ((1, 1, 0), (0, 0, 1)), ()),
        (0, "b", 1, ((0, 0, 1), (0, 1, 0)), ()),
        (1, "b", 2, ((0, 0, 1), (0, 1, 0)), ()),
    ), ((), ((0, 1, 0),), ((0, 0, 0), (3, 1, 0))),
)
UNBOUNDED = (LATE, STEP, DOUBLE, MIRRORS, ROUND, CHAIN, HELD, SHIFTED)


# The first log says at once what the second one repeats two marks later; days are whole rounds.
QUEUE = one_person(
    (0, 0), (0,),
    (
        (0, "a", 1, ((1, 0, 0), (0, 0, 0)), ("x", "")),
        (0, "b", 1, ((2, 0, 0), (0, 0, 0)), ("y", "")),
        (1, "a", 2, ((0, 1, 0), (1, 0, 0)), ("x", "")),
        (1, "b", 2, ((0, 1, 0), (2, 0, 0)), ("y", "")),
        (2, "a", 2, ((0, 0, 1), (0, 0, 0)), ("", "x")),
        (2, "b", 2, ((0, 0, 1), (0, 0, 0)), ("", "y")),
        (2, "c", 0, ((0, 0, 0), (0, 0, 0)), ("", "")),
    ), ((), (), ()), deeds="abc", logs=2,
    tests=((2, "a", (0, 1, 0), 1, 1), (2, "b", (0, 1, 0), 2, 2), (2, "c", (0, 1, 0), 0, 0)),
)


def chooser(loops, lasts, firsts=("", ""), again=("c", "c")):
    """A house in which one of two places is chosen, which the first log tells only at the end of the day.

    At each of the two a deed of again can be done again and again, which writes t on the first log and loops on the
    second one; firsts and lasts are what the second log has when the place is chosen, and left.
    """
    same = ((0, 1),)
    stay = [(1 + at, again[at], 1 + at, same, ("t", loops[at])) for at in (0, 1)]
    leave = [(1 + at, "d" if again[at] == "c" else "c", 0, same, ("pq"[at], lasts[at])) for at in (0, 1)]
    return one_person(
        (0,), (0,),
        (
            (0, "a", 1, same, ("m", firsts[0])), (0, "b", 2, same, ("m", firsts[1])), *sorted(stay + leave),
        ), ((), (), ()), deeds="abcd", logs=2,
    )


# The second log has unlike marks, or one mark more each time, ahead of what tells them.
UNLIKE_DRIFT = chooser(("x", "y"), ("", ""))
LONGER_DRIFT = chooser(("x", ""), ("", ""))
FIRST_DRIFT = chooser(("x", "x"), ("", ""), ("y", "x"))
# The same with unlike deeds in both loops.
UNLIKE_DEEDS_DRIFT = chooser(("x", "y"), ("", ""), again=("c", "d"))
LONGER_DEEDS_DRIFT = chooser(("", "x"), ("", ""), again=("c", "d"))
ONE_WRITES_DRIFT = chooser(("", "x"), ("", ""), ("y", "z"), again=("d", "c"))
OTHER_WRITES_DRIFT = chooser(("x", ""), ("", ""), ("y", "z"), again=("d", "c"))


def turning(house):
    """Such a house in which a loop comes to the same stand again only behind four deeds."""
    still, turn, begin = ((0, 1, 0), (0, 0, 1)), ((0, 0, -1), (0, 1, 0)), ((1, 0, 0), (0, 0, 0))
    arrows = tuple(
        (source, deed, target, begin if target == 0 else turn if source == target else still, marks)
        for source, deed, target, _, marks in house.arrows
    )
    looks = (((), ((0, 1, 0), (0, 0, 1)), ((0, 1, 0), (0, 0, 1))),)
    return House(1, house.deeds, (1, 0), 3, (0,), 2, arrows, (), looks)


UNLIKE_TURNS_DRIFT = turning(chooser(("x", "y"), ("", ""), ("y", "x"), again=("c", "d")))
LONGER_TURNS_DRIFT = turning(chooser(("x", ""), ("", ""), again=("c", "d")))
# Held back, but no more and no more.
HELD_BACK = chooser(("", ""), ("", ""), ("x", "y"))
AT_ONCE = chooser(("x", "x"), ("y", "z"))
NEVER = chooser(("", ""), ("x", "y"))
# Between the same two places one mark or another one may be held back, as the first log has m or n.
EITHER_HELD_BACK = one_person(
    (0,), (0,),
    (
        (0, "a", 1, ((0, 1),), ("m", "")), (0, "b", 2, ((0, 1),), ("m", "x")),
        (0, "c", 1, ((0, 1),), ("n", "")), (0, "d", 2, ((0, 1),), ("n", "y")),
        (1, "a", 1, ((0, 1),), ("t", "")), (1, "e", 0, ((0, 1),), ("p", "")),
        (2, "a", 2, ((0, 1),), ("t", "")), (2, "e", 0, ((0, 1),), ("q", "")),
    ), ((), (), ()), deeds="abcde", logs=2,
)
# One, two or three marks x are held back, as many as the first log has marks m and n.
COUNTED = one_person(
    (0, 0), (0,),
    (
        (0, "a", 1, ((0, 0, 1), (0, -1, 0)), ("m", "")), (0, "b", 2, ((0, 0, 1), (0, -1, 0)), ("m", "x")),
        (1, "c", 1, ((1, 0, 0), (0, 0, 0)), ("n", "")), (1, "d", 1, ((2, 0, 0), (0, 0, 0)), ("n", "")),
        (1, "e", 0, ((0, 0, 0), (0, 0, 0)), ("p", "")),
        (2, "c", 2, ((1, 0, 0), (0, 0, 0)), ("n", "x")), (2, "d", 2, ((2, 0, 0), (0, 0, 0)), ("n", "x")),
        (2, "e", 0, ((0, 0, 0), (0, 0, 0)), ("q", "")),
    ), ((), (), ()), deeds="abcde", logs=2,
    tests=((1, "c", (0, 1, 0), 0, 0), (1, "d", (0, 1, 0), 1, 1), (2, "c", (0, 1, 0), 0, 0), (2, "d", (0, 1, 0), 1, 1)),
)


def turned_form(dice, middles, at):
    """A form for one register: a value, or the mirror image or the copy of a register about the middles of both."""
    count = len(middles)
    if dice.random() < 0.25:
        return (dice.randint(-2, 3),) + (0,) * count
    other = at if dice.random() < 0.4 else dice.randrange(count)
    factor = dice.choice((1, -1))
    factors = [0] * count
    factors[other] = factor
    return (middles[at] - factor * middles[other],) + tuple(factors)


def plain_house(seed, marks=("", "m", "n")):
    """A house of one person whose register is never set, with any arrows between three places."""
    dice = random.Random(seed)
    arrows = tuple(
        (source, deed, dice.randrange(3), ((0, 1),), (dice.choice(marks), dice.choice(("", "x", "y"))))
        for source in range(3) for deed in "abc" if dice.random() < 0.8
    )
    return one_person((0,), (dice.randrange(3),), arrows, ((), (), ()), deeds="abc", logs=2)


def plain_look(dice, count):
    factors = [0] * count
    factors[dice.randrange(count)] = dice.choice((1, 1, 2))
    return (dice.randint(-1, 1),) + tuple(factors)


def bounded_parts(seed, people=None, most_deeds=3, logs=None):
    """Parts of a house that stays within bounds, the same ones for the same seed."""
    dice = random.Random(seed)
    people = people or dice.randint(1, 2)
    places, count = dice.randint(1, 3), dice.randint(1, 2)
    logs = dice.randint(0, 2) if logs is None else logs
    middles = [dice.randint(-1, 2) for _ in range(count)]
    deeds = sorted(dice.sample("abcxyz", dice.randint(1, most_deeds)))
    arrows = tuple(
        (
            source, letter, dice.randrange(places),
            tuple(turned_form(dice, middles, at) for at in range(count)),
            tuple(dice.choice(("", "x", "y")) for _ in range(logs)),
        )
        for source in range(places) for letter in deeds if dice.random() < 0.8
    )
    tests = {
        (arrow[0], arrow[1], plain_look(dice, count), dice.randint(-3, 0), dice.randint(0, 3))
        for arrow in arrows if dice.random() < 0.3
    }
    return {
        "people": people,
        "deeds": tuple((letter, dice.randrange(people)) for letter in deeds),
        "start": tuple(dice.randint(-1, 2) for _ in range(count)),
        "places": places,
        "ends": tuple(place for place in range(places) if dice.random() < 0.6),
        "logs": logs,
        "arrows": arrows,
        "tests": tuple(sorted(tests))[:4],
        "looks": tuple(
            tuple(tuple(plain_look(dice, count) for _ in range(dice.choice((0, 0, 1, 2)))) for _ in range(places))
            for _ in range(people)
        ),
    }


def bounded_house(seed, **choices):
    return House(**bounded_parts(seed, **choices))


def put_otherwise(house, rows, back, middle):
    """The same house told by other registers: sums of the old ones by rows, and middle; back leads to the old ones."""
    count = len(house.start)

    def new_form(form):
        factors = tuple(sum(form[1 + k] * back[k][at] for k in range(count)) for at in range(count))
        return (form[0] - sum(factor * number for factor, number in zip(factors, middle)),) + factors

    def new_arrow(forms):
        old = [new_form(form) for form in forms]
        return tuple(
            (middle[at] + sum(rows[at][k] * old[k][0] for k in range(count)),) + tuple(
                sum(rows[at][k] * old[k][1 + column] for k in range(count)) for column in range(count)
            ) for at in range(count)
        )

    return House(
        house.people, house.deeds,
        tuple(middle[at] + sum(rows[at][k] * house.start[k] for k in range(count)) for at in range(count)),
        house.places, house.ends, house.logs,
        tuple(arrow[:3] + (new_arrow(arrow[3]), arrow[4]) for arrow in house.arrows),
        tuple(sorted((source, deed, new_form(form), low, high) for source, deed, form, low, high in house.tests)),
        tuple(tuple(tuple(map(new_form, forms)) for forms in row) for row in house.looks),
    )


# Pairs of rows of integers, each of which leads back what the other one leads to.
TURNED = {
    1: ((((-1,),), ((-1,),)), (((1,),), ((1,),))),
    2: (
        (((1, 1), (0, 1)), ((1, -1), (0, 1))), (((2, 1), (1, 1)), ((1, -1), (-1, 2))),
        (((3, -2), (-1, 1)), ((1, 2), (1, 3))),
    ),
    3: (
        (((1, 1, 0), (0, 1, 1), (0, 0, 1)), ((1, -1, 1), (0, 1, -1), (0, 0, 1))),
        (((1, 0, 0), (2, 1, 0), (-1, 3, 1)), ((1, 0, 0), (-2, 1, 0), (7, -3, 1))),
    ),
}


def put_in_all_ways(house):
    count = len(house.start)
    return [put_otherwise(house, rows, back, (5, -2, 3)[:count]) for rows, back in TURNED[count]]
