"""Houses that stay within bounds, and houses that do not."""

import random

from loghouse.houses import House
from tests.samples import MILL_PARTS, made


def one_person(start, ends, arrows, looks, tests=(), deeds="ab", logs=0):
    """A house of one person, whose looks are a tuple of forms for each place."""
    return House(
        1, tuple((letter, 0) for letter in deeds), start, len(looks), ends, logs, arrows, tests, (looks,)
    )


SAME2 = ((0, 1, 0), (0, 0, 1))

# Turned by a sixth, and by a fourth; the register x is seen.
SIXTH = one_person((1, 0), (0,), ((0, "a", 0, ((0, 0, -1), (0, 1, 1)), ()),), ((((0, 1, 0),)),))
FOURTH = one_person((3, 1), (0,), ((0, "a", 0, ((0, 0, -1), (0, 1, 0)), ()),), ((((0, 1, 0),)),))
# Registers turned about a middle, exchanged and set; two places.
MIDDLE = one_person(
    (2, 5), (1,),
    (
        (0, "a", 1, ((6, -1, 0), (0, 0, 1)), ()),
        (0, "b", 0, ((0, 0, 1), (0, 1, 0)), ()),
        (1, "a", 0, ((0, 1, 0), (6, 0, -1)), ()),
        (1, "b", 1, ((2, 0, 0), (0, 1, 0)), ()),
    ),
    (((0, 1, 0),), ((1, 1, 1),)),
)
# Three registers exchanged and turned: all 48 ways to stand at the place 0, 6 at each of the others.
CUBE = one_person(
    (1, 2, 3), (2,),
    (
        (0, "a", 0, ((0, 0, 1, 0), (0, 0, 0, 1), (0, 1, 0, 0)), ("",)),
        (0, "b", 0, ((0, 0, 1, 0), (0, 1, 0, 0), (0, 0, 0, 1)), ("x",)),
        (0, "c", 0, ((0, -1, 0, 0), (0, 0, 1, 0), (0, 0, 0, 1)), ("y",)),
        (0, "d", 1, ((0, 1, 0, 0), (0, 0, 0, 0), (0, 0, 0, 0)), ("z",)),
        (1, "d", 2, ((0, 1, 0, 0), (0, 0, 1, 0), (5, 0, 0, 0)), ("z",)),
    ),
    (((0, 1, 0, 0), (0, 0, 1, 2)), ((0, 1, 0, 0),), ((0, 1, 0, 0),)), deeds="abcd", logs=1,
)
# The place 1 is left with a register that goes on for ever; no way leads there.
AWAY = one_person(
    (4,), (0,),
    ((0, "a", 0, ((8, -1),), ()), (1, "a", 1, ((1, 1),), ()), (1, "b", 0, ((0, 2),), ())),
    (((0, 1),), ((3, 2),)),
)
# Nothing is looked at, so the steps are no matter.
BLIND = one_person((0,), (), ((0, "a", 0, ((1, 1),), ()),), ((),))
# A sum of two registers that goes on for ever stands still.
LEVEL = one_person(
    (0, 7), (0,), ((0, "a", 0, ((1, 1, 0), (-1, 0, 1)), ()), (0, "b", 0, ((0, 0, 1), (0, 1, 0)), ())),
    (((0, 1, 1), (2, -3, -3)),),
)
BOUNDED = (SIXTH, FOURTH, MIDDLE, CUBE, AWAY, BLIND, LEVEL)

STEP = one_person((0,), (0,), ((0, "a", 0, ((1, 1),), ()),), (((0, 1),),))
DOUBLE = one_person((1,), (0,), ((0, "a", 0, ((0, 2),), ()),), (((0, 1),),))
MIRRORS = made(MILL_PARTS, arrows=(
    (0, "a", 0, ((1, -1),), ("x", "x")), (0, "b", 0, ((0, -1),), ("", "y")),
))
# A ring through all three places is needed, and what goes beyond is looked at behind another way.
ROUND = one_person(
    (0, 0), (2,),
    (
        (0, "a", 1, ((0, 0, 1), (1, 1, 0)), ()),
        (1, "a", 2, ((2, 0, 0), (0, 1, 1)), ()),
        (2, "a", 0, SAME2, ()),
        (2, "b", 2, ((0, -1, 0), (0, 0, 1)), ()),
    ),
    ((), (), ((0, 0, 1),)),
)
# Three registers, a chain: the last one stands still at first.
CHAIN = one_person(
    (0, 0, 0), (0,), ((0, "a", 0, ((1, 1, 0, 0), (0, 1, 1, 0), (0, 0, 1, 1)), ()),), (((0, 0, 0, 1),),),
)
# Only a test looks at what goes beyond, although no run does.
HELD = one_person(
    (0,), (0,), ((0, "a", 0, ((1, 1),), ()), (0, "b", 0, ((-1, 1),), ())), ((),),
    ((0, "a", (0, 1), -5, 4), (0, "b", (0, 1), -4, 5)),
)
# Both registers turned, by turns about unlike middles.
SHIFTED = one_person(
    (1, 1), (0,),
    ((0, "a", 0, ((0, 0, -1), (0, 1, 0)), ()), (0, "b", 0, ((1, 0, -1), (0, 1, 0)), ())),
    (((0, 1, 0),),),
)
# What grows is looked at only behind two further deeds, from which no way leads back.
LATE = one_person(
    (0, 5), (2,),
    (
        (0, "a", 0, ((1, 1, 0), (0, 0, 1)), ()),
        (0, "b", 1, ((0, 0, 1), (0, 1, 0)), ()),
        (1, "b", 2, ((0, 0, 1), (0, 1, 0)), ()),
    ), ((), ((0, 1, 0),), ((0, 0, 0), (3, 1, 0))),
)
UNBOUNDED = (LATE, STEP, DOUBLE, MIRRORS, ROUND, CHAIN, HELD, SHIFTED)


# The first log says at once what the second one repeats two marks later; days are whole rounds.
QUEUE = one_person(
    (0, 0), (0,),
    (
        (0, "a", 1, ((1, 0, 0), (0, 0, 0)), ("x", "")),
        (0, "b", 1, ((2, 0, 0), (0, 0, 0)), ("y", "")),
        (1, "a", 2, ((0, 1, 0), (1, 0, 0)), ("x", "")),
        (1, "b", 2, ((0, 1, 0), (2, 0, 0)), ("y", "")),
        (2, "a", 2, ((0, 0, 1), (0, 0, 0)), ("", "x")),
        (2, "b", 2, ((0, 0, 1), (0, 0, 0)), ("", "y")),
        (2, "c", 0, ((0, 0, 0), (0, 0, 0)), ("", "")),
    ), ((), (), ()), deeds="abc", logs=2,
    tests=((2, "a", (0, 1, 0), 1, 1), (2, "b", (0, 1, 0), 2, 2), (2, "c", (0, 1, 0), 0, 0)),
)


def chooser(loops, lasts, firsts=("", "")):
    """A house in which one of two places is chosen, which the first log tells only at the end of the day.

    At each of the two a deed can be done again and again, which writes t on the first log and loops on the second one;
    firsts and lasts are what the second log has when the place is chosen, and left.
    """
    same = ((0, 1),)
    return one_person(
        (0,), (0,),
        (
            (0, "a", 1, same, ("m", firsts[0])), (0, "b", 2, same, ("m", firsts[1])),
            (1, "c", 1, same, ("t", loops[0])), (1, "d", 0, same, ("p", lasts[0])),
            (2, "c", 2, same, ("t", loops[1])), (2, "d", 0, same, ("q", lasts[1])),
        ), ((), (), ()), deeds="abcd", logs=2,
    )


# The second log has unlike marks, or one mark more each time, ahead of what tells them.
UNLIKE_DRIFT = chooser(("x", "y"), ("", ""))
LONGER_DRIFT = chooser(("x", ""), ("", ""))
FIRST_DRIFT = chooser(("x", "x"), ("", ""), ("y", "x"))
# Held back, but no more and no more.
HELD_BACK = chooser(("", ""), ("", ""), ("x", "y"))
AT_ONCE = chooser(("x", "x"), ("y", "z"))
NEVER = chooser(("", ""), ("x", "y"))


def turned_form(dice, middles, at):
    """A form for one register: a value, or the mirror image or the copy of a register about the middles of both."""
    count = len(middles)
    if dice.random() < 0.25:
        return (dice.randint(-2, 3),) + (0,) * count
    other = at if dice.random() < 0.4 else dice.randrange(count)
    factor = dice.choice((1, -1))
    factors = [0] * count
    factors[other] = factor
    return (middles[at] - factor * middles[other],) + tuple(factors)


def plain_look(dice, count):
    factors = [0] * count
    factors[dice.randrange(count)] = dice.choice((1, 1, 2))
    return (dice.randint(-1, 1),) + tuple(factors)


def bounded_parts(seed, people=None, most_deeds=3, logs=None):
    """Parts of a house that stays within bounds, the same ones for the same seed."""
    dice = random.Random(seed)
    people = people or dice.randint(1, 2)
    places, count = dice.randint(1, 3), dice.randint(1, 2)
    logs = dice.randint(0, 2) if logs is None else logs
    middles = [dice.randint(-1, 2) for _ in range(count)]
    deeds = sorted(dice.sample("abcxyz", dice.randint(1, most_deeds)))
    arrows = tuple(
        (
            source, letter, dice.randrange(places),
            tuple(turned_form(dice, middles, at) for at in range(count)),
            tuple(dice.choice(("", "x", "y")) for _ in range(logs)),
        )
        for source in range(places) for letter in deeds if dice.random() < 0.8
    )
    tests = {
        (arrow[0], arrow[1], plain_look(dice, count), dice.randint(-3, 0), dice.randint(0, 3))
        for arrow in arrows if dice.random() < 0.3
    }
    return {
        "people": people,
        "deeds": tuple((letter, dice.randrange(people)) for letter in deeds),
        "start": tuple(dice.randint(-1, 2) for _ in range(count)),
        "places": places,
        "ends": tuple(place for place in range(places) if dice.random() < 0.6),
        "logs": logs,
        "arrows": arrows,
        "tests": tuple(sorted(tests))[:4],
        "looks": tuple(
            tuple(tuple(plain_look(dice, count) for _ in range(dice.choice((0, 0, 1, 2)))) for _ in range(places))
            for _ in range(people)
        ),
    }


def bounded_house(seed, **choices):
    return House(**bounded_parts(seed, **choices))
