"""Houses and values that several tests use."""

import random

from loghouse.houses import House

PARTS = ("people", "deeds", "start", "places", "ends", "logs", "arrows", "tests", "looks")

MILL_PARTS = {
    "people": 2,
    "deeds": (("a", 0), ("b", 1)),
    "start": (0,),
    "places": 1,
    "ends": (0,),
    "logs": 2,
    "arrows": ((0, "a", 0, ((1, -1),), ("x", "x")), (0, "b", 0, ((0, 1),), ("", "y"))),
    "tests": (),
    "looks": ((((0, 1),),), ((),)),
}

MILL_TEXT = """people 2
deed a 0
deed b 1
start 0
places 1
ends 0
logs 2
arrow 0 a 0 1,-1 xx
arrow 0 b 0 0,1 -y
look 0 0 0,1"""

# Nothing but what a house must have.
BARE_PARTS = {
    "people": 1,
    "deeds": (("a", 0),),
    "start": (0,),
    "places": 1,
    "ends": (),
    "logs": 0,
    "arrows": (),
    "tests": (),
    "looks": (((),),),
}

BARE_TEXT = """people 1
deed a 0
start 0
places 1
ends
logs 0"""

# Two registers, two places, one log, tests, looks of two people at some places.
YARD_PARTS = {
    "people": 2,
    "deeds": (("c", 1), ("f", 0), ("z", 1)),
    "start": (-7, 12),
    "places": 2,
    "ends": (0, 1),
    "logs": 1,
    "arrows": (
        (0, "c", 1, ((0, 1, 0), (-2, 0, 3)), ("q",)),
        (0, "z", 0, ((5, 0, 1), (0, 1, 0)), ("",)),
        (1, "c", 0, ((0, 0, -1), (0, 1, 1)), ("a",)),
        (1, "f", 1, ((0, 1, 0), (0, 0, 1)), ("z",)),
    ),
    "tests": (
        (0, "z", (0, 1, 1), -10, 10),
        (1, "c", (1, 0, 1), -3, -3),
        (1, "c", (1, 0, 2), 0, 900),
    ),
    "looks": ((((0, 1, 0), (4, 0, -1)), ()), ((), ((0, 1, -1),))),
}

YARD_TEXT = """people 2
deed c 1
deed f 0
deed z 1
start -7 12
places 2
ends 0 1
logs 1
arrow 0 c 1 0,1,0/-2,0,3 q
arrow 0 z 0 5,0,1/0,1,0 -
arrow 1 c 0 0,0,-1/0,1,1 a
arrow 1 f 1 0,1,0/0,0,1 z
test 0 z 0,1,1 -10 10
test 1 c 1,0,1 -3 -3
test 1 c 1,0,2 0 900
look 0 0 0,1,0 4,0,-1
look 1 1 0,1,-1"""

# The greatest number of everything that is limited, and tests and looks beyond what other files allow.
FULL_LETTERS = "aemsz"
FULL_FORM = (-20, 3, -3, 1)
FULL_PARTS = {
    "people": 3,
    "deeds": tuple((letter, at % 3) for at, letter in enumerate(FULL_LETTERS)),
    "start": (-50, 0, 50),
    "places": 3,
    "ends": (0, 1, 2),
    "logs": 2,
    "arrows": tuple(
        (source, letter, (source + at) % 3, (FULL_FORM, (0, 0, 1, 0), (20, 0, 0, -3)), ("az"[at % 2], ""))
        for source in range(3)
        for at, letter in enumerate(FULL_LETTERS)
    ),
    "tests": tuple(
        (source, letter, (0, 0, 1, low), -1000, 1000)
        for source in range(3)
        for letter in FULL_LETTERS
        for low in (-1, 1)
    ),
    "looks": tuple(
        tuple(tuple((person, place, 0, at) for at in range(3)) for place in range(3)) for person in range(3)
    ),
}

ALL_PARTS = (MILL_PARTS, BARE_PARTS, YARD_PARTS, FULL_PARTS)
TEXTS = ((MILL_PARTS, MILL_TEXT), (BARE_PARTS, BARE_TEXT), (YARD_PARTS, YARD_TEXT))

MILL = House(**MILL_PARTS)
BARE = House(**BARE_PARTS)
YARD = House(**YARD_PARTS)
FULL = House(**FULL_PARTS)
HOUSES = (MILL, BARE, YARD, FULL)


def any_values():
    """Values of all kinds, made anew, none of which is a part of a house, a form or a text."""
    return [
        None, True, False, -1, 4, 10 ** 40 - 1, 1 - 10 ** 40, "", "people", "A", "aa", "a\nb", " ",
        [], [0], [[1]], {}, {"a": 1}, {"people": [2]}, (None,), (True,), ([],), ({},), ((),), ("",),
        ((None, False),), [MILL], {"a": MILL}, (MILL,), MILL, (((((((((1,),),),),),),),),), "x" * 4000,
    ]


def made(parts, **others):
    """The house with these parts, some of them others."""
    return House(**{**parts, **others})


def attributes(house):
    """The parts of a house, by their names."""
    return {part: getattr(house, part) for part in PARTS}


def random_form(dice, count):
    """Any form of so many registers."""
    return tuple([dice.randint(-20, 20)] + [dice.randint(-3, 3) for _ in range(count)])


def random_parts(seed):
    """Right parts of a house, the same ones for the same seed."""
    dice = random.Random(seed)
    people, places, logs = dice.randint(1, 3), dice.randint(1, 3), dice.randint(0, 2)
    count = dice.randint(1, 3)
    letters = sorted(dice.sample("abcdefghijklmnopqrstuvwxyz", dice.randint(1, 5)))
    arrows = tuple(
        (
            source, letter, dice.randrange(places),
            tuple(random_form(dice, count) for _ in range(count)),
            tuple(dice.choice(["", "", "a", "m", "z"]) for _ in range(logs)),
        )
        for source in range(places) for letter in letters if dice.random() < 0.7
    )
    tests = {
        (arrow[0], arrow[1], random_form(dice, count), dice.randint(-1000, 0), dice.randint(0, 1000))
        for arrow in arrows for _ in range(2) if dice.random() < 0.3
    }
    return {
        "people": people,
        "deeds": tuple((letter, dice.randrange(people)) for letter in letters),
        "start": tuple(dice.randint(-50, 50) for _ in range(count)),
        "places": places,
        "ends": tuple(place for place in range(places) if dice.random() < 0.5),
        "logs": logs,
        "arrows": arrows,
        "tests": tuple(sorted(tests)),
        "looks": tuple(
            tuple(tuple(random_form(dice, count) for _ in range(dice.randint(0, 2))) for _ in range(places))
            for _ in range(people)
        ),
    }
