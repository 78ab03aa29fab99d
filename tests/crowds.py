"""Houses with several people, for what they hear of one another."""

from loghouse.houses import House
from tests.samples import MILL, attributes, made
from tests.test_tapes import CROWD
from tests.yards import CUBE, bounded_house, one_person

SAME2 = ((0, 1, 0), (0, 0, 1))
# The person 0 sets a register to 1, the person 1 carries it to the second one, which the person 2 sees.
CARRIED = House(
    3, (("a", 0), ("b", 1), ("c", 2)), (0, 0), 1, (0,), 0,
    (
        (0, "a", 0, ((1, 0, 0), (0, 0, 1)), ()), (0, "b", 0, ((0, 1, 0), (0, 1, 0)), ()),
        (0, "c", 0, ((0, 1, 0), (0, 0, 1)), ()),
    ), (), (((),), ((),), (((0, 0, 1),),)),
)
# Who is the first one of two is seen by the third one, who hears nothing.
RACE = House(
    3, (("a", 0), ("b", 1), ("c", 2)), (0,), 3, (1, 2), 1,
    (
        (0, "a", 1, ((0, 1),), ("x",)), (0, "b", 2, ((0, 1),), ("y",)), (0, "c", 0, ((0, 1),), ("",)),
        (1, "c", 1, ((0, 1),), ("z",)), (2, "c", 2, ((0, 1),), ("",)),
    ), (), (((), (), ()), ((), (), ()), ((), ((0, 1),), ((1, 1),))),
)
# A deed can be done only at one of two places, and the one who tries it sees so.
LOCKED = House(
    2, (("a", 0), ("b", 1)), (0,), 2, (0,), 1,
    ((0, "a", 1, ((0, 1),), ("x",)), (1, "a", 0, ((0, 1),), ("",)), (1, "b", 1, ((1, -1),), ("y",))),
    (), (((), ()), (((0, 1),), ((0, 1),))),
)
# Tests decide what can be done; the place 1 leads to no end.
TESTED = House(
    2, (("a", 0), ("b", 1), ("c", 1)), (0, 2), 2, (0,), 0,
    (
        (0, "a", 0, ((1, -1, 0), (0, 0, 1)), ()), (0, "b", 0, ((0, 1, 0), (2, 0, -1)), ()),
        (0, "c", 1, ((0, 1, 0), (0, 0, 1)), ()), (1, "a", 1, ((1, -1, 0), (0, 0, 1)), ()),
    ),
    ((0, "b", (0, 1, 0), 1, 1), (0, "c", (0, 0, 1), 0, 0)),
    ((((0, 1, 0),), ()), (((0, 0, 1),), ((0, 1, 0),))),
)
RANDOM = tuple(
    house for house in (bounded_house(seed, people=people, most_deeds=3, logs=0) for people in (2, 3) for seed in range(60))
    if len(house.deeds) > 1
)
NAMED = (MILL, CROWD, CARRIED, RACE, LOCKED, TESTED)
# Sixty stands, three people.
GREAT = made(
    attributes(CUBE), people=3, deeds=(("a", 0), ("b", 1), ("c", 2), ("d", 1)),
    looks=(CUBE.looks[0], ((), (), ()), (((0, 0, 0, 1),), ((0, 1, 0, 0),), ())),
)
ALONE = one_person((0,), (0,), ((0, "a", 0, ((1, -1),), ()),), (((0, 1),),))
