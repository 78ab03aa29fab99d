"""Ways of a house: along arrows, tests not asked. A passage is what a way sets the registers to: a form for each."""

from loghouse.forms import value_of


def arrow_at(house, place, deed):
    """The arrow with this source and deed, None if there is none."""
    for arrow in house.arrows:
        if arrow[0] == place and arrow[1] == deed:
            return arrow
    return None


def forms_at(house, place):
    """The looked-at forms of a place: of looks by people, then of tests."""
    looks = [form for row in house.looks for form in row[place]]
    tests = [test[2] for test in house.tests if test[0] == place]
    return tuple(looks + tests)


def values_of(forms, numbers):
    """The tuple of the values of forms."""
    # Written out for each number of registers, because all else waits for it.
    if len(numbers) == 1:
        x = numbers[0]
        return tuple([constant + one * x for constant, one in forms])
    if len(numbers) == 2:
        x, y = numbers
        return tuple([constant + one * x + two * y for constant, one, two in forms])
    if len(numbers) == 3:
        x, y, z = numbers
        return tuple([constant + one * x + two * y + three * z for constant, one, two, three in forms])
    return tuple([value_of(form, numbers) for form in forms])


def form_ahead(forms, form):
    """The form whose value is that of another one behind the registers are set to the values of forms."""
    if len(forms) == 1:
        led = [form[1] * one for one in forms[0]]
    elif len(forms) == 2:
        _, x, y = form
        led = [x * one + y * two for one, two in zip(forms[0], forms[1])]
    else:
        _, x, y, z = form
        led = [x * one + y * two + z * three for one, two, three in zip(forms[0], forms[1], forms[2])]
    led[0] += form[0]
    return tuple(led)


def still(count):
    """The passage of the empty way: each register as it is."""
    return tuple([tuple([0] + [int(at == other) for other in range(count)]) for at in range(count)])


def passed_on(forms, further):
    """The passage of one way behind another one."""
    if len(forms) < 3 or len(forms[0]) < 4:
        return tuple([form_ahead(forms, form) for form in further])
    # Most time goes by with passages of three registers.
    (a, b, c, d), (e, f, g, h), (i, j, k, m) = forms
    return tuple([
        (one + x * a + y * e + z * i, x * b + y * f + z * j, x * c + y * g + z * k, x * d + y * h + z * m)
        for one, x, y, z in further
    ])


def arrows_along(house, place, way):
    """The arrows that a string takes from a place, as far as there are any."""
    taken = []
    for deed in way:
        arrow = arrow_at(house, place, deed)
        if arrow is None:
            break
        taken.append(arrow)
        place = arrow[2]
    return taken


def is_way(house, place, thing):
    """Whether a string is a way from a place."""
    return len(arrows_along(house, place, thing)) == len(thing)


def end_from(house, place, way):
    """The place where a way from a place ends."""
    taken = arrows_along(house, place, way)
    return taken[-1][2] if taken != [] else place


def numbers_from(house, place, numbers, way):
    """The values of the registers behind a way from a place."""
    for arrow in arrows_along(house, place, way):
        numbers = values_of(arrow[3], numbers)
    return numbers


def passage_of(house, place, way):
    """The passage of a way from a place."""
    forms = still(len(house.start))
    for arrow in arrows_along(house, place, way):
        forms = passed_on(forms, arrow[3])
    return forms
