"""Stays by the hour: who is let in, who is allowed, how many meet, the lockers, one more place."""

MOST_PLACES = 20
MOST_STAYS = 10
LAST_HOUR = 24


def refusal():
    """What every refused call answers."""
    return [-22]


def are_stays(stays):
    """Whether the numbers are stays: pairs, not too many, each of hours of the day."""
    if len(stays) % 2 != 0 or len(stays) > 2 * MOST_STAYS:
        return False
    for first, until in pairs(stays):
        if not 0 <= first < until <= LAST_HOUR:
            return False
    return True


def are_numbers_of_stays(some, count):
    """Whether the numbers are different ones, each less than the count of the stays."""
    return len(set(some)) == len(some) and all([0 <= number < count for number in some])


def pairs(stays):
    """The stays as tuples (first hour, hour up to which), by number."""
    return [(stays[at], stays[at + 1]) for at in range(0, len(stays), 2)]


def in_turn(spans):
    """The numbers of the stays by first hour, of alike ones by number."""
    return sorted(range(len(spans)), key=lambda number: (spans[number][0], number))


def those_there(hour, numbers, spans):
    """Those of the numbers whose stays have the hour."""
    return [number for number in numbers if spans[number][0] <= hour < spans[number][1]]


def most_there(numbers, spans):
    """How many of the numbers are there in the hour in which most of them are."""
    return max([len(those_there(hour, numbers, spans)) for hour in range(LAST_HOUR)])


def last_to_leave(numbers, spans):
    """The number whose stay ends latest, of alike ones the greatest."""
    return max(numbers, key=lambda number: (spans[number][1], number))


def who_is_let_in(room, spans):
    """The numbers of those let in with so much room, rising."""
    inside = []
    for number in in_turn(spans):
        inside.append(number)
        there = those_there(spans[number][0], inside, spans)
        if len(there) > room:
            inside.remove(last_to_leave(there, spans))
    return sorted(inside)


def least_free(taken):
    """The least locker that is not among those taken."""
    locker = 0
    while locker in taken:
        locker += 1
    return locker


def locker_of_each(spans):
    """The lockers that the stays get if all are let in, by number of the stay."""
    given = [0] * len(spans)
    inside = []
    for number in in_turn(spans):
        there = those_there(spans[number][0], inside, spans)
        given[number] = least_free([given[other] for other in there])
        inside.append(number)
    return given


def letin(places, stays):
    """How many are let in, then their numbers, rising; or the refusal."""
    if places > MOST_PLACES or not are_stays(stays):
        return refusal()
    inside = who_is_let_in(places, pairs(stays))
    return [len(inside)] + inside


def allowed(places, stays, some):
    """1 where in no hour more of some are there than there are places, else 0; or the refusal."""
    if places > MOST_PLACES or not are_stays(stays):
        return refusal()
    spans = pairs(stays)
    if not are_numbers_of_stays(some, len(spans)):
        return refusal()
    if most_there(some, spans) > places:
        return [0]
    return [1]


def peak(stays):
    """The most that are there in any hour, of all; or the refusal."""
    if not are_stays(stays):
        return refusal()
    spans = pairs(stays)
    return [most_there(list(range(len(spans))), spans)]


def lockers(stays):
    """How many stays there are, then the locker of each, by number; or the refusal."""
    if not are_stays(stays):
        return refusal()
    spans = pairs(stays)
    return [len(spans)] + locker_of_each(spans)


def places(stays):
    """How many numbers follow, then how many are let in with no place, with one, and so on; or the refusal."""
    if not are_stays(stays):
        return refusal()
    spans = pairs(stays)
    let_in = [len(who_is_let_in(room, spans)) for room in range(len(spans) + 1)]
    return [len(let_in)] + let_in
