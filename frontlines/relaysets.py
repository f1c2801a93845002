"""Sets of relays [43]: those under which something holds, if it holds under each set of some relays of such a one."""


def all_sets(many):
    """All rising tuples of numbers of so many relays, each behind those of which it has one number more."""
    found = [()]
    for number in range(many):
        found.extend([numbers + (number,) for numbers in list(found)])
    return found


def without_one(numbers):
    """The sets that lack just one number of the set."""
    return [numbers[:place] + numbers[place + 1:] for place in range(len(numbers))]


def sets_told(many, holds):
    """A dict from each set to whether it holds; what follows from other sets is not asked for."""
    sets = all_sets(many)
    if holds(sets[-1]):
        return {numbers: True for numbers in sets}
    told = {}
    for numbers in sets[:-1]:
        told[numbers] = all([told[part] for part in without_one(numbers)]) and holds(numbers)
    told[sets[-1]] = False
    return told


def largest_sets(many, holds):
    """The sorted list of the sets under which it holds, and with no further relay."""
    told = sets_told(many, holds)
    smaller = {part: True for numbers in told if told[numbers] for part in without_one(numbers)}
    return sorted([numbers for numbers in told if told[numbers] and numbers not in smaller])


def least_other_sets(many, holds):
    """The sorted list of the sets under which it does not hold, but without any one of their relays."""
    told = sets_told(many, holds)
    return sorted([
        numbers for numbers in told if not told[numbers] and all([told[part] for part in without_one(numbers)])
    ])
