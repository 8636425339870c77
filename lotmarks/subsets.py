"""Subsets of things that are numbered from 0 on, as integers: bit k of such an integer is 1 if thing k is in it."""


def unions(sets):
    """The list that has for each subset of the numbers the union of the sets that a list has for its members."""
    found = [0]
    for told in sets:
        found = found + [told | other for other in found]
    return found


def members(subset):
    """The ascending list of the numbers in a subset."""
    return [number for number in range(subset.bit_length()) if (subset >> number) & 1 == 1]


def chosen(things, subset):
    """The tuple of those things whose numbers are in a subset."""
    return tuple([things[number] for number in members(subset)])


def subset_of(things, some):
    """The subset of the numbers of some of the things."""
    return sum([1 << number for number, thing in enumerate(things) if thing in some])
