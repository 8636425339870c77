"""What a told thing is: each function takes any object and returns True or False."""


def is_list(thing):
    """Whether a thing is a list, or a tuple in the place of one."""
    return isinstance(thing, (list, tuple))


def is_name(thing):
    """Whether a thing is a string of one to eight letters a to z."""
    # Of the ASCII signs just the small letters pass both of the last two; the empty text passes neither.
    return isinstance(thing, str) and len(thing) <= 8 and thing.isascii() and thing.isalpha() and thing.islower()


def is_name_list(thing):
    """Whether a thing is a list of different names."""
    # That all are names comes first: only then can each be a member of a set.
    if not is_list(thing) or not all([is_name(item) for item in thing]):
        return False
    return len(set(thing)) == len(thing)


def is_integer(thing):
    """Whether a thing is an integer; True and False are none."""
    return isinstance(thing, int) and not isinstance(thing, bool)


def is_count(thing):
    """Whether a thing is an integer from 0 on."""
    return is_integer(thing) and thing >= 0


def is_worth(thing, worths):
    """Whether a thing is an integer from 0 up to the number of worths, without it."""
    return is_count(thing) and thing < worths
