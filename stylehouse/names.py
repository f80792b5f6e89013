"""Names: texts of one to eight letters from a to z."""

LONGEST_NAME = 8


def is_name(thing):
    if not isinstance(thing, str):
        return False
    if not 1 <= len(thing) <= LONGEST_NAME:
        return False
    # Not islower or isalpha: these take letters beyond z, too.
    return all(["a" <= sign <= "z" for sign in thing])
