"""What all other files lean on: KINDs, tuples for lists, and the ones of a row of bits."""


def is_kind(thing):
    """Whether thing is a KIND: a string of one or more letters a to z."""
    # isalpha and islower would let letters of other alphabets pass.
    return isinstance(thing, str) and thing != "" and all(["a" <= sign <= "z" for sign in thing])


def frozen(value):
    """The value with tuples for lists, at any depth."""
    if isinstance(value, (list, tuple)):
        return tuple([frozen(part) for part in value])
    return value


def ones(bits):
    """The places of the ones of bits, a number from 0, ascending."""
    found = []
    while bits > 0:
        found.append((bits & -bits).bit_length() - 1)
        bits = bits & (bits - 1)
    return found


def is_number(thing):
    """Whether thing is a number: an int that is no bool."""
    return isinstance(thing, int) and not isinstance(thing, bool)
