"""What a name is, and where a list of names goes wrong."""

LONGEST_NAME = 8


def is_name(text):
    """True for 1 to 8 letters from a to z."""
    return 1 <= len(text) <= LONGEST_NAME and all(["a" <= sign <= "z" for sign in text])


def first_bad_name(names):
    """The least index of an entry that is not a name or is equal to an earlier one, or None."""
    for index, name in enumerate(names):
        if not is_name(name) or name in names[:index]:
            return index
    return None


def first_stray(columns, names):
    """The least index of an entry that is not a column or is equal to an earlier one, or None."""
    for index, name in enumerate(names):
        if name not in columns or name in names[:index]:
            return index
    return None
