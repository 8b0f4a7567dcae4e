"""Names and words."""


def is_name(value):
    """Tell whether a value is a string of 1 to 12 letters from a to z."""
    if not isinstance(value, str) or not 1 <= len(value) <= 12:
        return False
    return all(["a" <= letter <= "z" for letter in value])


def is_one_of(value, words):
    """Tell whether a value is one of a tuple of words."""
    # An object may claim to equal any string, so its kind is asked first.
    return isinstance(value, str) and value in words
