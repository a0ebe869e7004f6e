"""Names of kinds and members."""

MAX_LENGTH = 40
DIGITS = "0123456789"
NAME_SIGNS = "ABCDEFGHIJKLMNOPQRSTUVWXYZabcdefghijklmnopqrstuvwxyz_0123456789"
BARRED_WORDS = ("and", "as", "class", "def", "else", "for", "if", "in", "is", "not", "or", "pass", "self")


def is_name(value):
    """Returns whether a value of any kind is a name."""
    if not isinstance(value, str) or value == "" or len(value) > MAX_LENGTH:
        return False
    for sign in value:
        if sign not in NAME_SIGNS:
            return False
    return value[0] not in DIGITS and value not in BARRED_WORDS
