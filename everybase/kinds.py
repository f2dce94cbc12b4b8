"""What counts as an integer, a number, a base and a name, of any values."""

LETTERS = "abcdefghijklmnopqrstuvwxyz"
LONGEST_NAME = 4


def is_integer(value):
    """Whether the value is an int that is not a bool."""
    return isinstance(value, int) and not isinstance(value, bool)


def is_number(value):
    """Whether the value is an integer from 0 on."""
    return is_integer(value) and value >= 0


def is_base(value):
    """Whether the value is an integer from 2 on."""
    return is_integer(value) and value >= 2


def is_name(value):
    """Whether the value is a string of one to four letters a to z."""
    if not isinstance(value, str):
        return False
    # The letters are told one by one: islower and isalpha take other alphabets, too.
    return 1 <= len(value) <= LONGEST_NAME and all([one in LETTERS for one in value])
