"""What several modules ask of numbers and rows."""

from noshortring.errors import NoNumber


def is_whole(thing, least, most):
    """Whether the thing is a whole number within the bounds."""
    # Python counts True and False among the ints, the document does not.
    if not isinstance(thing, int) or isinstance(thing, bool):
        return False
    return least <= thing <= most


def need_number(thing, least, most):
    """Refuses what is no whole number within the bounds."""
    if not is_whole(thing, least, most):
        raise NoNumber()


def is_rising(row):
    """Whether each thing of the row is greater than the one ahead."""
    return all([one < other for one, other in zip(row, row[1:])])


def least_told(numbers):
    """The least of a list of numbers and Nones, None where there is no number."""
    return min([number for number in numbers if number is not None], default=None)
