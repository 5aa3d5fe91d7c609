"""What calls have in common: ranges, how a point is found by its number, and the rows of an answer."""

from postdistricts.refusals import NoSuchPoint, NotInRange

GREATEST_NUMBER = 1000000


def check_range(number, least, greatest):
    if number < least or number > greatest:
        raise NotInRange()


def find_point(town, number):
    check_range(number, 1, GREATEST_NUMBER)
    for point in town.points:
        if point.number == number:
            return point
    raise NoSuchPoint()


def as_row(numbers):
    return [len(numbers)] + numbers


def as_one_row(groups):
    numbers = []
    for group in groups:
        numbers.extend(group)
    return as_row(numbers)
