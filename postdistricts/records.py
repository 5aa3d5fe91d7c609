"""What is kept of a town and of its points."""


class Point:
    def __init__(self, number, load, code, since):
        self.number = number
        self.load = load
        self.code = code
        self.since = since
        # Each code that it had before: the code, since when, until when.
        self.had = []


class Town:
    def __init__(self, grace, cap):
        self.renew(grace, cap)

    def renew(self, grace, cap):
        self.day = 0
        self.grace = grace
        self.cap = cap
        self.points = []
        # Each code that lost its last point, and the day.
        self.retired = []
        # Kept apart from the points, so that the number of one taken away is never given again.
        self.numbers_given = 0
