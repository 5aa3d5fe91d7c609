"""The calls on one new town, handed in and answered as one list of whole numbers."""

from postdistricts.actions import adopt_plan, begin_anew, change_cap, change_load, judge_parting
from postdistricts.actions import pass_days, put_point, remove_point, tell_code, tell_plan
from postdistricts.records import Town
from postdistricts.refusals import NoPlan, NoSuchPoint, NotAsTold, NotInRange, TooMany

FIRST_GRACE = 30
FIRST_CAP = 100


class Reader:
    def __init__(self, calls):
        self.calls = calls
        self.at = 0

    def has_more(self):
        return self.at < len(self.calls)

    def take_number(self):
        number = self.calls[self.at]
        self.at += 1
        return number

    def take_row(self):
        length = self.take_number()
        row = self.calls[self.at:self.at + length]
        self.at += length
        return row


def answer_call(town, reader):
    call = reader.take_number()
    if call == 0:
        return begin_anew(town, reader.take_number(), reader.take_number())
    if call == 1:
        return put_point(town, reader.take_number(), reader.take_number())
    if call == 2:
        return change_load(town, reader.take_number(), reader.take_number())
    if call == 3:
        return remove_point(town, reader.take_number())
    if call == 4:
        return change_cap(town, reader.take_number())
    if call == 5:
        return pass_days(town, reader.take_number())
    if call == 6:
        return tell_plan(town)
    if call == 7:
        return adopt_plan(town)
    if call == 8:
        return judge_parting(town, reader.take_row(), reader.take_row())
    if call == 9:
        return tell_code(town, reader.take_number())
    raise ValueError("no such call")


def answer_or_refusal(town, reader):
    try:
        return answer_call(town, reader)
    except NotInRange:
        return [-1]
    except NotAsTold:
        return [-2]
    except NoSuchPoint:
        return [-4]
    except NoPlan:
        return [-7]
    except TooMany:
        return [-8]


def answers(calls):
    town = Town(FIRST_GRACE, FIRST_CAP)
    reader = Reader(calls)
    told = []
    while reader.has_more():
        answer = answer_or_refusal(town, reader)
        told.append(len(answer))
        told.extend(answer)
    return told
