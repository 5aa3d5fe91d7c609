"""The calls on one new town, handed in and answered as one list of whole numbers."""

from postdistricts.actions import adopt_plan, begin_anew, change_cap, change_load, pass_days, put_point, remove_point
from postdistricts.questions import check_text, judge_parting, tell_code, tell_counts, tell_district, tell_free
from postdistricts.questions import tell_history, tell_plan, tell_reading, tell_retired, tell_row, tell_text
from postdistricts.records import Town
from postdistricts.refusals import NoPlan, NoSuchPoint, NotAsTold, NotInRange, TooMany

FIRST_GRACE = 30
FIRST_CAP = 100
CHANGES = (0, 1, 2, 3, 4, 5, 7)


class Reader:
    def __init__(self, calls):
        self.calls = calls
        self.at = 0

    def has_more(self):
        return self.at < len(self.calls)

    def take_number(self):
        number = self.calls[self.at]
        self.at += 1
        return number

    def take_row(self):
        length = self.take_number()
        row = self.calls[self.at:self.at + length]
        self.at += length
        return row


def answer_change(town, call, reader):
    if call == 0:
        return begin_anew(town, reader.take_number(), reader.take_number())
    if call == 1:
        return put_point(town, reader.take_number(), reader.take_number())
    if call == 2:
        return change_load(town, reader.take_number(), reader.take_number())
    if call == 3:
        return remove_point(town, reader.take_number())
    if call == 4:
        return change_cap(town, reader.take_number())
    if call == 5:
        return pass_days(town, reader.take_number())
    return adopt_plan(town)


def answer_question(town, call, reader):
    if call == 6:
        return tell_plan(town)
    if call == 8:
        return judge_parting(town, reader.take_row(), reader.take_row())
    if call == 9:
        return tell_code(town, reader.take_number())
    if call == 10:
        return tell_district(town, reader.take_number())
    if call == 11:
        return tell_reading(town, reader.take_number(), reader.take_row())
    if call == 12:
        return tell_text(reader.take_number())
    if call == 13:
        return check_text(reader.take_row())
    if call == 14:
        return tell_history(town, reader.take_number())
    if call == 15:
        return tell_retired(town)
    if call == 16:
        return tell_row(town)
    if call == 17:
        return tell_free(town, reader.take_number())
    if call == 18:
        return tell_counts(town)
    raise ValueError("no such call")


def answer_call(town, reader):
    call = reader.take_number()
    if call in CHANGES:
        return answer_change(town, call, reader)
    return answer_question(town, call, reader)


def answer_or_refusal(town, reader):
    try:
        return answer_call(town, reader)
    except NotInRange:
        return [-1]
    except NotAsTold:
        return [-2]
    except NoSuchPoint:
        return [-4]
    except NoPlan:
        return [-7]
    except TooMany:
        return [-8]


def answers(calls):
    town = Town(FIRST_GRACE, FIRST_CAP)
    reader = Reader(calls)
    told = []
    while reader.has_more():
        answer = answer_or_refusal(town, reader)
        told.append(len(answer))
        told.extend(answer)
    return told
