"""Calls laid out in one list, and their answers laid out in another."""

from lasting.changes import change, is_change
from lasting.field import Field
from lasting.questions import Known, ask


class Reader:
    """Reads whole numbers and rows, one behind another, from a list that it leaves as it is."""

    def __init__(self, laid_out):
        self.laid_out = laid_out
        self.place = 0

    def at_end(self):
        return self.place >= len(self.laid_out)

    def take(self):
        value = self.laid_out[self.place]
        self.place += 1
        return value

    def take_row(self):
        length = self.take()
        start = self.place
        self.place += length
        return self.laid_out[start:self.place]

    def take_rows(self):
        how_many = self.take()
        rows = []
        for place in range(how_many):
            rows.append(self.take_row())
        return rows


def answer_call(known, number, numbers, rows):
    if not is_change(number):
        return ask(known, number, numbers, rows)
    answer = change(known.field, number, numbers, rows)
    if answer[0] == 0:
        known.forget()
    return answer


def play(field, calls):
    """Carries out the calls on the field, and gives back their answers, each behind its length."""
    known = Known(field)
    reader = Reader(calls)
    laid_out = []
    while not reader.at_end():
        number = reader.take()
        numbers = reader.take_row()
        rows = reader.take_rows()
        answer = answer_call(known, number, numbers, rows)
        laid_out.append(len(answer))
        laid_out.extend(answer)
    return laid_out


def answers(calls):
    return play(Field(), calls)
