"""Tables of fractions: their reduced form, their rank, what solves them, their determinant.

All of it is worked out on whole numbers, and made fractions of at the end alone: fractions
that are taken to their one form at each step cost far more time than whole numbers.
"""

from trialfield.fracs import fraction, greatest_divisor

NOUGHT = (0, 1)
UNIT = (1, 1)


# Rows of whole numbers, brought by row turns to where each lead has 0 beneath it.
# leads: the column of each row's lead, from the top on, as far as the rows are not noughts.
# last: the last lead (1 without one); with as many leads as rows and columns, the determinant.
class Stairs:
    def __init__(self, rows):
        self.rows = list(rows)
        self.leads = []
        self.last = 1
        for column in range(len(rows[0])):
            self.step_down(column)

    def step_down(self, column):
        top = len(self.leads)
        place = self.place_of_lead(top, column)
        if place is None:
            return
        self.exchange(top, place)
        lead_row = self.rows[top]
        beneath = [cleared_row(row, lead_row, column, self.last) for row in self.rows[top + 1:]]
        self.rows = self.rows[:top + 1] + beneath
        self.leads.append(column)
        self.last = lead_row[column]

    def place_of_lead(self, top, column):
        for place in range(top, len(self.rows)):
            if self.rows[place][column] != 0:
                return place
        return None

    def exchange(self, top, place):
        if place == top:
            return
        # An exchange turns the determinant's sign; turning one row's signs turns it back.
        lowered = [-number for number in self.rows[top]]
        self.rows[top] = self.rows[place]
        self.rows[place] = lowered

    # The column of the reduced form, as far as there are leads, taken times last. The division
    # leaves no rest: so taken, each number is a determinant of a part of the first rows.
    def reduced_column(self, column):
        count = len(self.leads)
        numbers = [0] * count
        for place in range(count - 1, -1, -1):
            row = self.rows[place]
            known = sum([row[self.leads[k]] * numbers[k] for k in range(place + 1, count)])
            numbers[place] = (self.last * row[column] - known) // row[self.leads[place]]
        return numbers


# The division leaves no rest: each number of the new row is a determinant of a part of the
# first rows, taken times the lead ahead of this one. Without it the numbers would grow
# twice as long with every lead.
def cleared_row(row, lead_row, column, last):
    lead = lead_row[column]
    factor = row[column]
    return [(lead * number - factor * above) // last for number, above in zip(row, lead_row)]


def common_bottom(row):
    bottom = 1
    for number in row:
        bottom = bottom // greatest_divisor(bottom, number[1]) * number[1]
    return bottom


def whole_row(row):
    bottom = common_bottom(row)
    return [number[0] * (bottom // number[1]) for number in row]


def stairs_of(table):
    return Stairs([whole_row(row) for row in table])


def fractions_over(numbers, bottom):
    return [fraction(number, bottom) for number in numbers]


def laid_over(table):
    return [[row[k] for row in table] for k in range(len(table[0]))]


def reduced(table):
    stairs = stairs_of(table)
    beneath = [NOUGHT] * (len(table) - len(stairs.leads))
    columns = [
        fractions_over(stairs.reduced_column(column), stairs.last) + beneath
        for column in range(len(table[0]))
    ]
    return laid_over(columns)


def rank(table):
    return len(stairs_of(table).leads)


# What solves the table for the column, nought in the columns without a lead; or None.
def solution(table, column):
    width = len(table[0])
    stairs = stairs_of([row + [number] for row, number in zip(table, column)])
    if width in stairs.leads:
        return None
    numbers = fractions_over(stairs.reduced_column(width), stairs.last)
    found = [NOUGHT] * width
    for lead, number in zip(stairs.leads, numbers):
        found[lead] = number
    return found


# A y that makes nought of each column of the table and one of the column handed in is itself
# what solves these columns, laid over; it is there just where nothing solves the table.
def witness(table, column):
    laid = laid_over(table)
    return solution(laid + [list(column)], [NOUGHT] * len(laid) + [UNIT])


def solved(table, column):
    found = solution(table, column)
    if found is None:
        return ("never", witness(table, column))
    return ("found", found)


def determinant(table):
    stairs = stairs_of(table)
    if len(stairs.leads) < len(table):
        return NOUGHT
    bottom = 1
    for row in table:
        bottom = bottom * common_bottom(row)
    return fraction(stairs.last, bottom)
