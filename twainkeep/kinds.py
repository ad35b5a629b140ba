"""What a thing is: a number, a moment, a side, a text, a row of so many, a grid; and whether a row rises."""

LAST_MOMENT = 1000000000000


def is_number(thing):
    # To Python a truth is an int too; here it is no whole number.
    return isinstance(thing, int) and not isinstance(thing, bool)


def is_moment(thing):
    return is_number(thing) and 0 <= thing <= LAST_MOMENT


def is_side(thing):
    return is_number(thing) and 0 <= thing <= 1


def is_sign(sign):
    return " " <= sign <= "~" or sign == "\n"


def is_text(thing):
    return isinstance(thing, str) and all([is_sign(sign) for sign in thing])


def is_row_of(thing, count):
    return isinstance(thing, tuple) and len(thing) == count


def are_numbers(thing):
    return isinstance(thing, tuple) and all([is_number(each) for each in thing])


def is_grid(thing, rows, columns):
    return is_row_of(thing, rows) and all([is_row_of(row, columns) and are_numbers(row) for row in thing])


def rises(row):
    return all([one < other for one, other in zip(row, row[1:])])
