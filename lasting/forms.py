"""The forms of rows, and the ranges of the numbers in them."""

SIDE = (0, 1)
BENT = (0, 1)
COUNTERS = (0, 1000000000)
THING_NUMBERS = (1, 1000000000)
ABILITY_NUMBERS = (0, 15)
KINDS = (0, 2)
SUBTYPES = (10, 1000000000)
COLOURS = (0, 3)
KEYWORDS = (0, 14)

# Side, bent, power, body.
THING_ROW = ((0, 1), (0, 1), (-1000000000, 1000000000), (-1000000000, 1000000000))

COPY = 0
COUNTING = 13
PART_NUMBERS = (0, 14)

# What stands behind a part's own number, by that number. A counting part
# has a filter behind these too.
PART_ROWS = (
    ((1, 1000000000),),
    (),
    ((0, 2),),
    ((0, 2),),
    ((10, 1000000000),),
    ((10, 1000000000),),
    ((0, 3),),
    ((0, 3),),
    ((0, 14),),
    ((0, 14),),
    (),
    ((-1000000000, 1000000000), (-1000000000, 1000000000)),
    ((-1000000000, 1000000000), (-1000000000, 1000000000)),
    ((-1000000000, 1000000000), (-1000000000, 1000000000)),
    (),
)

# Other, whose, bent, colour, head, keyword, whether a least power is named, the least power.
FILTER_ROW = (
    (0, 1), (0, 2), (0, 2), (0, 4), (0, 1000000000), (0, 15), (0, 1), (-1000000000, 1000000000),
)
HEAD = 4
# No kind has these as its head, and no subtype is so low.
NO_HEADS = (4, 9)


def within(value, limits):
    return limits[0] <= value <= limits[1]


def all_within(row, limits):
    return all([within(value, limits) for value in row])


def fits_ranges(row, ranges):
    if len(row) != len(ranges):
        return False
    return all([within(value, limits) for value, limits in zip(row, ranges)])


def is_distinct(row, limits):
    return all_within(row, limits) and len(set(row)) == len(row)


def is_filter(row):
    return fits_ranges(row, FILTER_ROW) and not within(row[HEAD], NO_HEADS)


def is_group(row):
    return len(row) == 0 or is_filter(row)


def is_part(row):
    if len(row) == 0 or not within(row[0], PART_NUMBERS):
        return False
    ranges = PART_ROWS[row[0]]
    if row[0] != COUNTING:
        return fits_ranges(row[1:], ranges)
    end = 1 + len(ranges)
    return fits_ranges(row[1:end], ranges) and is_filter(row[end:])


def are_parts(rows):
    return all([is_part(row) for row in rows])


def copied_things(parts):
    return [part[1] for part in parts if part[0] == COPY]
