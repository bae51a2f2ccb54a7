"""Which things a filter fits, for an effect.

An effect counts here by its owner, the thing whose ability it is (0, which
is no thing's number, for a loose one), and by its side.
"""

YOUR = 1
BENT_ALONE = 1
LAST_KIND_HEAD = 3


def has_head(shape, head):
    if head <= LAST_KIND_HEAD:
        return head - 1 in shape.kinds
    return head in shape.subtypes


def fits(row, shape, owner, side):
    if row[0] == 1 and shape.number == owner:
        return False
    if row[1] != 0 and (row[1] == YOUR) != (shape.side == side):
        return False
    if row[2] != 0 and (row[2] == BENT_ALONE) != (shape.bent == 1):
        return False
    if row[3] != 0 and row[3] - 1 not in shape.colours:
        return False
    if row[4] != 0 and not has_head(shape, row[4]):
        return False
    if row[5] != 0 and row[5] - 1 not in shape.keywords:
        return False
    return row[6] == 0 or shape.power >= row[7]


def fitting_things(row, shapes, owner, side):
    """The numbers of the things that the filter fits, in the order of the shapes."""
    return [number for number, shape in shapes.items() if fits(row, shape, owner, side)]
