"""The numbers that are answered where a call is refused."""

NO_ROOM = -1
BAD_FORM = -2
NO_THING = -3
NO_EFFECT = -4
PART_COUNT = -5
COPY_PART = -6
NOT_TOLD = -7
