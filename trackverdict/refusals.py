"""The numbers that are answered, alone, by a call that is refused."""

BAD_PLACE = -1
BAD_VALUE = -2
BAD_ORDER = -3
NO_SUCH_CHANGE = -4
