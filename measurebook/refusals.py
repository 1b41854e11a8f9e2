"""The numbers by which calls are refused."""

NO_NAME = -1
NAME_TAKEN = -2
BOOK_FULL = -3
NO_QUANTITY = -4
UNKNOWN_NAME = -5
NOT_ABOVE_ZERO = -6
TOO_FAR = -7
NO_ENTRY = -8
STILL_USED = -9
NOT_ALIKE = -10
OUT_OF_RANGE = -13
