"""The bytes with which formulas are written."""

BLANK = 32
OPENING = 40
CLOSING = 41
COMMA = 44
TILDE = 126
# The two bytes of -o
DASH = 45
SMALL_O = 111

# By kind: * | & + ! ?
KIND_SIGNS = (42, 124, 38, 43, 33, 63)
# The other way: the kinds of * | & + and those of ! ?
CHAIN_KINDS = {42: 0, 124: 1, 38: 2, 43: 3}
PREFIX_KINDS = {33: 4, 63: 5}
