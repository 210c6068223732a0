"""Texts read as formulas."""

from countedlogic.names import is_name, is_name_byte
from countedlogic.nodes import PAR, dual_of, of_one, of_two, plain_atom
from countedlogic.signs import BLANK, CHAIN_KINDS, CLOSING, DASH, OPENING, PREFIX_KINDS, SMALL_O, TILDE

LONGEST_TEXT = 2000
MOST_OPEN = 100

# Stands where a sign is asked for and there is none.
NO_SIGN = 0


def is_sign(byte):
    """Whether a byte by itself is a token."""
    return byte in (OPENING, CLOSING, TILDE) or byte in CHAIN_KINDS or byte in PREFIX_KINDS


def token_at(text, start):
    """The token that begins at start, as a tuple of its bytes; None if none does."""
    if is_sign(text[start]):
        return (text[start],)
    if text[start:start + 2] == [DASH, SMALL_O]:
        return (DASH, SMALL_O)
    end = start
    while end < len(text) and is_name_byte(text[end]):
        end += 1
    stretch = tuple(text[start:end])
    return stretch if is_name(stretch) else None


def tokens_of(text):
    """The tokens of a text, a list of bytes; None if something in it is no token."""
    tokens = []
    position = 0
    while position < len(text):
        if text[position] == BLANK:
            position += 1
        else:
            token = token_at(text, position)
            if token is None:
                return None
            tokens.append(token)
            position += len(token)
    return tokens


class Reading:
    """A formula while it is read, token by token.

    waiting: the signs that are open, the outermost first, each with the formula
    ahead of it (None, for a sign that has none ahead).
    ended: the formula that ended with the last token; None where a part must begin.
    """

    def __init__(self):
        self.waiting = []
        self.ended = None

    def take(self, token):
        """Goes on by a token; answers whether it may stand here."""
        if self.ended is None:
            return self.begin_part(token)
        return self.follow_part(token)

    def begin_part(self, token):
        """Takes a token with which a part begins."""
        if is_name(token):
            self.end_part(plain_atom(token))
            return True
        sign = token[0]
        if sign == OPENING or sign == TILDE or sign in PREFIX_KINDS:
            return self.wait_behind(sign)
        return False

    def follow_part(self, token):
        """Takes a token that stands behind the end of a part."""
        sign = token[0]
        if sign == CLOSING:
            return self.close_bracket()
        if sign == DASH:
            self.end_chain()
            return self.wait_behind(sign)
        if sign in CHAIN_KINDS:
            # A part behind a chain's sign can only be followed by the same sign.
            outer = self.innermost()
            if outer in CHAIN_KINDS and outer != sign:
                return False
            return self.wait_behind(sign)
        return False

    def wait_behind(self, sign):
        """Opens a sign; answers whether so many may be open."""
        self.waiting.append((sign, self.ended))
        self.ended = None
        return len(self.waiting) <= MOST_OPEN

    def innermost(self):
        """The sign that was opened last and is still open."""
        if self.waiting == []:
            return NO_SIGN
        return self.waiting[-1][0]

    def end_part(self, formula):
        """Ends a part, and with it those of ~ ! ? that stand right before it."""
        sign = self.innermost()
        while sign == TILDE or sign in PREFIX_KINDS:
            self.waiting.pop()
            formula = dual_of(formula) if sign == TILDE else of_one(PREFIX_KINDS[sign], formula)
            sign = self.innermost()
        self.ended = formula

    def end_chain(self):
        """Ends the chain whose last part has ended."""
        while self.innermost() in CHAIN_KINDS:
            outer = self.waiting.pop()
            self.ended = of_two(CHAIN_KINDS[outer[0]], outer[1], self.ended)

    def end_formula(self):
        """Ends the formula whose last part has ended."""
        self.end_chain()
        while self.innermost() == DASH:
            outer = self.waiting.pop()
            self.ended = of_two(PAR, dual_of(outer[1]), self.ended)

    def close_bracket(self):
        """Takes a ) ; answers whether there is a ( to it."""
        self.end_formula()
        if self.innermost() != OPENING:
            return False
        self.waiting.pop()
        self.end_part(self.ended)
        return True

    def whole(self):
        """The formula that all the tokens are; None if they are none."""
        if self.ended is None:
            return None
        self.end_formula()
        return self.ended if self.waiting == [] else None


def formula_in(text):
    """The formula that a text is read as, in bounds or not; None if it's none."""
    if len(text) > LONGEST_TEXT:
        return None
    tokens = tokens_of(text)
    if tokens is None:
        return None
    reading = Reading()
    for token in tokens:
        if not reading.take(token):
            return None
    return reading.whole()
