"""What a name is."""

LONGEST_NAME = 12


def is_small_letter(byte):
    """Whether a byte is one from "a" to "z"."""
    return 97 <= byte <= 122


def is_name_byte(byte):
    """Whether a byte may stand in a name."""
    return is_small_letter(byte) or 48 <= byte <= 57


def is_name(text):
    """Whether a list or tuple of bytes is a name."""
    if not 1 <= len(text) <= LONGEST_NAME:
        return False
    return is_small_letter(text[0]) and all([is_name_byte(byte) for byte in text])
