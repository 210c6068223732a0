"""Lists of bytes taken apart and put together."""


def split_at(text, sign):
    """The stretches of a text between the bytes that are this sign; one more than there are such bytes."""
    stretches = []
    begin = 0
    for position, byte in enumerate(text):
        if byte == sign:
            stretches.append(text[begin:position])
            begin = position + 1
    stretches.append(text[begin:])
    return stretches


def joined(texts, between):
    """The texts one behind another, with the bytes between put in between neighbours."""
    whole = []
    for position, text in enumerate(texts):
        if position > 0:
            whole.extend(between)
        whole.extend(text)
    return whole
