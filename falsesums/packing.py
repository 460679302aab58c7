"""Lists of whole numbers packed into one long whole number, a slot of so many bits for each.

One multiplication or addition of long numbers serves all slots at once, as long as nothing
grows out of its slot: where numbers may be below nought they are to be less, up or down, than
half of what a slot can count.
"""

FEW = 16


def packed(slots, width):
    """The numbers in slots, the first one lowest; those below nought borrow from the slot above."""
    if len(slots) > FEW:
        half = len(slots) // 2
        return packed(slots[:half], width) + (packed(slots[half:], width) << (width * half))
    whole = 0
    for slot in reversed(slots):
        whole = (whole << width) + slot
    return whole


def unpacked(whole, many, width):
    """The numbers in the lowest slots, so many of them, where none is below nought."""
    if many > FEW:
        # By halves, as each step on the whole length would take as long as all of it.
        half = many // 2
        low = whole & ((1 << (width * half)) - 1)
        return unpacked(low, half, width) + unpacked(whole >> (width * half), many - half, width)
    slot = (1 << width) - 1
    return [(whole >> (width * at)) & slot for at in range(many)]


def in_every_slot(number, many, width):
    """The same number, from nought on, in each of so many slots."""
    return packed([number] * many, width)


def unpacked_signed(whole, many, width):
    """The numbers in so many slots, all that there are, where some may be below nought."""
    half = 1 << (width - 1)
    return [slot - half for slot in unpacked(whole + in_every_slot(half, many, width), many, width)]


def signed_slot(whole, at, width):
    """The number in this slot, where some may be below nought."""
    half = 1 << (width - 1)
    if at == 0:
        return ((whole + half) & (2 * half - 1)) - half
    # With one bit of the slot below: rounding by it gives back what the slots below have borrowed.
    slot = (whole >> (width * at - 1)) & (4 * half - 1)
    return ((((slot + 1) >> 1) + half) & (2 * half - 1)) - half
