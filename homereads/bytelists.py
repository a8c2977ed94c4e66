"""Numbers in byte lists, their most significant byte first."""


def number_bytes(number, size):
    """Return the list of the `size` bytes of a number."""
    return [(number >> (8 * place)) & 255 for place in reversed(range(size))]


def number_at(data, at, size):
    """Return the number that `size` bytes from `at` on tell."""
    number = 0
    for byte in data[at:at + size]:
        number = 256 * number + byte
    return number
