"""Polynomials as integers: their values at great powers of 2, from which they can be read again."""


def packed(one, step):
    """The value of a polynomial at 2^step."""
    # Neighbours are put together to pairs: long sums are built only a few times.
    values, shift = list(one), step
    while len(values) > 1:
        if len(values) & 1:
            values.append(0)
        values = [values[k] + (values[k + 1] << shift) for k in range(0, len(values), 2)]
        shift = shift + shift
    return values[0] if values else 0


def _digits(number, many, step):
    """So many digits of a number from 0 on, the lowest one first, of `step` bits each."""
    if many == 1:
        return [number]
    low = many // 2
    bits = low * step
    return _digits(number & ((1 << bits) - 1), low, step) + _digits(number >> bits, many - low, step)


def unpacked(number, step):
    """The polynomial with this value at 2^step, whose numbers are all less than half of that."""
    if number == 0:
        return []
    many = number.bit_length() // step + 1
    half = 1 << (step - 1)
    # Digits that are all greater by the same number are not below 0.
    return [own - half for own in _digits(number + packed([half] * many, step), many, step)]
