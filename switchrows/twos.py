"""Powers of two."""


def two_to(many):
    """1 doubled so many times."""
    product = 1
    for k in range(many):
        product *= 2
    return product
