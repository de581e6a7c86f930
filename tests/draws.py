"""Numbers for coins, always the same ones, so that a test that fails fails again."""


def numbers_from(seed, many, spread=1000):
    """Return many numbers from -spread up to spread."""
    numbers = []
    state = seed
    for _ in range(many):
        state = (state * 6364136223846793005 + 1442695040888963407) % 2 ** 64
        numbers.append((state >> 33) % (2 * spread + 1) - spread)
    return numbers
