"""Systems for tests, small ones and large ones."""

import random

from lastlife.systems import System

BIG = 10 ** 180
EXAMPLE = System(3, [(1, 0, 3), (0, 1, -1), (2, 1, 4), (1, 2, -2)])


def sample_systems(many, seed=1):
    """So many systems: some that times keep, some with rings below 0, some with long numbers and 200 links."""
    dice = random.Random(seed)
    found = []
    for _ in range(many):
        count = dice.choice((1, 2, 3, 3, 4, 5, 8, 12))
        size = dice.choice((4, 10, BIG))
        slopes = [dice.randint(-size, size) for _ in range(count)]
        links = []
        for _ in range(dice.choice((0, 1, 2, 4, 6, 10, 30, 200))):
            one, other = dice.randrange(count), dice.randrange(count)
            most = slopes[one] - slopes[other] + dice.randint(0, size // 2)
            links.append((one, other, most if dice.random() < 0.97 else dice.randint(-size, size)))
        found.append(System(count, links))
    return found


def all_small_systems():
    """All systems of two instants and two links with small numbers."""
    links = [(one, other, most) for one in range(2) for other in range(2) for most in (-1, 0, 1)]
    return [System(2, (one, other)) for one in links for other in links]


def small_times(count, size):
    """All times of so many instants of which the first one is 0 and no other one is farther off than the size."""
    found = [(0,)]
    for _ in range(count - 1):
        found = [(*times, time) for times in found for time in range(-size, size + 1)]
    return found
