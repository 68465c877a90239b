"""What several tests need: tariffs, runs of many shapes, and slow ways to what the program finds quickly."""

import itertools

ONE_RATE = ((5,), (0, 20))
PLAIN = ((9, 2), (0, 5, 30))
FOUR_RATES = ((20, 9, 4, 1), (0, 11, 40, 90, 150))
SMALLEST = ((1,), (0, 1))
LARGEST = ((10000, 9999, 2, 1), (0, 1, 9998, 9999, 10000))


def random_tariff(chance):
    many = chance.randint(1, 4)
    top = chance.choice([6, 30, 10000])
    rates = tuple(sorted(chance.sample(range(1, top + 1), many), reverse=True))
    wakes = (0,) + tuple(sorted(chance.sample(range(1, top + 1), many)))
    return (rates, wakes)


def small_tariff(chance):
    """A tariff with numbers so small that many plans cost the same."""
    many = chance.randint(1, 3)
    top = chance.choice([4, 9])
    rates = tuple(sorted(chance.sample(range(1, top + 1), many), reverse=True))
    wakes = (0,) + tuple(sorted(chance.sample(range(1, top + 1), many)))
    return (rates, wakes)


def random_breaks(chance, length):
    often = chance.choice([0, 0, 0.1, 0.4, 1])
    return [t for t in range(length) if chance.random() < often]


def random_needs(chance, length, most):
    shape = chance.choice(["any", "sparse", "steps", "same", "one"])
    if shape == "any":
        return [chance.randint(0, most) for _ in range(length)]
    if shape == "sparse":
        return [chance.choice([0, 0, 0, chance.randint(0, most)]) for _ in range(length)]
    if shape == "same":
        return [most] * length
    if shape == "one":
        return [chance.randint(0, min(1, most)) for _ in range(length)]
    needs = [chance.randint(0, most)] * length
    for t in range(1, length):
        needs[t] = min(most, max(0, needs[t - 1] + chance.randint(-1, 1)))
    return needs


def random_history(chance, longest, most):
    """Return (prices, needs, breaks)."""
    length = chance.randint(0, longest)
    dearest = chance.choice([1, 3, 20, 100])
    prices = [chance.randint(1, dearest) for _ in range(length)]
    return (prices, random_needs(chance, length, most), random_breaks(chance, length))


def random_run(chance, longest, most):
    """Return (tariff, prices, needs, breaks)."""
    tariff = chance.choice([small_tariff, random_tariff])(chance)
    return (tariff, *random_history(chance, longest, most))


def slow_step(tariff, before, after):
    if after >= before:
        return 0
    return tariff[1][before] if after == 0 else None


def slow_idle_state(tariff, total):
    costs = [r * total + w for r, w in zip(tariff[0] + (0,), tariff[1])]
    return costs.index(min(costs))


def slow_row_cost(tariff, prices, breaks, row):
    """Return what a machine with this row costs, or None if there is no such machine."""
    last = len(tariff[0])
    cost = 0
    for t, state in enumerate(row):
        before = last if t == 0 or t - 1 in breaks else row[t - 1]
        step = slow_step(tariff, before, state)
        if step is None:
            return None
        cost += step + (tariff[0] + (0,))[state] * prices[t]
    return cost


def all_rows(tariff, prices, breaks):
    """Return a list of (row, cost) of all rows that a machine can have."""
    rows = itertools.product(range(len(tariff[1])), repeat=len(prices))
    costs = [(row, slow_row_cost(tariff, prices, breaks, row)) for row in rows]
    return [(row, cost) for row, cost in costs if cost is not None]


def slow_least(tariff, prices, needs, breaks, machines):
    """Return the least cost of all plans with so many machines that fit the run, by trying every step of all."""
    last = len(tariff[0])
    found = {(last,) * machines: 0}
    for t, price in enumerate(prices):
        if t - 1 in breaks:
            found = {(last,) * machines: min(found.values())}
        behind = {}
        for states, cost in found.items():
            steps = [[(slow_step(tariff, state, to), to) for to in range(last + 1)] for state in states]
            for way in itertools.product(*[[pair for pair in row if pair[0] is not None] for row in steps]):
                after = tuple(sorted(to for _, to in way))
                if after.count(0) >= needs[t]:
                    paid = cost + sum(step + (tariff[0] + (0,))[to] * price for step, to in way)
                    behind[after] = min(paid, behind.get(after, paid))
        found = behind
    return min(found.values())


def slow_rows(tariff, prices, needs, breaks, state_of):
    """Return the tuple (states, cost) of each moment of a run by a rule, by looking back from each moment anew."""
    last = len(tariff[0])
    rows = []
    for t in range(len(prices)):
        states, cost = [], 0
        for lane in range(1, 41):
            back = [u for u in range(t + 1) if needs[u] >= lane and not any(u <= b < t for b in breaks)]
            if not back:
                states.append(last)
                continue
            state = 0 if back[-1] == t else state_of(sum(prices[back[-1] + 1:t + 1]))
            if back[-1] != t and t - 1 not in breaks and rows[t - 1][0][lane - 1] == last:
                state = last
            fresh = t == 0 or t - 1 in breaks
            cost += slow_step(tariff, last if fresh else rows[t - 1][0][lane - 1], state)
            cost += (tariff[0] + (0,))[state] * prices[t]
            states.append(state)
        rows.append((tuple(states), cost))
    return rows
