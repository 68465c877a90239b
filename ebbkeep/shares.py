"""Shares of a quota of machines among services."""


def next_service(wants, weights, given):
    """Return the index of the service that the next machine goes to, or None if nobody wants one."""
    best = None
    for k in range(len(wants)):
        if given[k] < wants[k]:
            # Only a lesser fraction takes the place, so of several equal ones the first keeps it.
            if best is None or given[k] * weights[best] < given[best] * weights[k]:
                best = k
    return best


def shares(quota, wants, weights):
    """Return how many machines each service gets."""
    given = [0] * len(wants)
    for _ in range(quota):
        k = next_service(wants, weights, given)
        if k is None:
            break
        given[k] = given[k] + 1
    return given


def has_right_sum(quota, wants, given):
    """Tell whether the quota is used up, or everybody has what it wants and the quota is kept."""
    total = sum(given)
    return total == quota or (total < quota and given == wants)


def had_its_turn(weights, given, a, b):
    """Tell whether the last machine of b went to it rightly, although a has fewer than it wants."""
    left = (given[b] - 1) * weights[a]
    right = given[a] * weights[b]
    return left < right or (left == right and b < a)


def accepts_shares(quota, wants, weights, given):
    """Tell whether the given numbers of machines are the shares."""
    if len(given) != len(wants):
        return False
    if not all([0 <= number <= want for number, want in zip(given, wants)]):
        return False
    short = [k for k in range(len(wants)) if given[k] < wants[k]]
    owners = [k for k in range(len(wants)) if given[k] > 0]
    return has_right_sum(quota, wants, given) and all(
        [had_its_turn(weights, given, a, b) for a in short for b in owners if a != b]
    )
