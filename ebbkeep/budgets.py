"""Budgets, and the needs that they allow."""


def greatest_need(pool, price, want, budget):
    """Return the greatest need, from 0 to the want, that the budget allows the pool."""
    # A need of 0 is allowed whatever was spent. If a need is allowed, each smaller one is, too.
    allowed = 0
    above = want + 1
    # Mostly the whole want is allowed, so it is asked first.
    need = want
    while above - allowed > 1:
        if sum(pool.after(price, need)) <= budget:
            allowed = need
        else:
            above = need
        need = (allowed + above) // 2
    return allowed


def limit(pool, price, want, budget):
    """Return the limit of a budget for a price and a want."""
    # The house has parameters called limit, so it cannot import this name and takes the other one.
    return greatest_need(pool, price, want, budget)
