"""What the tests of houses need: settings and ledgers of many shapes, and a slow house that is read off the document."""

import copy
import fractions

from cases import FOUR_RATES, ONE_RATE, PLAIN, random_tariff, slow_idle_state, small_tariff

NAMES = ("web", "mail", "a", "zz", "service", "keep")


def service(name="web", room=1, lag=0, patience=0, weight=1, most=40, budget=1000000, tariff=ONE_RATE):
    return (name, room, lag, patience, weight, most, budget, *tariff)


def house_of(*services, quota=200, keeps=()):
    return (quota, services, tuple(keeps))


def random_service(chance, name, most):
    patience = chance.choice([0, 1, 2, 5])
    lag = chance.choice([0, 0, chance.randint(0, patience)])
    tariff = chance.choice([small_tariff(chance), random_tariff(chance), PLAIN, FOUR_RATES])
    budget = chance.choice([0, 30, 300, 3000, 30000, 1000000])
    room = chance.choice([1, 2, 4, 64])
    return service(name, room, lag, patience, chance.randint(1, 9), chance.randint(0, most), budget, tariff)


def random_keep(chance, names, most):
    period = chance.choice([1, 2, 3, 7])
    begin = chance.randint(0, period - 1)
    return (chance.choice(names), chance.randint(1, most), begin, chance.randint(begin + 1, period), period)


def random_setting(chance, most=5):
    """Return a setting in which no service ever has more machines than most says."""
    names = chance.sample(NAMES, chance.choice([1, 2, 3]))
    services = tuple(random_service(chance, name, most) for name in names)
    keeps = tuple(random_keep(chance, names, most) for _ in range(chance.choice([0, 0, 1, 3])))
    return (chance.choice([0, 2, 5, 200]), services, keeps)


def random_ledger(chance, setting, longest=12):
    length = chance.randint(0, longest)
    dearest = chance.choice([1, 3, 20, 100])
    often = chance.choice([0, 0.1, 0.5])
    most = chance.choice([1, 6, 30, 1000])

    def told():
        return (chance.randint(1, dearest), chance.choice([0, chance.randint(0, most)]), chance.random() < often)

    return [[told() for _ in setting[1]] for _ in range(length)]


def random_house(chance, longest=12, most=5):
    """Return (setting, ledger)."""
    setting = random_setting(chance, most)
    return (setting, random_ledger(chance, setting, longest))


def changed(row, at, value):
    """Return the tuple or list with another part."""
    return row[:at] + type(row)([value]) + row[at + 1:]


def changed_service(setting, k, at, value):
    return (setting[0], changed(setting[1], k, changed(setting[1][k], at, value)), setting[2])


class SlowPool:
    """Lanes that keep the prices of their gaps, and what they paid in them."""

    def __init__(self, tariff):
        self.rates, self.wakes = tariff[0] + (0,), tariff[1]
        self.lanes = [{"state": len(tariff[0]), "prices": [], "paid": 0} for _ in range(40)]
        self.spent = 0

    def step(self, price, need):
        last = len(self.rates) - 1
        cost = 0
        for number, lane in enumerate(self.lanes, start=1):
            if number <= need:
                cost += self.rates[0] * price + self.wakes[lane["state"]]
                lane.update(state=0, prices=[], paid=0)
            elif lane["state"] != last:
                lane["prices"].append(price)
                lane["state"] = slow_idle_state((self.rates[:-1], self.wakes), sum(lane["prices"]))
                paid = self.rates[lane["state"]] * price
                lane["paid"] += paid
                cost += paid
        self.spent += cost
        return (tuple(lane["state"] for lane in self.lanes), cost)

    def end_break(self):
        for lane in self.lanes:
            lane.update(state=len(self.rates) - 1, prices=[], paid=0)

    def reserve(self):
        last = len(self.rates) - 1
        return sum(self.wakes[last] - lane["paid"] for lane in self.lanes if lane["state"] != last)

    def limit(self, price, want, budget):
        allowed = [0]
        for need in range(1, want + 1):
            pool = copy.deepcopy(self)
            pool.step(price, need)
            if pool.spent + pool.reserve() <= budget:
                allowed.append(need)
        assert allowed == list(range(len(allowed)))
        return allowed[-1]


def slow_shares(quota, wants, weights):
    given = [0] * len(wants)
    while sum(given) < quota and given != wants:
        short = [k for k in range(len(wants)) if given[k] < wants[k]]
        given[min(short, key=lambda k: (fractions.Fraction(given[k], weights[k]), k))] += 1
    return given


def slow_reason(due, run, want, limit, given):
    if run == due:
        return "all"
    if given < limit:
        return "quota"
    return "budget" if given == limit < want else "most"


def slow_record(setting, ledger):
    """Go through the moments as point 63 says, job by job."""
    quota, services, keeps = setting
    pools = [SlowPool(one[7:]) for one in services]
    waiting = [[] for _ in services]
    record = []
    for t, entry in enumerate(ledger):
        asked = []
        for one, pool, jobs, (price, came, _) in zip(services, pools, waiting, entry):
            jobs.extend([t] * came)
            due = sum(at + one[2] <= t for at in jobs)
            want = min(one[5], -(-due // one[1]))
            asked.append((due, want, pool.limit(price, want, one[6])))
        given = slow_shares(quota, [limit for _, _, limit in asked], [one[4] for one in services])
        deeds = []
        for k, one in enumerate(services):
            price, came, is_break = entry[k]
            due, want, limit = asked[k]
            run = min(due, given[k] * one[1])
            left = waiting[k][run:]
            waiting[k] = [at for at in left if at + one[3] > t]
            held = [keep[1] for keep in keeps if keep[0] == one[0] and keep[2] <= t % keep[4] < keep[3]]
            need = max(given[k], pools[k].limit(price, max(held, default=0), one[6]))
            states, cost = pools[k].step(price, need)
            if is_break:
                pools[k].end_break()
            why = slow_reason(due, run, want, limit, given[k])
            deeds.append((price, came, is_break, due, want, limit, given[k], run, len(left) - len(waiting[k]), why, need,
                          states, cost))
        record.append(deeds)
    return record
