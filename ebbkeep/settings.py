"""Settings of services and of houses, and the texts in which houses are written."""

from ebbkeep.errors import InvalidSetting, Malformed
from ebbkeep.integers import read_number, read_numbers, write_numbers
from ebbkeep.tariffs import is_tariff

# Where the parts of the setting of a service stand in it; the rates and the wakes stand behind them.
NAME = 0
ROOM = 1
LAG = 2
PATIENCE = 3
WEIGHT = 4
MOST = 5
BUDGET = 6

MOST_BUDGET = 1000000

# In the line of a service these words stand at the even places, each before what it names.
LABELS = ("service", "room", "lag", "patience", "weight", "most", "budget", "rates")


def is_word(text):
    """Tell whether the string is a word."""
    return 1 <= len(text) <= 12 and all(["a" <= letter <= "z" for letter in text])


def is_service(setting):
    """Tell whether the tuple is the setting of a service."""
    name, room, lag, patience, weight, most, budget, rates, wakes = setting
    return (
        is_word(name)
        and 1 <= room <= 64
        and 0 <= lag <= patience <= 20
        and 1 <= weight <= 9
        and 0 <= most <= 40
        and 0 <= budget <= MOST_BUDGET
        and is_tariff((rates, wakes))
    )


def tariff_of(service):
    """Return the tariff in the setting of a service."""
    return service[BUDGET + 1:]


def is_quota(quota):
    """Tell whether the integer is a quota."""
    return 0 <= quota <= 200


def is_keep(keep, names):
    """Tell whether the tuple is a keep for one of the services with these names."""
    name, least, begin, end, period = keep
    return name in names and 1 <= least <= 40 and 0 <= begin < end <= period <= 100


def is_house_so_far(services, keeps):
    """Tell whether these are the services and keeps of a house, apart from services that may still come."""
    names = [service[0] for service in services]
    return (
        len(services) <= 6
        and len(keeps) <= 12
        and all([is_service(service) for service in services])
        and len(set(names)) == len(names)
        and all([is_keep(keep, names) for keep in keeps])
    )


def check_service(setting):
    """Raise InvalidSetting if the tuple is not the setting of a service."""
    if not is_service(setting):
        raise InvalidSetting()


def check_house(setting):
    """Raise InvalidSetting if the tuple is not the setting of a house."""
    quota, services, keeps = setting
    if not is_quota(quota) or len(services) == 0 or not is_house_so_far(services, keeps):
        raise InvalidSetting()


def write_service(setting):
    """Return the line of a service."""
    words = ["service", setting[0]]
    for label, number in zip(LABELS[1:7], setting[1:7]):
        words.extend([label, str(number)])
    words.append("rates")
    words.extend(write_numbers(setting[7]))
    words.append("wakes")
    words.extend(write_numbers(setting[8]))
    return " ".join(words)


def write_keep(keep):
    """Return the line of a keep."""
    name, least, begin, end, period = keep
    return f"keep {name} {least} from {begin} to {end} every {period}"


def write_house(setting):
    """Return the written form of the setting of a house."""
    quota, services, keeps = setting
    lines = [f"quota {quota}"]
    lines.extend([write_service(service) for service in services])
    lines.extend([write_keep(keep) for keep in keeps])
    return "\n".join(lines)


def read_quota(line):
    """Return the quota, or None if the line is not one of a quota."""
    words = line.split(" ")
    if len(words) != 2 or words[0] != "quota":
        return None
    quota = read_number(words[1])
    if quota is None or not is_quota(quota):
        return None
    return quota


def read_service(line):
    """Return the parts of a service, whatever their ranges, or None if the line has not their form."""
    words = line.split(" ")
    behind = words[15:]
    if tuple(words[0:15:2]) != LABELS or "wakes" not in behind:
        return None
    at = behind.index("wakes")
    numbers = read_numbers(words[3:14:2])
    rates = read_numbers(behind[:at])
    wakes = read_numbers(behind[at + 1:])
    if numbers is None or rates is None or wakes is None:
        return None
    return (words[1], *numbers, tuple(rates), tuple(wakes))


def read_keep(line):
    """Return the parts of a keep, whatever their ranges, or None if the line has not their form."""
    words = line.split(" ")
    if len(words) != 9 or words[0] != "keep" or words[3::2] != ["from", "to", "every"]:
        return None
    numbers = read_numbers(words[2::2])
    if numbers is None:
        return None
    return (words[1], *numbers)


def read_house(text):
    """Return the setting of a house; raise Malformed if the text is not the written form of one."""
    lines = text.split("\n")
    quota = read_quota(lines[0])
    if quota is None:
        raise Malformed(0)
    services = []
    keeps = []
    for at, line in enumerate(lines[1:], start=1):
        service = read_service(line)
        keep = read_keep(line)
        if service is not None and len(keeps) == 0:
            services.append(service)
        elif keep is not None:
            keeps.append(keep)
        else:
            raise Malformed(at)
        # Whatever stood before was right, so this line is the one that breaks a rule.
        if not is_house_so_far(services, keeps):
            raise Malformed(at)
    if len(services) == 0:
        raise Malformed(len(lines))
    return (quota, tuple(services), tuple(keeps))
