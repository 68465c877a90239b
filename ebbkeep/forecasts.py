"""Following forecasts of gaps."""

from ebbkeep.tariffs import cost_in, idle_state


def forecast_cost(tariff, total, forecast):
    """Return what a gap with this total costs a lane that follows the forecast."""
    return cost_in(tariff, idle_state(tariff, forecast), total)
