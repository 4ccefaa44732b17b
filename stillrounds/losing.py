"""Runs that show of a book that it can be too early."""

from stillrounds.onceplots import ONCE_ALIKE_PLOTS, ONCE_ANEW_PLOTS
from stillrounds.placing import placing
from stillrounds.rows import rows
from stillrounds.safety import falls
from stillrounds.slowplots import SLOW_ALIKE_PLOTS, SLOW_ANEW_PLOTS
from stillrounds.twotours import led_through


def slow_plot(number, kind, many, entries, machines):
    plots = SLOW_ALIKE_PLOTS if kind == "alike" else SLOW_ANEW_PLOTS
    plot = plots[number]
    return plot(kind, many, entries, machines)


def once_plot(number, kind, many, entries, machines):
    plots = ONCE_ALIKE_PLOTS if kind == "alike" else ONCE_ANEW_PLOTS
    plot = plots[number]
    return plot(many, entries, machines)


def awake_machine(entries, machines):
    """The machine that is visited working; None if there is none."""
    return machines[0] if entries and entries[0][0] else None


def run_by_row(world, many, number, machines):
    """A run of many machines that misleads each book that falls to this row at these machines."""
    roads, kind = world
    entries = rows(world)[number][1]
    plotted = slow_plot if roads == "slow" else once_plot
    tours, moves = plotted(number, kind, many, entries, machines)
    return led_through(roads, tours, moves, awake_machine(entries, machines))


def losing(book, world):
    """A run that misleads book; None if it is safe."""
    manners = book[1]
    numbers = falls(book, world)
    if not numbers:
        return None
    machines = placing(manners, rows(world)[numbers[0]])
    return run_by_row(world, len(manners), numbers[0], machines)
