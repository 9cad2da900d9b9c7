"""Snapshots of guests: taken, put back, cloned, and run on alone."""

from guestsalone.errors import NoLog
from guestsalone.house import Guest, check_house, check_snapshot
from guestsalone.plain import check_end, is_log, machine_of, run_by


def snapshot_of(house, name):
    """A guest of a house, as it would leave; it stays there."""
    check_house(house)
    return house.snapshot(name)


def put_back(house, name, guest):
    """A snapshot takes the place of the guest of this name."""
    check_house(house)
    house.replace(name, guest)


def cloned(house, guest, name, *, promise=1, ceiling=None):
    """A snapshot comes to a house by a name."""
    check_house(house)
    check_snapshot(guest)
    house.bring(name, guest, promise=promise, ceiling=ceiling)


def run_on(guest, log=(), *, end=100):
    """The guest that a snapshot is when it has gone on alone by the log."""
    check_snapshot(guest)
    if not is_log(log) or (len(log) > 0 and log[0][0] < guest.core().time()):
        raise NoLog(log)
    check_end(end)
    return gone_on(guest, log, end)


def gone_on(guest, log, end):
    """The guest that has gone on alone by a log to an end, however late that is."""
    machine = machine_of(guest.core(), guest.rooms(), guest.log(), guest.trail())
    run_by(machine, log, end)
    return Guest(machine.core(), machine.store().rooms(), machine.log(), machine.trail())
