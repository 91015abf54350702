"""Runs that go on step by step: machines, and code."""

from backframes.errors import InvalidNumber
from backframes.plain import is_integer_in

MOST_ROWS = 2000


def steps_done(run, many):
    """Let a run do up to so many steps; returns how many were done."""
    if not is_integer_in(many, 0, MOST_ROWS):
        raise InvalidNumber(many)
    done = 0
    while done < many and run.step():
        done += 1
    return done
