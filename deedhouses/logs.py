"""Logs: what came of deeds, and the houses that a log allows."""

from deedhouses.errors import InvalidLog, InvalidNumber, InvalidVague
from deedhouses.houses import all_ways, is_step
from deedhouses.ratios import NOUGHT, ONE, is_below, is_from_nought, ratio
from deedhouses.stretches import is_vague


def is_sketch(value):
    """Whether any value is a vague house whose stretches are all from 0 to 1."""
    if not is_vague(value):
        return False
    return all([low == NOUGHT and high == ONE for ways in all_ways(value) for _, low, high in ways])


def counts_of(sketch, log):
    """For each stand and deed how often it was done, and how often each of its told stands came."""
    check_sketch(sketch)
    check_log(sketch, log)
    return counted(sketch, log)


def counted(sketch, log):
    """The counts, where both arguments are known to be right."""
    rows = []
    for at, stand in enumerate(sketch[2]):
        rows.append(tuple([deed_counts(log, at, index, deed[0]) for index, deed in enumerate(stand)]))
    return tuple(rows)


def deed_counts(log, stand, deed, stretches):
    """How often one deed was done, and how often each of its told stands came."""
    came = [to for at, done, to in log if at == stand and done == deed]
    return len(came), tuple([came.count(to) for to, _, _ in stretches])


def reach(sketch, log, allowance):
    """The vague house that just those houses fit whose chances are so near to the log."""
    check_sketch(sketch)
    check_log(sketch, log)
    check_allowance(allowance)
    share, pays, stands = sketch
    made = []
    for stand, counts in zip(stands, counted(sketch, log)):
        deeds = [(reached(ways, count, allowance), gains) for (ways, gains), count in zip(stand, counts)]
        made.append(tuple(deeds))
    return share, pays, tuple(made)


def reached(stretches, count, allowance):
    """The stretches of one deed that the log allows; those of the sketch if it was never done."""
    done, came = count
    if done == 0:
        return stretches
    made = []
    for (stand, _, _), times_come in zip(stretches, came):
        top, bottom = times_come * allowance[1], done * allowance[1]
        low = ratio(top - allowance[0], bottom)
        high = ratio(top + allowance[0], bottom)
        made.append((stand, NOUGHT if is_below(low, NOUGHT) else low, ONE if is_below(ONE, high) else high))
    return tuple(made)


def check_sketch(sketch):
    """Raises InvalidVague for no sketch."""
    if not is_sketch(sketch):
        raise InvalidVague(sketch)


def check_log(sketch, log):
    """Raises InvalidLog for no tuple of up to 200 triples of the sketch."""
    if not isinstance(log, tuple) or len(log) > 200:
        raise InvalidLog(None)
    for at, each in enumerate(log):
        if not is_step(sketch, each):
            raise InvalidLog(at)


def check_allowance(allowance):
    """Raises InvalidNumber for no fraction from 0 on."""
    if not is_from_nought(allowance):
        raise InvalidNumber(allowance)
