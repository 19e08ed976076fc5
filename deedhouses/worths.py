"""What plans bring: worths and pays."""

from deedhouses.chains import chain_counts, chain_worths, counted_pays, minded_chain, minded_start
from deedhouses.chains import step_counts, still_chain
from deedhouses.houses import check_house, check_number, check_start
from deedhouses.plans import check_minded, check_still


def worths_of(house, still):
    """For each stand the row of the still plan's pays from there."""
    check_house(house)
    check_still(house, still)
    return tuple([tuple(row) for row in chain_worths(still_chain(house, still))])


def pays_of(house, start, still):
    """The still plan's pays from the start."""
    check_house(house)
    check_start(house, start)
    check_still(house, still)
    return pays_from(house, start, still)


def pays_from(house, start, still):
    """The still plan's pays, where all arguments are known to be right."""
    chain = still_chain(house, still)
    return counted_pays(chain, chain_counts(chain, start))


def steps_of(house, start, still, many):
    """The still plan's pays of the first so many steps alone."""
    check_house(house)
    check_start(house, start)
    check_still(house, still)
    check_number(many, 0, 60)
    chain = still_chain(house, still)
    return counted_pays(chain, step_counts(chain, start, many))


def minded_pays(house, start, minded):
    """The minded plan's pays from the start."""
    check_house(house)
    check_start(house, start)
    check_minded(house, minded)
    chain = minded_chain(house, minded)
    return counted_pays(chain, chain_counts(chain, minded_start(start, minded[0])))


def minded_steps(house, start, minded, many):
    """The minded plan's pays of the first so many steps alone."""
    check_house(house)
    check_start(house, start)
    check_minded(house, minded)
    check_number(many, 0, 60)
    chain = minded_chain(house, minded)
    return counted_pays(chain, step_counts(chain, minded_start(start, minded[0]), many))
