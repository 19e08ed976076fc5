"""The judge of claims and papers: it solves nothing but what a claim without a paper asks."""

from deedhouses.checkhouses import accepts_on_houses
from deedhouses.checkruns import accepts_on_runs
from deedhouses.checksights import accepts_on_sights
from deedhouses.checkvague import accepts_on_vague


def accepts(claim, paper):
    """Whether any values are a claim and a paper for it."""
    if not isinstance(claim, tuple) or len(claim) == 0 or not isinstance(claim[0], str):
        return False
    if accepts_on_houses(claim, paper) or accepts_on_vague(claim, paper):
        return True
    return accepts_on_sights(claim, paper) or accepts_on_runs(claim, paper)
