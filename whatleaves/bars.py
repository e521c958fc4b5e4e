"""The least sets of acts without which an outcome is impossible."""

from whatleaves.families import own_acts
from whatleaves.levels import ByClass
from whatleaves.lists import demands
from whatleaves.tables import closed


def bars(program, acts, case, outcome):
    """The Demands of the least sets of these acts without which the outcome is impossible."""
    return demands(program, acts, case, outcome).dual()


def holds_bar(program, acts, case, outcome, bar, table):
    """Whether a table shows that the outcome is impossible for callbacks that do these acts but those of the bar."""
    own = own_acts(program, acts)
    if not bar.within(own) or case not in table or outcome in table[case]:
        return False
    return closed(program, ByClass(program.classes, own - bar), table)
