"""Parts of records that can be put into themselves again and again, each time with a longer trail."""

from whatleaves.errors import NoRecord
from whatleaves.grammar import Sizes
from whatleaves.plays import play
from whatleaves.records import Record
from whatleaves.strands import has_front
from whatleaves.threads import threads_of
from whatleaves.walks import growing_walk, written_along


def grown(record, inner, outer):
    """The record in which row outer is put in for row inner."""
    rows = record.rows
    more = outer - inner
    copies = [_shifted(row, inner, more) for row in rows[inner + 1:outer + 1]]
    behind = [_shifted(row, outer, more) for row in rows[outer + 1:]]
    return Record.made(list(rows[:outer + 1]) + copies + behind)


def grows(program, record, inner, outer):
    """Whether row outer can be put in for row inner, so that the trail that leaves the last row grows."""
    if not 0 <= inner < outer < len(record):
        return False
    try:
        played = play(program, record)
    except NoRecord:
        return False
    if record.rows[inner][0] != record.rows[outer][0] or None in (played.lengths[outer], played.lengths[-1]):
        return False
    for told in (played.outcomes, played.opens):
        if told[inner] != told[outer]:
            return False
    return play(program, grown(record, inner, outer)).lengths[-1] > played.lengths[-1]


def growth(program, case):
    """None if the trails that leave a case have a greatest length, else (record, inner, outer) that grows."""
    threads = threads_of(program, case)
    sizes = Sizes(threads.grammar)
    entry = threads.entry(case)
    for finish in entry:
        if has_front(finish) and sizes.greatest[entry[finish][0]] is None:
            walk, again = growing_walk(threads, sizes, entry[finish][0])
            return written_along(threads.solver, walk, again)
    return None


def _shifted(row, first, more):
    """A row in which the rows from first on are called further down."""
    case, choices = row
    return (case, tuple([_shifted_choice(choice, first, more) for choice in choices]))


def _shifted_choice(choice, first, more):
    return (choice[0] + more,) if isinstance(choice, tuple) and choice[0] >= first else choice
