"""Logs of the lines that several sites paint on one board."""

from strokes.boards import check_board, check_picture, is_integer, is_line, with_lines
from strokes.effects import GOOD_ENDS, normal_form
from strokes.errors import BadLine, BadLog, BadNumber, BadSite, NotDone
from strokes.runs import run

MOST_SITES = 6
MOST_COUNT = 1000000


def is_log(sites, rows, columns, value):
    """Return whether any value is a log."""
    check_sites(sites)
    check_board(rows, columns)
    if not isinstance(value, tuple) or not all([is_entry(sites, rows, columns, entry) for entry in value]):
        return False
    keys = [entry[:2] for entry in value]
    return all([ahead < behind for ahead, behind in zip(keys, keys[1:])])


def picture_of(sites, start, log):
    """Return the picture that a log makes of a start."""
    check_sites(sites)
    check_picture(start)
    check_log(sites, len(start), len(start[0]), log)
    return with_lines(start, lines_of(log))


def known(sites, rows, columns, log):
    """Return the tuple, for each site, of the greatest count in a log or known to an entry of it."""
    check_log(sites, rows, columns, log)
    return known_counts(sites, log)


def write(sites, rows, columns, log, site, line):
    """Return a log with an entry of a site, which knows all that the log knows."""
    check_log(sites, rows, columns, log)
    check_site(sites, site)
    if not is_line(rows, columns, line):
        raise BadLine()
    return with_entry(sites, log, site, line)


def write_run(sites, start, log, site, text, ticks):
    """Return a log with an entry of a site for each line that a program paints on the picture of the log."""
    picture = picture_of(sites, start, log)
    check_site(sites, site)
    made, lines, said, end = run(text, picture, ticks)
    if end not in GOOD_ENDS:
        raise NotDone(end)
    for line in lines:
        log = with_entry(sites, log, site, line)
    return log


def meet(sites, rows, columns, one, other):
    """Return the log of all entries of two logs."""
    check_log(sites, rows, columns, one)
    check_log(sites, rows, columns, other)
    entries = {}
    for entry in one + other:
        key = entry[:2]
        if entries.get(key, entry) != entry:
            raise BadLog()
        entries[key] = entry
    return tuple([entries[key] for key in sorted(entries)])


def shown(sites, rows, columns, log):
    """Return the log of the entries that show."""
    check_log(sites, rows, columns, log)
    keys = keys_shown(rows, columns, log)
    return tuple([entry for entry in log if entry[:2] in keys])


def hidden(sites, rows, columns, log):
    """Return the tuple of the pairs (count, site) of the entries that do not show."""
    check_log(sites, rows, columns, log)
    keys = keys_shown(rows, columns, log)
    return tuple([entry[:2] for entry in log if entry[:2] not in keys])


def clashes(sites, rows, columns, log):
    """Return the list of the pairs of pairs (count, site) of entries of crossing lines neither of which knew the other.
    """
    check_log(sites, rows, columns, log)
    found = []
    for at, entry in enumerate(log):
        for later in log[at + 1:]:
            # The count of the later one is not less, so it is not known to the other one.
            if (entry[2] < rows) != (later[2] < rows) and not knows(later, entry):
                found.append((entry[:2], later[:2]))
    return found


def lacking(sites, rows, columns, log, counts):
    """Return the log of the entries beyond a tuple of counts, one for each site."""
    check_log(sites, rows, columns, log)
    if not is_counts(sites, counts):
        raise BadSite()
    return tuple([entry for entry in log if entry[0] > counts[entry[1]]])


def is_told_whole(sites, rows, columns, log):
    """Return whether a log holds an entry of each count and site that an entry of it knows."""
    check_log(sites, rows, columns, log)
    keys = {entry[:2]: True for entry in log}
    for entry in log:
        for site, count in enumerate(entry[3]):
            if count != 0 and (count, site) not in keys:
                return False
    return True


def parts_of_sites(sites, rows, columns, log):
    """Return the tuple, for each site, of the pair of the numbers of its entries and of those that show."""
    check_log(sites, rows, columns, log)
    written = [entry[1] for entry in log]
    showing = [site for count, site in keys_shown(rows, columns, log)]
    return tuple([(written.count(site), showing.count(site)) for site in range(sites)])


def check_sites(value):
    """Raise BadNumber if a value is no number of sites."""
    if not is_integer(value) or not 1 <= value <= MOST_SITES:
        raise BadNumber()


def check_log(sites, rows, columns, value):
    """Raise an error if a value is no log, or if there are no such sites or no such board."""
    if not is_log(sites, rows, columns, value):
        raise BadLog()


def check_site(sites, value):
    """Raise BadSite if a value is no site."""
    if not is_site(sites, value):
        raise BadSite()


def is_site(sites, value):
    """Return whether any value is a site."""
    return is_integer(value) and 0 <= value < sites


def is_entry(sites, rows, columns, value):
    """Return whether any value is an entry (count, site, line, known) of a log."""
    if not isinstance(value, tuple) or len(value) != 4:
        return False
    count, site, line, before = value
    if not is_integer(count) or not 1 <= count <= MOST_COUNT:
        return False
    if not is_site(sites, site) or not is_line(rows, columns, line) or not is_counts(sites, before):
        return False
    return all([number < count for number in before])


def is_counts(sites, value):
    """Return whether any value is a tuple of counts or 0, one for each site."""
    if not isinstance(value, tuple) or len(value) != sites:
        return False
    return all([is_integer(count) and 0 <= count <= MOST_COUNT for count in value])


def lines_of(log):
    """Return the list of the lines of a log."""
    return [entry[2] for entry in log]


def known_counts(sites, log):
    """Return the tuple, for each site, of the greatest count in entries or known to one of them."""
    greatest = [0] * sites
    for count, site, line, before in log:
        greatest[site] = max(greatest[site], count)
        greatest = [max(pair) for pair in zip(greatest, before)]
    return tuple(greatest)


def with_entry(sites, log, site, line):
    """Return a log with an entry behind all others that knows all that they know."""
    before = known_counts(sites, log)
    return log + ((max(before) + 1, site, line, before),)


def knows(entry, other):
    """Return whether an entry knows another one."""
    return entry[3][other[1]] >= other[0]


def keys_shown(rows, columns, log):
    """Return a dict of the pairs (count, site) of the entries that show."""
    showing = normal_form(rows, columns, lines_of(log))
    last = {entry[2]: entry[:2] for entry in log}
    return {last[line]: True for line in showing}
