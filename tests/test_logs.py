"""Points 19 and 20, and of point 1 what holds for their values: the heading strokes/logs.py."""

import itertools
import unittest

import strokes.logs
from strokes.errors import BadLine, BadLog, BadNumber, BadPicture, BadSite, NotDone
from strokes.logs import (
    clashes, hidden, is_log, is_told_whole, known, lacking, meet, parts_of_sites, picture_of, shown, write, write_run,
)
from strokes.runs import run
from tests.programs import (
    NO_PICTURES, NO_SIZES, NO_TICKS, Dice, assert_error, assert_text_errors, painted_plainly,
)

FUNCTIONS = (is_log, is_told_whole, picture_of, known, hidden, parts_of_sites, write, write_run, meet, shown, lacking,
             clashes)
# Those whose arguments are the sites, the rows, the columns, a log and more.
OF_LOGS = ((known, ()), (shown, ()), (hidden, ()), (clashes, ()), (is_told_whole, ()), (parts_of_sites, ()),
           (write, (0, 0)), (lacking, ((0, 0),)), (meet, ((),)))
MOST = 10 ** 6
BOTH = ((1, 0, 0, (0, 0)), (1, 1, 2, (0, 0)))
WHITE = ("..", "..")
NO_SITES = (0, 7, -1, True, False, None, "2", (2,), [2], {})
NO_SITE = (2, -1, 7, True, False, None, "0", (0,), [0], {})
NO_LINE = (4, -1, 40, True, False, None, "0", (0,), [0], {})
# Of two sites, two rows and two columns.
NO_LOGS = (
    None, 5, True, "0", [], {}, [(1, 0, 0, (0, 0))], (1, 0, 0, (0, 0)), ((),), (None,), ("1000",),
    ([1, 0, 0, (0, 0)],), ((1, 0, 0),), ((1, 0, 0, (0, 0), 0),), ((1, 0, 0, [0, 0]),), ((1, 0, 0, (0,)),),
    ((1, 0, 0, (0, 0, 0)),), ((1, 0, 0, ()),), ((1, 0, 0, None),), ((1, 0, 0, 0),), ((1, 0, 0, {0: 0, 1: 0}),),
    ((0, 0, 0, (0, 0)),), ((-1, 0, 0, (0, 0)),), ((MOST + 1, 0, 0, (0, 0)),), ((True, 0, 0, (0, 0)),),
    (("1", 0, 0, (0, 0)),), ((None, 0, 0, (0, 0)),), ((1, 2, 0, (0, 0)),), ((1, -1, 0, (0, 0)),),
    ((1, False, 0, (0, 0)),), ((1, "0", 0, (0, 0)),), ((1, 0, 4, (0, 0)),), ((1, 0, -1, (0, 0)),),
    ((1, 0, True, (0, 0)),), ((1, 0, None, (0, 0)),), ((1, 0, 0, (1, 0)),), ((1, 0, 0, (0, 1)),),
    ((5, 0, 0, (5, 0)),), ((5, 0, 0, (0, 6)),), ((5, 0, 0, (-1, 0)),), ((5, 0, 0, (0, False)),),
    ((5, 0, 0, (True, 0)),), ((5, 0, 0, (None, 0)),), ((5, 0, 0, ("0", 0)),), ((5, 0, 0, ((0,), 0)),),
    ((MOST, 0, 0, (MOST, 0)),), BOTH[::-1], BOTH[:1] * 2, (BOTH[0], (1, 0, 1, (0, 0))),
    ((2, 0, 0, (0, 0)), (1, 0, 0, (0, 0))), ((2, 0, 0, (0, 0)), (1, 1, 0, (0, 0))),
    BOTH + ((2, 0, 0, (0, 2)),), BOTH + (None,), (None,) + BOTH,
)


def made_log(dice, sites, rows, columns, most=12):
    """Return a log whose entries know anything that they may know."""
    entries = {}
    for _ in range(dice.below(most + 1)):
        count, site = 1 + dice.below(8), dice.below(sites)
        before = tuple(dice.below(count) for _ in range(sites))
        entries[count, site] = (count, site, dice.below(rows + columns), before)
    return tuple(entries[key] for key in sorted(entries))


def told_logs(dice, sites, rows, columns, rounds=12):
    """Return the logs that sites have which write lines and tell one another what they have."""
    logs = [()] * sites
    for _ in range(rounds):
        site = dice.below(sites)
        if dice.below(3):
            logs[site] = write(sites, rows, columns, logs[site], site, dice.below(rows + columns))
        else:
            logs[site] = meet(sites, rows, columns, logs[site], logs[dice.below(sites)])
    return logs


def lines_of(log):
    return [line for _, _, line, _ in log]


class LogsTest(unittest.TestCase):
    maxDiff = None

    def made(self, many, most=12):
        """Return the list of (sites, rows, columns, log) of many logs."""
        dice = Dice(17)
        found = []
        for _ in range(many):
            sites, rows, columns = 1 + dice.below(4), 1 + dice.below(3), 1 + dice.below(3)
            if dice.below(2):
                found.append((sites, rows, columns, made_log(dice, sites, rows, columns, most)))
            else:
                found.append((sites, rows, columns, told_logs(dice, sites, rows, columns, most)[0]))
        return found


class TheInterface(LogsTest):
    def test_the_functions_are_defined_in_the_file(self):
        for function in FUNCTIONS:
            self.assertEqual(function.__module__, "strokes.logs")
            self.assertIs(getattr(strokes.logs, function.__name__), function)

    def test_the_examples(self):
        self.assertEqual(write(2, 2, 2, (), 0, 0), ((1, 0, 0, (0, 0)),))
        self.assertEqual(meet(2, 2, 2, BOTH[:1], BOTH[1:]), BOTH)
        self.assertEqual(clashes(2, 2, 2, BOTH), [((1, 0), (1, 1))])
        self.assertEqual(picture_of(2, ("..", ".."), BOTH), (".#", ".."))
        self.assertEqual(known(2, 2, 2, BOTH), (1, 1))
        self.assertEqual(write(2, 2, 2, BOTH, 0, 1)[2], (2, 0, 1, (1, 1)))
        self.assertEqual(write_run(2, ("..", ".."), (), 1, "row 2 col 2", 9),
                         ((1, 1, 1, (0, 0)), (2, 1, 3, (0, 1))))
        self.assertEqual(shown(2, 2, 2, BOTH), BOTH)
        self.assertEqual(hidden(2, 2, 2, ((1, 1, 2, (0, 0)), (2, 0, 0, (0, 1)), (3, 0, 1, (2, 1)))), ((1, 1),))
        self.assertEqual(lacking(2, 2, 2, BOTH, (1, 0)), ((1, 1, 2, (0, 0)),))
        self.assertIs(is_log(2, 2, 2, BOTH[::-1]), False)
        self.assertIs(is_told_whole(2, 2, 2, BOTH), True)
        self.assertEqual(parts_of_sites(2, 2, 2, BOTH), ((1, 1), (1, 1)))

    def test_the_arguments_by_name(self):
        board = {"sites": 2, "rows": 2, "columns": 2}
        self.assertIs(is_log(**board, value=BOTH), True)
        for function in (known, hidden, shown, clashes, is_told_whole, parts_of_sites):
            function(**board, log=BOTH)
        self.assertEqual(picture_of(sites=2, start=WHITE, log=()), WHITE)
        self.assertEqual(len(write(**board, log=BOTH, site=0, line=0)), 3)
        self.assertEqual(len(write_run(sites=2, start=WHITE, log=BOTH, site=0, text="row 1", ticks=9)), 3)
        self.assertEqual(meet(**board, one=BOTH, other=()), BOTH)
        self.assertEqual(lacking(**board, log=BOTH, counts=(1, 1)), ())

    def test_lists_are_new(self):
        first = clashes(2, 2, 2, BOTH)
        first.append(7)
        self.assertEqual(clashes(2, 2, 2, BOTH), [((1, 0), (1, 1))])


class Errors(LogsTest):
    def test_numbers(self):
        for function, behind in OF_LOGS + ((is_log, ()),):
            for others in ((BOTH,) + behind, (None,) + behind, (BOTH,) + (None,) * len(behind)):
                for sites in NO_SITES:
                    assert_error(self, BadNumber, {}, function, sites, 2, 2, *others)
                for size in NO_SIZES:
                    assert_error(self, BadNumber, {}, function, 2, size, 2, *others)
                    assert_error(self, BadNumber, {}, function, 2, 2, size, *others)
        for sites in NO_SITES:
            for start, log in ((WHITE, BOTH), (None, BOTH), (WHITE, None)):
                assert_error(self, BadNumber, {}, picture_of, sites, start, log)
                assert_error(self, BadNumber, {}, write_run, sites, start, log, 0, "", 9)
                assert_error(self, BadNumber, {}, write_run, sites, start, log, None, None, None)

    def test_most_sites(self):
        for sites in range(1, 7):
            self.assertIs(is_log(sites, 20, 20, ()), True)
            self.assertEqual(known(sites, 20, 20, ()), (0,) * sites)
            self.assertEqual(write(sites, 1, 1, (), sites - 1, 0), ((1, sites - 1, 0, (0,) * sites),))

    def test_pictures(self):
        for start in NO_PICTURES:
            for log in (BOTH, (), None):
                assert_error(self, BadPicture, {}, picture_of, 2, start, log)
                assert_error(self, BadPicture, {}, write_run, 2, start, log, 0, "", 9)
                assert_error(self, BadPicture, {}, write_run, 2, start, log, None, None, None)

    def test_logs(self):
        for log in NO_LOGS:
            self.assertIs(is_log(2, 2, 2, log), False)
            for function, behind in OF_LOGS:
                assert_error(self, BadLog, {}, function, 2, 2, 2, log, *behind)
                assert_error(self, BadLog, {}, function, 2, 2, 2, log, *(None,) * len(behind))
            assert_error(self, BadLog, {}, meet, 2, 2, 2, (), log)
            assert_error(self, BadLog, {}, meet, 2, 2, 2, BOTH, log)
            assert_error(self, BadLog, {}, picture_of, 2, WHITE, log)
            assert_error(self, BadLog, {}, write_run, 2, WHITE, log, 0, "", 9)
            assert_error(self, BadLog, {}, write_run, 2, WHITE, log, None, None, None)
        # The board is that of the start.
        assert_error(self, BadLog, {}, picture_of, 2, (".",), BOTH)
        assert_error(self, BadLog, {}, write_run, 2, (".",), BOTH, 0, "", 9)
        self.assertEqual(picture_of(2, ("..",), BOTH), ("#.",))

    def test_sites(self):
        for site in NO_SITE:
            for line in (0, None):
                assert_error(self, BadSite, {}, write, 2, 2, 2, BOTH, site, line)
            for text, ticks in (("", 9), (None, 9), ("row 9", None), ("say x", 9)):
                assert_error(self, BadSite, {}, write_run, 2, WHITE, BOTH, site, text, ticks)
        assert_error(self, BadSite, {}, write, 1, 2, 2, (), 1, 0)

    def test_lines(self):
        for line in NO_LINE:
            assert_error(self, BadLine, {}, write, 2, 2, 2, BOTH, 0, line)
        assert_error(self, BadLine, {}, write, 2, 1, 2, (), 0, 3)
        write(2, 20, 20, (), 0, 39)

    def test_counts(self):
        for counts in (None, 5, True, "00", [0, 0], (), (0,), (0, 0, 0), (0, -1), (-1, 0), (0, MOST + 1), (0, True),
                       (False, 0), (0, None), (0, "0"), (0, (0,)), {}, {0: 0, 1: 0}):
            assert_error(self, BadSite, {}, lacking, 2, 2, 2, BOTH, counts)
        self.assertEqual(lacking(2, 2, 2, BOTH, (MOST, MOST)), ())

    def test_texts_and_ticks(self):
        for ticks in (9, None):
            assert_text_errors(self, write_run, (2, WHITE, BOTH, 0), (ticks,))
        for ticks in NO_TICKS:
            for text in ("", "row 9"):
                assert_error(self, BadNumber, {}, write_run, 2, WHITE, BOTH, 0, text, ticks)

    def test_other_ends(self):
        for text, end in (("row 1 row 9", "range"), ("while 1 { col 1 }", "limit"), ("row 1 row 1 / 0", "divide"),
                          ("def f() { do f() } do f()", "depth"), ("say 999999 * 999999", "number")):
            assert_error(self, NotDone, {"end": end}, write_run, 2, WHITE, BOTH, 0, text, 50)


class Logs(LogsTest):
    def test_logs(self):
        for log in ((), BOTH, BOTH[:1], BOTH[1:], ((MOST, 1, 3, (MOST - 1, MOST - 1)),), ((7, 0, 0, (6, 0)),),
                    ((1, 0, 0, (0, 0)), (2, 0, 0, (0, 0)), (2, 1, 0, (1, 1)), (9, 0, 3, (0, 8))),
                    ((1, 1, 0, (0, 0)), (2, 0, 0, (0, 0)))):
            self.assertIs(is_log(2, 2, 2, log), True)
            self.assertIs(is_log(2, 20, 20, log), True)
            for sites in (1, 3):
                self.assertIs(is_log(sites, 2, 2, log), log == ())
        self.assertIs(is_log(1, 1, 1, ((1, 0, 1, (0,)),)), True)
        self.assertIs(is_log(1, 1, 1, ((1, 0, 2, (0,)),)), False)

    def test_made_logs(self):
        for sites, rows, columns, log in self.made(200):
            self.assertIs(is_log(sites, rows, columns, log), True)

    def test_pictures(self):
        for sites, rows, columns, log in self.made(200):
            for start in (("." * columns,) * rows, ("#" * columns,) * rows):
                self.assertEqual(picture_of(sites, start, log), painted_plainly(start, lines_of(log)))
        self.assertEqual(picture_of(1, ("." * 20,) * 20, ((1, 0, 19, (0,)),)), ("." * 20,) * 19 + ("#" * 20,))

    def test_known(self):
        self.assertEqual(known(2, 2, 2, ()), (0, 0))
        self.assertEqual(known(3, 2, 2, ((5, 1, 0, (0, 0, 4)), (6, 0, 0, (3, 0, 2)))), (6, 5, 4))
        for sites, rows, columns, log in self.made(200):
            expected = []
            for site in range(sites):
                counts = [entry[0] for entry in log if entry[1] == site] + [entry[3][site] for entry in log]
                expected.append(max(counts, default=0))
            answer = known(sites, rows, columns, log)
            self.assertEqual(answer, tuple(expected))
            self.assertEqual([type(answer)] + [type(count) for count in answer], [tuple] + [int] * sites)


class Writing(LogsTest):
    def test_write(self):
        for sites, rows, columns, log in self.made(200):
            kept = tuple(tuple(entry) for entry in log)
            for site in range(sites):
                for line in (0, rows + columns - 1):
                    before = known(sites, rows, columns, log)
                    answer = write(sites, rows, columns, log, site, line)
                    self.assertEqual(answer, log + ((max(before) + 1, site, line, before),))
                    self.assertIs(is_log(sites, rows, columns, answer), True)
            self.assertEqual(log, kept)

    def test_the_greatest_count(self):
        log = ((MOST - 2, 0, 0, (0, 0)),)
        log = write(2, 2, 2, log, 1, 0)
        self.assertEqual(log[1], (MOST - 1, 1, 0, (MOST - 2, 0)))
        log = write(2, 2, 2, log, 0, 1)
        self.assertEqual(log[2], (MOST, 0, 1, (MOST - 2, MOST - 1)))
        self.assertIs(is_log(2, 2, 2, log), True)
        # It is no log any more.
        log = write(2, 2, 2, log, 1, 1)
        self.assertEqual(log[3], (MOST + 1, 1, 1, (MOST, MOST - 1)))
        self.assertIs(is_log(2, 2, 2, log), False)
        assert_error(self, BadLog, {}, write, 2, 2, 2, log, 1, 1)
        # What is known may be greater than the counts that there are.
        self.assertEqual(write(2, 2, 2, ((9, 0, 0, (3, 8)),), 1, 1)[1], (10, 1, 1, (9, 8)))

    def test_write_run(self):
        for text in ("", "stop", "row 1", "row 2 col 2", "col 1 row 1 stop row 2", "for i = 1 to rows { row i col 1 }",
                     "if black(1, 1) { col 1 } else { row 2 row 1 }", "say 5 while not black(1, 1) { row 1 }"):
            for sites, rows, columns, log in self.made(60):
                start = ("." * columns,) * rows
                picture, lines, said, end = run(text, picture_of(sites, start, log), 40)
                if end not in ("done", "stopped"):
                    assert_error(self, NotDone, {"end": end}, write_run, sites, start, log, 0, text, 40)
                    continue
                for site in range(sites):
                    expected = log
                    for line in lines:
                        expected = write(sites, rows, columns, expected, site, line)
                    answer = write_run(sites, start, log, site, text, 40)
                    self.assertEqual(answer, expected)
                    self.assertEqual(picture_of(sites, start, answer), picture)

    def test_a_run_beyond_the_greatest_count(self):
        log = ((MOST - 1, 0, 0, (0, 0)),)
        answer = write_run(2, WHITE, log, 1, "row 1 row 2 col 1", 9)
        self.assertEqual([entry[0] for entry in answer], [MOST - 1, MOST, MOST + 1, MOST + 2])
        self.assertIs(is_log(2, 2, 2, answer), False)


class Meeting(LogsTest):
    def test_shared_entries(self):
        log = BOTH + ((2, 0, 1, (1, 1)), (3, 1, 3, (2, 1)))
        for one in range(16):
            for other in range(16):
                parts = [tuple(entry for at, entry in enumerate(log) if some >> at & 1)
                         for some in (one, other, one | other)]
                self.assertEqual(meet(2, 2, 2, parts[0], parts[1]), parts[2])
        self.assertEqual(meet(2, 2, 2, log, log), log)
        self.assertEqual(meet(2, 2, 2, (), ()), ())

    def test_unlike_entries_of_one_count_and_site(self):
        for other in ((1, 0, 1, (0, 0)),), ((1, 0, 2, (0, 0)), (1, 1, 2, (0, 0))), BOTH[:1] + ((1, 1, 3, (0, 0)),):
            assert_error(self, BadLog, {}, meet, 2, 2, 2, BOTH, other)
            assert_error(self, BadLog, {}, meet, 2, 2, 2, other, BOTH)
        assert_error(self, BadLog, {}, meet, 2, 2, 2, ((5, 0, 0, (1, 0)),), ((5, 0, 0, (2, 0)),))
        self.assertEqual(meet(2, 2, 2, ((5, 0, 0, (1, 0)),), ((5, 1, 0, (2, 0)),)),
                         ((5, 0, 0, (1, 0)), (5, 1, 0, (2, 0))))

    def test_the_order_in_which_logs_meet_does_not_matter(self):
        dice = Dice(23)
        for _ in range(100):
            sites, rows, columns = 1 + dice.below(4), 1 + dice.below(3), 1 + dice.below(3)
            logs = told_logs(dice, sites, rows, columns, 20)
            board = (sites, rows, columns)
            found = set()
            for order in itertools.permutations(logs):
                log = ()
                for other in order:
                    log = meet(*board, log, other)
                    self.assertEqual(meet(*board, log, other), log)
                    self.assertEqual(meet(*board, other, log), log)
                found.add(log)
            self.assertEqual(len(found), 1)
            self.assertIs(is_log(*board, log), True)
            self.assertEqual(log, tuple(sorted(set(sum(logs, ())))))
            self.assertIs(is_told_whole(*board, log), True)

    def test_hidden_entries_left_out_or_not(self):
        dice = Dice(29)
        for _ in range(200):
            sites, rows, columns = 1 + dice.below(3), 1 + dice.below(3), 1 + dice.below(3)
            board = (sites, rows, columns)
            start = ("#." * columns)[:columns]
            start = (start,) * rows
            logs = told_logs(dice, *board, 24) + [()]
            for one in logs:
                for other in logs:
                    expected = picture_of(sites, start, meet(*board, one, other))
                    self.assertEqual(picture_of(sites, start, meet(*board, shown(*board, one), other)), expected)
                    self.assertEqual(picture_of(sites, start, meet(*board, shown(*board, one), shown(*board, other))),
                                     expected)


class Showing(LogsTest):
    def plainly_shown(self, rows, columns, log):
        """Return the entries that are the last of their lines and some crossing line of which is not painted later."""
        found = []
        for at, entry in enumerate(log):
            later = set(lines_of(log[at + 1:]))
            crossing = range(rows, rows + columns) if entry[2] < rows else range(rows)
            if entry[2] not in later and not set(crossing) <= later:
                found.append(entry)
        return tuple(found)

    def test_shown_and_hidden(self):
        for sites, rows, columns, log in self.made(300, most=16):
            board = (sites, rows, columns)
            expected = self.plainly_shown(rows, columns, log)
            answer = shown(*board, log)
            self.assertEqual(answer, expected)
            self.assertIs(is_log(*board, answer), True)
            others = hidden(*board, log)
            self.assertEqual(others, tuple(entry[:2] for entry in log if entry not in expected))
            self.assertEqual([type(answer), type(others)], [tuple, tuple])
            for start in (("." * columns,) * rows, ("#" * columns,) * rows):
                self.assertEqual(picture_of(sites, start, answer), picture_of(sites, start, log))
            self.assertEqual(shown(*board, answer), answer)
            self.assertEqual(hidden(*board, answer), ())

    def test_parts_of_sites(self):
        for sites, rows, columns, log in self.made(300, most=16):
            showing = self.plainly_shown(rows, columns, log)
            expected = tuple((sum(entry[1] == site for entry in log), sum(entry[1] == site for entry in showing))
                             for site in range(sites))
            self.assertEqual(parts_of_sites(sites, rows, columns, log), expected)
        self.assertEqual(parts_of_sites(3, 2, 2, BOTH[:0]), ((0, 0),) * 3)
        self.assertEqual(parts_of_sites(2, 2, 2, ((1, 1, 2, (0, 0)), (2, 0, 0, (0, 1)), (3, 0, 1, (2, 1)))),
                         ((2, 2), (1, 0)))


class Clashing(LogsTest):
    def test_clashes(self):
        found = 0
        for sites, rows, columns, log in self.made(300):
            expected = []
            for one, other in itertools.combinations(log, 2):
                crossing = (one[2] < rows) != (other[2] < rows)
                knew = one[3][other[1]] >= other[0] or other[3][one[1]] >= one[0]
                if crossing and not knew:
                    expected.append((one[:2], other[:2]))
            answer = clashes(sites, rows, columns, log)
            self.assertEqual(answer, sorted(expected))
            self.assertIs(type(answer), list)
            found += len(answer)
        self.assertGreater(found, 300)

    def test_what_is_known(self):
        self.assertEqual(clashes(2, 2, 2, ()), [])
        for before, expected in (((0, 0), True), ((4, 0), True), ((5, 0), False), ((6, 0), False), ((0, 6), True)):
            log = ((5, 0, 0, (0, 0)), (7, 1, 3, before))
            self.assertEqual(clashes(2, 2, 2, log), [((5, 0), (7, 1))] if expected else [])
        # Two rows and two columns do not cross.
        self.assertEqual(clashes(2, 2, 2, ((5, 0, 0, (0, 0)), (7, 1, 1, (0, 0)))), [])
        self.assertEqual(clashes(2, 2, 2, ((5, 0, 2, (0, 0)), (7, 1, 3, (0, 0)))), [])
        # A site may not know an entry of its own.
        self.assertEqual(clashes(1, 2, 2, ((5, 0, 0, (0,)), (7, 0, 2, (4,)))), [((5, 0), (7, 0))])

    def test_in_order(self):
        log = ((1, 0, 0, (0, 0, 0)), (1, 1, 2, (0, 0, 0)), (1, 2, 1, (0, 0, 0)), (2, 0, 3, (0, 0, 0)))
        self.assertEqual(clashes(3, 2, 2, log),
                         [((1, 0), (1, 1)), ((1, 0), (2, 0)), ((1, 1), (1, 2)), ((1, 2), (2, 0))])


class Telling(LogsTest):
    def test_lacking(self):
        for sites, rows, columns, log in self.made(100):
            board = (sites, rows, columns)
            for low in (0, 1, 2, 5, 9):
                for step in (0, 1, 3):
                    counts = tuple(low + step * site for site in range(sites))
                    expected = tuple(entry for entry in log if entry[0] > counts[entry[1]])
                    answer = lacking(*board, log, counts)
                    self.assertEqual(answer, expected)
                    self.assertIs(type(answer), tuple)
            self.assertEqual(lacking(*board, log, (0,) * sites), log)
            self.assertEqual(lacking(*board, log, (MOST,) * sites), ())

    def test_logs_that_tell_one_another_what_is_lacking(self):
        dice = Dice(37)
        for _ in range(60):
            board = (3, 2, 2)
            one, other = told_logs(dice, *board, 20)[:2]
            more = lacking(*board, other, known(*board, one))
            self.assertEqual(meet(*board, one, more), meet(*board, one, other))

    def test_told_whole(self):
        self.assertIs(is_told_whole(2, 2, 2, ()), True)
        self.assertIs(is_told_whole(2, 2, 2, BOTH), True)
        self.assertIs(is_told_whole(2, 2, 2, BOTH + ((2, 0, 1, (1, 1)),)), True)
        self.assertIs(is_told_whole(2, 2, 2, BOTH + ((3, 0, 1, (2, 1)),)), False)
        self.assertIs(is_told_whole(2, 2, 2, BOTH + ((3, 0, 1, (1, 2)),)), False)
        self.assertIs(is_told_whole(2, 2, 2, BOTH[1:] + ((2, 0, 1, (1, 1)),)), False)
        self.assertIs(is_told_whole(2, 2, 2, BOTH[:1] + ((2, 0, 1, (1, 1)),)), False)
        self.assertIs(is_told_whole(2, 2, 2, BOTH[:1] + ((2, 0, 1, (1, 0)),)), True)
        for sites, rows, columns, log in self.made(200):
            keys = {entry[:2] for entry in log}
            told = {(count, site) for entry in log for site, count in enumerate(entry[3]) if count}
            self.assertIs(is_told_whole(sites, rows, columns, log), told <= keys)


if __name__ == "__main__":
    unittest.main()
