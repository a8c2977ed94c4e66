"""Papers: points 28 and 29, and what of point 1 reaches them."""

import copy
import inspect
import random
import unittest

from homereads import papers
from homereads.papers import paper, shown
from homereads.paths import best_alignment

from plain import random_text
from plain_changes import COSTS, drawn_case, least_cost
from plain_papers import P, Q, R, bounds, broken, cells, conditions, copied, lowered, number, plain_shown

KINDS = ["P0", "PP", "PQ", "PR", "QP", "QR", "QQ", "RP", "RQ", "RR"]
CASES = [
    ("ACG", "TACTG", 5, (4, 6, 1)), ("ACG", "TACTG", 4, (4, 6, 1)), ("ANC", "ANCA", 4, (2, 0, 3)),
    ("AC", "CCA", 3, (0, 0, 0)), ("ACGT", "AC", 2, (1, 5, 0)), ("A", "A", 1, (3, 2, 1)), ("AA", "AAA", 3, (1, 100, 2)),
    ("AC", "GT", 2, (100, 1, 100)), ("AC", "ACG", 0, (4, 6, 1)), ("A", "", 0, (4, 6, 1)),
    ("ACCT", "ACGCT", 5, (5, 1, 1)),
]


class PaperTest(unittest.TestCase):
    def check(self, read, text, end, costs, least):
        found = paper(read, text, end, costs)
        told = (read, text, end, costs)
        self.assertIs(type(found), tuple)
        self.assertEqual(len(found), 3)
        for table in found:
            self.assertEqual((type(table), len(table)), (list, len(read) + 1), told)
            for row in table:
                self.assertEqual((type(row), len(row)), (list, end + 1), told)
                self.assertEqual({type(each) for each in row}, {int}, told)
        self.assertEqual(broken(found, read, text, end, costs), [], told)
        self.assertEqual(plain_shown(found, read, text, end, costs), least, told)
        self.assertEqual(shown(read, text, end, costs, found), least, told)

    def test_each_case(self):
        for read, text, end, costs in CASES:
            self.check(read, text, end, costs, least_cost(read, text, end, costs))

    def test_drawn(self):
        source = random.Random(81)
        for at in range(500):
            read, text, end = drawn_case(source, source.choice([4, 8, 16]))
            costs = COSTS[at % len(COSTS)]
            self.check(read, text, end, costs, least_cost(read, text, end, costs))

    def test_drawn_costs(self):
        source = random.Random(82)
        for _ in range(300):
            read, text, end = drawn_case(source, 10)
            costs = tuple(source.choice([0, 1, 2, 5, 20, 99, 100]) for _ in range(3))
            self.check(read, text, end, costs, least_cost(read, text, end, costs))

    def test_each_end(self):
        for costs in COSTS:
            for end in range(9):
                self.check("ACNGA", "TACAGAAC", end, costs, least_cost("ACNGA", "TACAGAAC", end, costs))

    def test_shows_that_an_alignment_is_best(self):
        source = random.Random(83)
        text = random_text(source, 400, "ACGT" * 20 + "N")
        read = text[100:130] + text[136:170] + "GATTACA" + text[170:200]
        for costs in [(4, 6, 1), (1, 100, 1), (100, 1, 100), (2, 3, 0), (0, 5, 5), (100, 0, 1)]:
            for end in (200, 197, 350):
                self.check(read, text, end, costs, best_alignment(read, text, end, costs)[2])

    def test_longer_text(self):
        source = random.Random(84)
        text = random_text(source, 20000)
        read = text[19000:19030] + text[19033:19060]
        found = paper(read, text, 19060, (4, 6, 1))
        self.assertEqual({len(row) for table in found for row in table}, {19061})
        self.assertEqual(shown(read, text, 19060, (4, 6, 1), found), 9)

    def test_returned_lists_changed(self):
        read, text, end, costs = CASES[0]
        expected = copied(paper(read, text, end, costs))
        for table, i, j in cells(read, end):
            found = paper(read, text, end, costs)
            self.assertEqual(found, expected)
            found[table][i][j] += 1
            self.assertEqual([cell for cell in cells(read, end) if number(found, cell) != number(expected, cell)],
                             [(table, i, j)])
        for table in paper(read, text, end, costs):
            table.clear()
        self.assertEqual(paper(read, text, end, costs), expected)


class ShownTest(unittest.TestCase):
    def check(self, told, found, expected):
        read, text, end, costs = told
        before = copy.deepcopy(found)
        for _ in range(2):
            self.assertEqual(shown(read, text, end, costs, found), expected, (told, found))
        self.assertEqual(found, before)
        self.assertIs(type(found), tuple)

    def test_by_hand(self):
        costs = (4, 6, 1)
        # The read A at the end 1 of A: both cells that count are in the row 1 at the position 1.
        tables = ([[0, 0], [9, 0]], [[9, 9], [7, 7]], [[9, 7], [9, 14]])
        self.check(("A", "A", 1, costs), tables, 0)
        self.check(("A", "C", 1, costs), ([[0, 0], [9, 4]], [[9, 9], [7, 7]], [[9, 7], [9, 14]]), 4)
        self.check(("A", "C", 1, costs), ([[0, 0], [9, 5]], [[9, 9], [7, 7]], [[9, 7], [9, 14]]), None)
        self.check(("N", "N", 1, costs), ([[0, 0], [9, 4]], [[9, 9], [7, 7]], [[9, 7], [9, 14]]), 4)
        self.check(("A", "A", 1, costs), ([[0, 0], [9, 1]], [[9, 9], [7, 7]], [[9, 7], [9, 14]]), None)
        self.check(("A", "A", 1, costs), ([[0, 1], [9, 0]], [[9, 9], [7, 7]], [[9, 7], [9, 14]]), None)
        # At the end 0, only Q tells something.
        self.check(("AC", "ACG", 0, costs), ([[0], [-5], [-9]], [[-3], [7], [8]], [[-9], [-8], [-7]]), 8)
        self.check(("AC", "ACG", 0, costs), ([[0], [5], [9]], [[3], [7], [9]], [[9], [8], [7]]), None)
        self.check(("AC", "ACG", 0, costs), ([[0], [5], [9]], [[3], [8], [8]], [[9], [8], [7]]), None)
        self.check(("AC", "ACG", 0, costs), ([[-1], [5], [9]], [[3], [6], [7]], [[9], [8], [7]]), 7)
        self.check(("AC", "ACG", 0, costs), ([[-1], [5], [9]], [[3], [7], [7]], [[9], [8], [7]]), None)

    def test_a_single_condition_broken(self):
        """Each condition broken by 1 at each of its cells, the first and the last one among them, and no other one."""
        kinds = set()
        for told in CASES:
            read, text, end, costs = told
            usual = paper(*told)
            for kind, left, right, more in conditions(*told):
                if right is None:
                    found = copied(usual)
                else:
                    # The cell at the right is so low that nothing else bounds the left one.
                    found = lowered(usual, right, -5000, *told)
                table, i, j = left
                found[table][i][j] = more + (0 if right is None else -5000)
                self.check(told, found, plain_shown(found, *told))
                self.assertIsNotNone(plain_shown(found, *told))
                found[table][i][j] += 1
                self.assertEqual(broken(found, *told), [(kind, left, 1)])
                self.check(told, found, None)
                kinds.add(kind)
        self.assertEqual(kinds, set(KINDS))

    def test_cells_that_bound_nothing(self):
        for told in CASES:
            read, _, end, _ = told
            for usual in (paper(*told), lowered(paper(*told), (P, 0, 0), -20, *told)):
                expected = plain_shown(usual, *told)
                nothing = [cell for cell in cells(read, end) if not bounds(*cell)]
                self.assertEqual(len(nothing), end + 1 + len(read) + len(read) + 1)
                for value in (-10 ** 9, -1, 0, 1, 50, 10 ** 9):
                    every = copied(usual)
                    for table, i, j in nothing:
                        found = copied(usual)
                        found[table][i][j] = every[table][i][j] = value
                        self.check(told, found, expected)
                    self.check(told, every, expected)

    def test_lesser_cells(self):
        for told in CASES:
            read, _, end, _ = told
            usual = paper(*told)
            least = plain_shown(usual, *told)
            for less in (1, 7, 10 ** 6):
                found = tuple([[each - less for each in row] for row in table] for table in usual)
                self.check(told, found, least - less)
            for cell in cells(read, end):
                found = lowered(usual, cell, number(usual, cell) - 3, *told)
                self.assertEqual(broken(found, *told), [])
                self.check(told, found, plain_shown(found, *told))
            # One of the last cells alone.
            for table in (P, Q, R):
                found = copied(usual)
                found[table][len(read)][end] = least - 2
                self.check(told, found, least - 2 if bounds(table, len(read), end) else least)

    def test_drawn_changes(self):
        source = random.Random(85)
        seen = [0, 0]
        for at in range(2000):
            read, text, end = drawn_case(source, 6)
            told = (read, text, end, COSTS[at % len(COSTS)])
            found = copied(paper(*told))
            for _ in range(source.randint(1, 3)):
                table, i, j = source.choice(cells(read, end))
                found[table][i][j] += source.choice([1, 2, 60, -1, -2, -60])
            expected = plain_shown(found, *told)
            self.check(told, found, expected)
            seen[expected is None] += 1
        self.assertGreater(min(seen), 200)

    def test_sizes(self):
        for told in CASES:
            usual = paper(*told)
            for table in (P, Q, R):
                last = len(usual[table]) - 1
                for row in (0, last):
                    for change in ("row too few", "row too many", "too short", "too long", "empty"):
                        found = copied(usual)
                        if change == "row too few":
                            del found[table][row]
                        elif change == "row too many":
                            found[table].insert(row, list(found[table][row]))
                        elif change == "too short":
                            del found[table][row][-1]
                        elif change == "too long":
                            found[table][row].append(found[table][row][-1])
                        else:
                            found[table][row].clear()
                        self.check(told, found, None)
                found = copied(usual)
                found[table].clear()
                self.check(told, found, None)
                found = copied(usual)
                found[table].append(list(found[table][-1]))
                self.check(told, found, None)

    def test_sizes_of_all_tables(self):
        """Papers that hold, but for another read or another end."""
        for read, text, end, costs in CASES:
            self.check((read, text, end, costs), paper(read + "A", text, end, costs), None)
            if len(read) > 1:
                self.check((read, text, end, costs), paper(read[1:], text, end, costs), None)
            self.check((read, text, end, costs), paper(read, text + "A", end + 1, costs), None)
            if end > 0:
                self.check((read, text, end, costs), paper(read, text, end - 1, costs), None)


class InterfaceTest(unittest.TestCase):
    def test_names_and_arguments(self):
        arguments = ["read", "text", "end", "costs"]
        for function, names in [(paper, arguments), (shown, [*arguments, "paper"])]:
            self.assertEqual(function.__module__, papers.__name__)
            self.assertEqual(list(inspect.signature(function).parameters), names)


if __name__ == "__main__":
    unittest.main()
