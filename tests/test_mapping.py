"""Records and mapping: points 30 and 31, and what of point 1 reaches them."""

import copy
import inspect
import random
import unittest

from homereads import mapping
from homereads.hits import hits
from homereads.index import Index
from homereads.mapping import map_reads, read_record, write_record
from homereads.paths import best_alignment, fits, joined_path, path_cost
from homereads.storing import read_index, write_index

from plain import lists_of_references, random_text
from plain_changes import drawn_reads, least_cost, plain_hits, plain_turned

COSTS = (4, 6, 1)


def named(texts):
    """Reads with names and marks."""
    return [(f"r{at}", text, [at % 41] * len(text)) for at, text in enumerate(texts)]


class MapReadsTest(unittest.TestCase):
    def check(self, index, reads, k, costs, **more):
        """The records, each one compared with the hits, the least cost and what its path fits."""
        before = copy.deepcopy((vars(index), reads))
        records = map_reads(index, reads, k, costs, **more)
        self.assertEqual((vars(index), reads), before)
        self.assertIs(type(records), list)
        self.assertEqual({type(record) for record in records} - {tuple}, set())
        self.assertEqual({len(record) for record in records} - {8}, set())
        expected = [(name, *hit) for name, text, _ in reads for hit in plain_hits(index.references, text, k)]
        self.assertEqual([(name, reference, strand, end, changes)
                          for name, reference, strand, _, end, changes, _, _ in records], expected)
        told = [text for _, text, _ in reads for _ in plain_hits(index.references, text, k)]
        for text, record in zip(told, records, strict=True):
            self.check_alignment(index, text, costs, record)
        return records

    def check_alignment(self, index, text, costs, record):
        _, reference, strand, begin, end, _, cost, cut_path = record
        self.assertEqual([type(part) for part in record], [str, int, int, int, int, int, int, str])
        read = plain_turned(text) if strand == 1 else text
        letters = index.references[reference][1]
        self.assertTrue(0 <= begin <= end)
        path = joined_path(cut_path)
        self.assertTrue(fits(read, letters[begin:end], path), record)
        self.assertEqual(path_cost(path, costs), cost, record)
        self.assertEqual(least_cost(read, letters, end, costs), cost, record)

    def test_no_reads(self):
        index = Index([("a", "ACGT")])
        for batch in (1, 100):
            self.assertEqual(map_reads(index, [], 2, COSTS, batch=batch), [])

    def test_without_hits(self):
        index = Index([("a", "ACGTACGT"), ("b", "CCNCC")])
        self.assertEqual(self.check(index, named(["TTTT", "CCCC", "NN", "AAAAA"]), 0, COSTS), [])

    def test_by_hand(self):
        index = Index([("a", "TTACGTT"), ("b", "GGG"), ("c", "AAC")])
        reads = [("two", "ACG", [1, 2, 3]), ("none", "CCCCC", [1] * 5), ("one", "GTT", [40, 0, 1]), ("N", "N", [0])]
        self.assertEqual(self.check(index, reads, 0, COSTS), [
            ("two", 0, 0, 2, 5, 0, 0, "3="), ("two", 0, 1, 3, 6, 0, 0, "3="),
            ("one", 0, 0, 4, 7, 0, 0, "3="), ("one", 2, 1, 0, 3, 0, 0, "3="),
        ])

    def test_changes_by_hand(self):
        index = Index([("a", "GGGGGGACCATCGGACCGGGGGG")])
        reads = [("x", "ACCATAGGACC", [5] * 11), ("d", "ACCATGGACC", [5] * 10), ("i", "ACCATACGGACC", [5] * 12)]
        records = self.check(index, reads, 1, (4, 2, 1))
        self.assertEqual([record for record in records if record[4] == 17], [
            ("x", 0, 0, 6, 17, 1, 4, "5=1X5="), ("d", 0, 0, 6, 17, 1, 3, "5=1D5="), ("i", 0, 0, 6, 17, 1, 3, "5=1I6=")])

    def test_strands_and_references(self):
        source = random.Random(91)
        text = random_text(source, 60)
        index = Index([("a", text), ("b", plain_turned(text)), ("c", text[10:50])])
        read = text[20:30] + text[31:41]
        records = self.check(index, named([read, plain_turned(read), "ACGT"]), 2, COSTS)
        self.assertEqual([record[:4] for record in records if record[5] == 1 and record[0] != "r2"], [
            ("r0", 0, 0, 20), ("r0", 1, 1, 19), ("r0", 2, 0, 10), ("r1", 0, 1, 20), ("r1", 1, 0, 19), ("r1", 2, 1, 10)])

    def test_equal_letters_and_different_names(self):
        index = Index([("a", "TTACGTT")])
        reads = [("x", "ACG", [1, 2, 3]), ("y", "GTT", [1, 1, 1]), ("z", "ACG", [3, 2, 1]), ("x", "ACG", [0, 0, 0])]
        for batch in (1, 2, 3, 100):
            records = self.check(index, reads, 1, COSTS, batch=batch)
            parts = {name: [record[1:] for record in records if record[0] == name] for name in "xz"}
            self.assertEqual(parts["x"], parts["z"] * 2)
            self.assertEqual(list(dict.fromkeys(record[0] for record in records)), ["x", "y", "z"])
            self.assertEqual(records[-1][0], "x")

    def test_drawn(self):
        source = random.Random(92)
        for references in lists_of_references().values():
            index = Index(references, sample=source.randint(1, 5))
            reads = named(source.sample(drawn_reads(source, references), 6))
            for k, costs in [(0, (4, 6, 1)), (1, (5, 100, 1)), (2, (1, 1, 1)), (2, (0, 0, 0))]:
                self.check(index, reads, k, costs)

    def test_as_many_changes_as_letters(self):
        index = Index([("a", "ACGTN"), ("b", "C")])
        records = self.check(index, named(["A", "CG", "N"]), 2, COSTS)
        self.assertEqual(len(records), 3 * 2 * (6 + 2))

    def test_batches(self):
        source = random.Random(93)
        text = random_text(source, 400)
        index = Index([("a", text), ("b", plain_turned(text[100:300]))])
        texts = [text[at:at + 16] for at in source.choices(range(380), k=230)]
        texts = [source.choice([each, plain_turned(each), each[:7] + "N" + each[8:]]) for each in texts]
        reads = named(texts)
        expected = map_reads(index, reads, 1, COSTS)
        self.assertEqual(list(dict.fromkeys(record[0] for record in expected)), [name for name, _, _ in reads])
        one_by_one = [record for read in reads for record in map_reads(index, [read], 1, COSTS)]
        self.assertEqual(expected, one_by_one)
        self.assertEqual([(record[1], record[2], record[4], record[5]) for record in expected],
                         [hit for _, letters, _ in reads for hit in hits(index, letters, 1)])
        for batch in (1, 2, 3, 99, 100, 101, 115, 229, 230, 231, 1000):
            self.assertEqual(map_reads(index, reads, 1, COSTS, batch=batch), expected)
        for many in (1, 2, 99, 100, 101, 200, 201):
            self.assertEqual(map_reads(index, reads[:many], 1, COSTS),
                             [record for record in expected if int(record[0][1:]) < many])

    def test_index_that_was_read_back(self):
        references = lists_of_references()["random"]
        index = Index(references, block=5, sample=3)
        reads = named(drawn_reads(random.Random(94), references))
        self.assertEqual(map_reads(read_index(write_index(index)), reads, 2, COSTS), map_reads(index, reads, 2, COSTS))

    def test_returned_lists_changed(self):
        index = Index([("a", "TTACGTT"), ("b", "GGG")])
        reads = named(["ACG", "GTT", "ACG"])
        expected = list(map_reads(index, reads, 1, COSTS))
        for _ in range(3):
            records = map_reads(index, reads, 1, COSTS)
            self.assertEqual(records, expected)
            records.reverse()
            records.pop()

    def test_longest_reads(self):
        source = random.Random(95)
        text = random_text(source, 5000)
        index = Index([("a", text)])
        read = text[1000:1500] + text[1503:2003]
        records = map_reads(index, named([read, plain_turned(read)]), 4, COSTS)
        self.assertEqual([(name, strand, begin, end, changes, cost) for name, _, strand, begin, end, changes, cost, _
                          in records if changes == 3], [("r0", 0, 1000, 2003, 3, 9), ("r1", 1, 1000, 2003, 3, 9)])

    def test_most_changes(self):
        """A read of 1000 letters with 50 changes has many hits side by side."""
        source = random.Random(97)
        text = random_text(source, 3000)
        index = Index([("a", text)])
        read = text[1000:1400] + "N" + text[1401:1700] + text[1705:2005]
        records = map_reads(index, named([read]), 50, COSTS)
        self.assertEqual([(record[4], record[5]) for record in records], [hit[2:] for hit in hits(index, read, 50)])
        self.assertEqual([record[3:] for record in records if record[4] == 2005],
                         [(1000, 2005, 6, 15, "400=1X299=5D300=")])
        self.assertGreater(len(records), 80)
        for _, _, _, begin, end, _, cost, cut_path in records:
            self.assertTrue(fits(read, text[begin:end], joined_path(cut_path)))
            self.assertEqual(path_cost(joined_path(cut_path), COSTS), cost)
            # The last letters before or behind the end can be left out, and so can those of the read.
            self.assertLessEqual(cost, 15 + (0 if end == 2005 else 6 + abs(end - 2005)))
        for record in records[::20]:
            self.assertEqual(best_alignment(read, text, record[4], COSTS)[2], record[6])


class RecordTest(unittest.TestCase):
    RECORDS = [
        (("read1", 0, 0, 2, 5, 0, 0, "3="), "read1\t0\t0\t2\t5\t0\t0\t3="),
        (("r", 12, 1, 99990, 100000, 50, 1234, "10=1X100D9="), "r\t12\t1\t99990\t100000\t50\t1234\t10=1X100D9="),
        # A name may look like a number.
        (("0", 0, 0, 0, 0, 0, 0, "1I"), "0\t0\t0\t0\t0\t0\t0\t1I"),
        (("007", 65534, 1, 0, 1, 1, 4, "1X"), "007\t65534\t1\t0\t1\t1\t4\t1X"),
        (("1234567890123456789012345678901234567890", 1, 0, 10, 1010, 7, 100, "1000="),
         "1234567890123456789012345678901234567890\t1\t0\t10\t1010\t7\t100\t1000="),
    ]

    def test_by_hand(self):
        for record, line in self.RECORDS:
            with self.subTest(line=line):
                self.assertEqual(write_record(record), line)
                read = read_record(line)
                self.assertEqual(read, record)
                self.assertIs(type(read), tuple)
                self.assertEqual([type(part) for part in read], [str, int, int, int, int, int, int, str])

    def test_of_mapped_reads(self):
        references = lists_of_references()["random"]
        records = map_reads(Index(references), named(drawn_reads(random.Random(96), references)), 2, COSTS)
        self.assertGreater(len(records), 50)
        for record in records:
            self.assertEqual(write_record(record), "\t".join(map(str, record)))
            self.assertEqual(read_record(write_record(record)), record)


class InterfaceTest(unittest.TestCase):
    def test_names_and_arguments(self):
        for function, arguments in [
            (map_reads, ["index", "reads", "k", "costs", "batch"]), (write_record, ["record"]), (read_record, ["line"]),
        ]:
            self.assertEqual(function.__module__, mapping.__name__)
            self.assertEqual(list(inspect.signature(function).parameters), arguments)
        batch = inspect.signature(map_reads).parameters["batch"]
        self.assertEqual((batch.kind, batch.default), (inspect.Parameter.KEYWORD_ONLY, 100))
        with self.assertRaises(TypeError):
            map_reads(Index([("a", "A")]), [], 0, COSTS, 100)


if __name__ == "__main__":
    unittest.main()
