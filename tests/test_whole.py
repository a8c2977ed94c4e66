"""The whole program: references and reads from lines, an index, its written form, mapping, pairs, piles and mending."""

import random
import unittest

from homereads.hits import hits, homes
from homereads.index import Index
from homereads.letters import turned
from homereads.mapping import map_reads, read_record, write_record
from homereads.packing import pack, unpack
from homereads.pairs import best_pairs
from homereads.papers import paper, shown
from homereads.piles import Pile
from homereads.records import read_reads, read_references, write_reads, write_references
from homereads.storing import read_index, write_index

from plain import random_text

COSTS = (4, 6, 1)


def with_others(text, positions, source):
    """A text with another letter at each of these positions."""
    letters = list(text)
    for at in positions:
        letters[at] = source.choice([letter for letter in "ACGTN" if letter != letters[at]])
    return "".join(letters)


class WholeTest(unittest.TestCase):
    def test_small(self):
        references = read_references([">one", "GGGGGACCATTGTC", "GAACTTCAGG", ">two", "TTTTT"])
        reads = read_reads([
            "@a", "ACCATTCTCGAAC", "IIIIIIIIIIIII", "@b", "TGAAGTTCGAGA", "IIIIIIIIIIII", "@c", "NNNN", "0000"])
        index = read_index(write_index(Index(references, block=5, sample=3)))
        self.assertEqual(index.references, [("one", "GGGGGACCATTGTCGAACTTCAGG"), ("two", "TTTTT")])
        records = map_reads(index, reads, 1, COSTS)
        self.assertEqual([write_record(record) for record in records], [
            "a\t0\t0\t5\t18\t1\t4\t6=1X6=", "b\t0\t1\t10\t22\t1\t4\t1=1X10="])
        self.assertEqual(best_pairs(index, reads[0][1], reads[1][1], 1, 17, 17), [((0, 0, 18, 1), (0, 1, 22, 1))])
        pile = Pile(references[0][1])
        for record, read in zip(records, reads):
            pile.add(record, read)
        self.assertEqual((pile.sums(11), pile.told(11)), ((0, 36, 0, 0, 0, 0, 0), "C"))
        self.assertEqual(pile.differences(), [(11, "G", "C")])
        self.assertEqual(pile.mended(), "GGGGGACCATTCTCGAACTTCAGG")

    def test_reads_mend_their_references(self):
        source = random.Random(121)
        texts = [random_text(source, 700), random_text(source, 61), random_text(source, 400)]
        wrong = [with_others(text, range(13, len(text), 37), source) for text in texts]
        references = read_references(write_references([(f"ref{at}", text) for at, text in enumerate(wrong)]))
        self.assertEqual([text for _, text in references], wrong)
        made = []
        for number, text in enumerate(texts):
            for begin in range(0, len(text) - 39, 3):
                read = text[begin:begin + 40]
                marks = [40] * 40
                at = source.randrange(40)
                read = read[:at] + source.choice("ACGTN") + read[at + 1:]
                marks[at] = source.randint(0, 5)
                if source.randrange(2):
                    read, marks = turned(read), marks[::-1]
                made.append((f"read{number}at{begin}", read, marks))
        reads = read_reads(write_reads(made))
        self.assertEqual(reads, made)
        data = write_index(Index(references, sample=7))
        index = read_index(data)
        self.assertEqual(write_index(index), data)
        records = [read_record(write_record(record)) for record in map_reads(index, reads, 4, COSTS, batch=50)]
        self.check_records(index, reads, records)
        piles = [Pile(text) for _, text in references]
        for read in reads:
            found = homes(hits(index, read[1], 4))
            self.assertEqual(len(found), 1)
            for record in records:
                if record[0] == read[0] and (record[1], record[2], record[4], record[5]) in found:
                    self.assertTrue(record[0].startswith(f"read{record[1]}at"))
                    self.assertIsNone(piles[record[1]].add(record, read))
        self.assertEqual([pile.mended() for pile in piles], texts)
        for pile, text, letters in zip(piles, texts, wrong):
            self.assertEqual(pile.differences(), [(at, letters[at], text[at]) for at in range(13, len(text), 37)])
            self.assertEqual(unpack(pack(pile.mended())), text)

    def check_records(self, index, reads, records):
        """The records are those of the hits, and papers show that their alignments are best."""
        texts = {name: text for name, text, _ in reads}
        self.assertEqual([(name, reference, strand, end, changes)
                          for name, reference, strand, _, end, changes, _, _ in records],
                         [(name, *hit) for name, text, _ in reads for hit in hits(index, text, 4)])
        for name, reference, strand, _, end, _, cost, _ in records[::20]:
            letters = turned(texts[name]) if strand == 1 else texts[name]
            text = index.references[reference][1]
            self.assertEqual(shown(letters, text, end, COSTS, paper(letters, text, end, COSTS)), cost)

    def test_pairs_find_the_right_one_of_equal_parts(self):
        source = random.Random(122)
        part = random_text(source, 50)
        text = random_text(source, 100) + part + random_text(source, 100) + part + random_text(source, 100)
        index = Index([("a", text), ("b", random_text(source, 200)), ("c", text[90:160])])
        first, second = part[5:30], turned(text[320:345])
        self.assertEqual(homes(hits(index, first, 2)), [(0, 0, 130, 0), (0, 0, 280, 0), (2, 0, 40, 0)])
        self.assertEqual(homes(hits(index, second, 2)), [(0, 1, 345, 0)])
        self.assertEqual(best_pairs(index, first, second, 2, 80, 100), [((0, 0, 280, 0), (0, 1, 345, 0))])
        self.assertEqual(best_pairs(index, second, first, 2, 80, 300), [
            ((0, 1, 345, 0), (0, 0, 130, 0)), ((0, 1, 345, 0), (0, 0, 280, 0))])


if __name__ == "__main__":
    unittest.main()
