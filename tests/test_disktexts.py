"""[17]: disks as lines, there and back."""

import random
import unittest

from plugproof.disk import Disk
from plugproof.disktexts import read_disk, write_disk
from plugproof.errors import BadImage
from plugproof.store import fresh_store

NINES = "9" * 4000


def stands(disk):
    return disk.settled, disk.loose


def disk_with(many, settled, loose=()):
    disk = Disk(many)
    for plate, value in settled:
        disk.write(plate, value)
    disk.barrier()
    for plate, value in loose:
        disk.write(plate, value)
    return disk


class WriteTest(unittest.TestCase):
    def there_and_back(self, disk, lines):
        before = stands(disk)
        self.assertEqual(write_disk(disk), lines)
        self.assertEqual(stands(disk), before)
        read = read_disk(lines)
        self.assertIsInstance(read, Disk)
        self.assertEqual(stands(read), before)
        read.write(0, (1,))
        read.barrier()
        self.assertEqual(read.now(0), (1,))

    def test_empty(self):
        self.there_and_back(Disk(1), ("disk 1",))
        self.there_and_back(Disk(1000), ("disk 1000",))

    def test_settled(self):
        disk = disk_with(5, [(3, (1, -2, 0)), (1, None), (4, (7,))])
        self.there_and_back(disk, ("disk 5", "plate 1 torn", "plate 3 1,-2,0", "plate 4 7"))

    def test_loose(self):
        loose = [(2, (1,)), (0, ()), (2, None), (1, (-5, 5)), (2, (1,))]
        lines = ("disk 3", "loose 2 1", "loose 0 empty", "loose 2 torn", "loose 1 -5,5", "loose 2 1")
        self.there_and_back(disk_with(3, [], loose), lines)

    def test_settled_and_loose(self):
        disk = disk_with(2, [(0, (1,)), (1, (2,))], [(1, ()), (0, (3, 4))])
        self.there_and_back(disk, ("disk 2", "plate 0 1", "plate 1 2", "loose 1 empty", "loose 0 3,4"))

    def test_great_numbers(self):
        disk = disk_with(1, [(0, (int(NINES), -int(NINES)))])
        self.there_and_back(disk, ("disk 1", f"plate 0 {NINES},-{NINES}"))

    def test_the_last_of_the_plates(self):
        self.there_and_back(disk_with(1000, [(999, (1,))], [(999, ())]), ("disk 1000", "plate 999 1", "loose 999 empty"))

    def test_disks_of_a_store(self):
        store = fresh_store(2, 3, {0: (0,) * 8, 1: (-1,) * 8})
        store.put({0: (3,) * 8, 1: (2,) * 8})
        store.push()
        expected = (
            "disk 7", "plate 0 0,0,0", "plate 5 0,0,0,0,0,0,0,0", "plate 6 -1,-1,-1,-1,-1,-1,-1,-1",
            "loose 2 0,0,2,0,3,3,3,3,3,3,3,3", "loose 3 0,1,2,1,2,2,2,2,2,2,2,2",
        )
        self.there_and_back(store.disk(), expected)
        self.there_and_back(store.disk().fallen({2: -1, 3: 1}), expected[:2] + (
            "plate 2 torn", "plate 3 0,1,2,1,2,2,2,2,2,2,2,2") + expected[2:4])

    def test_drawn_disks(self):
        draw = random.Random(17)
        values = (None, (), (0,), (-1, 1), (12, 345, -6789), tuple(range(8)))
        for _ in range(300):
            many = draw.randint(1, 6)
            settled = [(draw.randrange(many), draw.choice(values)) for _ in range(draw.randint(0, 5))]
            loose = [(draw.randrange(many), draw.choice(values)) for _ in range(draw.randint(0, 5))]
            disk = disk_with(many, settled, loose)
            lines = write_disk(disk)
            self.assertIsInstance(lines, tuple)
            self.assertEqual(stands(read_disk(lines)), stands(disk))
            self.assertEqual(write_disk(read_disk(lines)), lines)


class ReadTest(unittest.TestCase):
    def bad(self, lines, line, word):
        with self.assertRaises(BadImage) as caught:
            read_disk(lines)
        self.assertEqual((caught.exception.line, caught.exception.word), (line, word), lines)

    def test_first_lines(self):
        self.bad((), 0, 0)
        for text, word in (
            ("", 0), ("Disk 3", 0), ("disks 3", 0), ("shape 3", 0), ("plate 0 1", 0), (" disk 3", 0), ("disk\t3", 0),
            ("disk", 1), ("disk ", 1), ("disk  3", 1), ("disk 0", 1), ("disk 1001", 1), ("disk -1", 1), ("disk -0", 1),
            ("disk 03", 1), ("disk +3", 1), ("disk x", 1), ("disk 3,", 1), ("disk " + NINES, 1), ("disk 9" + NINES, 1), ("disk 9" + NINES * 2, 1),
            ("disk 3 ", 2), ("disk 3 4", 2), ("disk 3 4 5", 2), ("disk \u00b3", 1), ("disk 1_0", 1), ("disk 3\n", 1),
        ):
            self.bad((text,), 0, word)
            self.bad((text, "nonsense"), 0, word)

    def test_words_of_plates(self):
        for text, word in (
            ("", 0), ("plates 0 1", 0), ("disk 3", 0), (" plate 0 1", 0), ("Loose 0 1", 0),
            ("plate", 1), ("plate ", 1), ("plate  0 1", 1), ("plate 3 1", 1), ("plate -1 1", 1), ("plate -0 1", 1),
            ("plate 00 1", 1), ("plate x 1", 1), ("plate 9" + NINES + " 1", 1), ("plate torn", 1),
            ("plate 0", 2), ("plate 0 ", 2), ("plate 0  1", 2), ("plate 0 empty", 2), ("plate 0 Torn", 2),
            ("plate 0 ,", 2), ("plate 0 1,", 2), ("plate 0 ,1", 2), ("plate 0 1,,2", 2), ("plate 0 01", 2),
            ("plate 0 -0", 2), ("plate 0 +1", 2), ("plate 0 1,-0", 2), ("plate 0 1,007", 2), ("plate 0 -", 2),
            ("plate 0 --1", 2), ("plate 0 1.0", 2), ("plate 0 1,torn", 2), ("plate 0 empty,1", 2), ("plate 0 ()", 2),
            ("plate 0 1-", 2), ("plate 0 \u0663", 2), ("plate 0 00", 2), ("plate 0 1;2", 2),
            ("plate 0 1 ", 3), ("plate 0 1 2", 3), ("plate 0 torn torn", 3), ("plate 0 1, 2", 2),
        ):
            with self.subTest(text=text[:40]):
                self.bad(("disk 3", text), 1, word)
                self.bad(("disk 3", text, "loose 0 1", "nonsense"), 1, word)

    def test_words_of_loose_ones(self):
        for text, word in (
            ("loose", 1), ("loose 3 1", 1), ("loose -1 1", 1), ("loose 01 1", 1), ("loose 0", 2), ("loose 0 1,", 2),
            ("loose 0 none", 2), ("loose 0 -0", 2), ("loose 0 1 1", 3), ("loose 0 empty ", 3), ("loose 0 empty 1", 3),
        ):
            self.bad(("disk 3", "plate 2 1", text), 2, word)

    def test_plates_ascend(self):
        self.bad(("disk 9", "plate 4 1", "plate 4 1"), 2, 1)
        self.bad(("disk 9", "plate 0 1", "plate 0 1"), 2, 1)
        self.bad(("disk 9", "plate 4 1", "plate 3 1"), 2, 1)
        self.bad(("disk 9", "plate 0 1", "plate 8 1", "plate 7 1"), 3, 1)
        self.assertEqual(read_disk(("disk 9", "plate 4 1", "loose 4 2", "loose 3 2")).loose, ((4, (2,)), (3, (2,))))

    def test_plates_stand_ahead_of_loose_ones(self):
        self.bad(("disk 9", "loose 4 1", "plate 5 1"), 2, 0)
        self.bad(("disk 9", "plate 1 1", "loose 4 1", "loose 5 1", "plate 6"), 4, 0)

    def test_the_first_wrong_word_counts(self):
        self.bad(("disk 3", "plate 9 empty more"), 1, 1)
        self.bad(("disk 3", "plate 0 empty more"), 1, 2)
        self.bad(("disk 3", "plate 1 1", "plate 0 empty", "what"), 2, 1)
        self.bad(("disk 1001 4", ""), 0, 1)

    def test_figures(self):
        for text in (NINES, "-" + NINES, "1," + NINES):
            disk = read_disk(("disk 1", "plate 0 " + text))
            self.assertEqual(disk.settled, (tuple(int(word) for word in text.split(",")),))
        for text in ("9" + NINES, "-9" + NINES, NINES + ",9" + NINES, "0" + NINES[1:], "9" * 4301, "-" + NINES * 2, "1," + NINES * 2):
            self.bad(("disk 1", "plate 0 " + text), 1, 2)
            self.bad(("disk 1", "loose 0 " + text), 1, 2)


if __name__ == "__main__":
    unittest.main()
