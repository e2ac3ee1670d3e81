"""[61]: scripts, there and back, and what they answer."""

import random
import unittest

from drawn import Caller
from systems import path, watched

from plugproof.calls import SIZES, done
from plugproof.errors import BadScript
from plugproof.plain import Plain
from plugproof.readings import tree_of
from plugproof.scripts import answer_text, read_script, run_script, write_script
from plugproof.shape import Shape

# Calls of each word, and their lines.
LINES = (
    (("make", 0, ("a",)), "0 make /a"), (("create", 3, ("found", "a")), "3 create /found/a"), (("make", 0, ()), "0 make /"),
    (("link", 1, ("a", "b"), ("zzzz",)), "1 link /a/b /zzzz"), (("unlink", 0, ("found",)), "0 unlink /found"),
    (("remove", 2, ("a", "b", "c", "d")), "2 remove /a/b/c/d"), (("move", 0, ("a", "b"), ("found", "c")), "0 move /a/b /found/c"),
    (("copy", 0, (), ()), "0 copy / /"), (("list", 0, ()), "0 list /"), (("tell", 17, ("a",)), "17 tell /a"),
    (("give", 0, ("a",), 2), "0 give /a 2"), (("give", 0, ("a",), -2), "0 give /a -2"), (("limit", 0, 1, 200), "0 limit 1 200"),
    (("sync", 0), "0 sync"), (("open", 0, ("b",), "write"), "0 open /b write"), (("open", 0, ("b",), "read"), "0 open /b read"),
    (("open", 0, ("found", "b"), "append"), "0 open /found/b append"), (("shut", 0, 15), "0 shut 15"), (("read", 1, 0, 600), "1 read 0 600"),
    (("write", 0, 0, (5, -3, 0)), "0 write 0 5,-3,0"), (("write", 0, 0, ()), "0 write 0 -"), (("write", 0, 0, (7,)), "0 write 0 7"),
    (("write", 0, -4, (-7,)), "0 write -4 -7"), (("write", 0, 1, (0, 10, -100)), "0 write 1 0,10,-100"), (("seek", 0, 1, -1), "0 seek 1 -1"),
    (("cut", 0, 0, 9), "0 cut 0 9"), (("lock", 1, 2, "alone"), "1 lock 2 alone"), (("lock", 1, 2, "shared"), "1 lock 2 shared"),
    (("unlock", 1, 2), "1 unlock 2"), (("view", 0), "0 view"), (("view_list", 0, 0, ()), "0 view_list 0 /"),
    (("view_read", 0, 0, ("a",)), "0 view_read 0 /a"), (("view_tell", 0, 7, ("found", "a")), "0 view_tell 7 /found/a"),
    (("end_view", 0, 0), "0 end_view 0"),
)

NO_NUMBERS = ("-0", "01", "+1", "-01", "00", "1.0", "", "x", "1,2", "--1", "-", "1_0", " 1", "0x1", "/a", "one", "\t1", "\u0661")
NO_USERS = NO_NUMBERS + ("-1", "-5")
NO_WORDS = ("", "Make", "nix", "open_file", "list_dir", "0", "/a", "make,", "check_user", "\tmake")
NO_PATHS = ("", "a", "//", "//a", "/a/", "/a//b", "a/b", "/A", "/aaaaa", "/founds", "/a/found", "/found/found", "/found/", "/Found", "/a1",
            "/a,b", "/-", "-", "0", "/a\t", "/\u00e9", "/fount", "/a/aaaaa", "\\a")
NO_MODES = ("", "reads", "Read", "r", "rw", "alone", "0", "-")
NO_KINDS = ("", "Alone", "share", "read", "0", "-")
NO_ROWS = ("", ",", "1,", ",1", "1,,2", "-,1", "1,-", "01", "1,-0", "+1", "1,2,x", "--", "1, 2", "/a", "()", "1.0", "1;2")


class ThereAndBackTest(unittest.TestCase):
    def test_lines(self):
        self.assertEqual({call[0] for call, _ in LINES}, set(SIZES))
        for call, line in LINES:
            self.assertEqual(write_script((call,)), line)
            self.assertEqual(read_script(line), (call,))

    def test_texts(self):
        calls = tuple(call for call, _ in LINES)
        text = "\n".join(line for _, line in LINES)
        self.assertEqual(write_script(calls), text)
        self.assertEqual(write_script(list(calls)), text)
        self.assertEqual(read_script(text), calls)
        for _, line in LINES:
            self.assertEqual(len(read_script(line + "\n" + line)), 2)

    def test_the_empty_text(self):
        self.assertEqual((write_script(()), read_script("")), ("", ()))

    def test_rows_of_lists(self):
        self.assertEqual(write_script([["write", 0, 0, [1, 2]], ["make", 0, ["a", "b"]]]), "0 write 0 1,2\n0 make /a/b")

    def test_kinds_of_what_is_read(self):
        for call in read_script("0 write 0 5,7\n0 write 0 -\n0 move / /a/b"):
            self.assertIs(type(call), tuple)
            for thing in call[2:]:
                self.assertIn(type(thing), (tuple, int))

    def test_long_numbers_and_rows(self):
        numbers = tuple(range(-300, 300)) + (10 ** 800, -10 ** 800)
        self.assertEqual(read_script(write_script((("write", 0, 0, numbers),))), (("write", 0, 0, numbers),))

    def test_drawn_calls(self):
        draw = random.Random(61)
        shape = Shape(6, 9, 6, 40, 2)
        for _ in range(5):
            system = watched(shape)
            caller = Caller(draw, 2, odd=0)
            calls = []
            for _ in range(100):
                call = caller.call(system, tree_of(system.home(), shape))
                done(system, call)
                calls.append(tuple(tuple(thing) if isinstance(thing, list) else thing for thing in call))
            text = write_script(calls)
            self.assertEqual(read_script(text), tuple(calls))
            self.assertEqual(write_script(read_script(text)), text)


class BadScriptTest(unittest.TestCase):
    def bad(self, text, line, word):
        with self.assertRaises(BadScript) as caught:
            read_script(text)
        self.assertEqual((caught.exception.line, caught.exception.word), (line, word), text)

    def replaced(self, line, place, others):
        """Each of other words in the place of one word of a line."""
        words = line.split(" ")
        for other in others:
            if " " in other:
                continue
            self.bad(" ".join(words[:place] + [other] + words[place + 1:]), 0, place)
            self.bad("0 sync\n" + " ".join(words[:place] + [other] + words[place + 1:]) + "\n0 nix", 1, place)

    def test_users_and_words(self):
        for _, line in LINES:
            self.replaced(line, 0, NO_USERS)
            self.replaced(line, 1, NO_WORDS)

    def test_things_of_each_word(self):
        for line, others in (
            ("0 make /a", (NO_PATHS,)), ("0 create /a", (NO_PATHS,)), ("0 link /a /b", (NO_PATHS, NO_PATHS)), ("0 unlink /a", (NO_PATHS,)),
            ("0 remove /a", (NO_PATHS,)), ("0 move /a /b", (NO_PATHS, NO_PATHS)), ("0 copy /a /b", (NO_PATHS, NO_PATHS)),
            ("0 list /a", (NO_PATHS,)), ("0 tell /a", (NO_PATHS,)), ("0 give /a 1", (NO_PATHS, NO_NUMBERS)),
            ("0 limit 1 2", (NO_NUMBERS, NO_NUMBERS)), ("0 sync", ()), ("0 open /a read", (NO_PATHS, NO_MODES)), ("0 shut 0", (NO_NUMBERS,)),
            ("0 read 0 1", (NO_NUMBERS, NO_NUMBERS)), ("0 write 0 1,2", (NO_NUMBERS, NO_ROWS)), ("0 seek 0 1", (NO_NUMBERS, NO_NUMBERS)),
            ("0 cut 0 1", (NO_NUMBERS, NO_NUMBERS)), ("0 lock 0 alone", (NO_NUMBERS, NO_KINDS)), ("0 unlock 0", (NO_NUMBERS,)), ("0 view", ()),
            ("0 view_list 0 /a", (NO_NUMBERS, NO_PATHS)), ("0 view_read 0 /a", (NO_NUMBERS, NO_PATHS)),
            ("0 view_tell 0 /a", (NO_NUMBERS, NO_PATHS)), ("0 end_view 0", (NO_NUMBERS,)),
        ):
            self.assertEqual(len(read_script(line)), 1)
            for place, words in enumerate(others):
                self.replaced(line, 2 + place, words)

    def test_the_first_word_that_cannot_stand_there(self):
        self.bad("x nix y z", 0, 0)
        self.bad("0 nix y z", 0, 1)
        self.bad("0 move y z q", 0, 2)
        self.bad("0 move /y z q", 0, 3)
        self.bad("0 move /y /z q r", 0, 4)

    def test_lacking_words(self):
        for _, line in LINES:
            words = line.split(" ")
            for many in range(1, len(words)):
                self.bad(" ".join(words[:many]), 0, many)
                self.bad("0 sync\n0 view\n" + " ".join(words[:many]), 2, many)

    def test_words_too_many(self):
        for _, line in LINES:
            for more in ("x", "0", "/a", "", "- -"):
                self.bad(line + " " + more, 0, len(line.split(" ")))

    def test_blanks(self):
        for _, line in LINES:
            words = line.split(" ")
            for place in range(len(words)):
                self.bad(" ".join(words[:place] + [""] + words[place:]), 0, place)
            self.bad(line + " ", 0, len(words))
            self.bad(" " + line, 0, 0)

    def test_empty_lines(self):
        self.bad("\n", 0, 0)
        self.bad("0 sync\n", 1, 0)
        self.bad("\n0 sync", 0, 0)
        self.bad("0 sync\n\n0 sync", 1, 0)
        self.bad(" ", 0, 0)

    def test_other_ends_of_lines(self):
        for sign in ("\r", "\r\n", "\t", "\x0b", "\x0c", "\x1c", "\u2028"):
            with self.assertRaises(BadScript) as caught:
                read_script("0 sync" + sign + "0 sync")
            self.assertEqual((caught.exception.line, caught.exception.word), (0, 1))


class LongNumbersTest(unittest.TestCase):
    """No number of a script or of an answer has too many figures; what is told of one too long to show is told by whether."""

    def pairs(self):
        """Whole numbers, and how they are written."""
        for figures in (1, 63, 64, 65, 127, 128, 129, 639, 640, 641, 3999, 4000, 4001, 4299, 4300, 4301, 5000, 20000):
            yield 10 ** figures - 1, "9" * figures
            yield 1 - 10 ** figures, "-" + "9" * figures
            yield 10 ** figures, "1" + "0" * figures
            yield -7 * 10 ** figures - 8, "-7" + "0" * (figures - 1) + "8"
            yield 12 * (10 ** (2 * figures) - 1) // 99, "12" * figures

    def same(self, call, line):
        text = write_script((call,))
        calls = read_script(line)
        self.assertTrue(text == line, line[:50])
        self.assertTrue(calls == (call,), line[:50])
        self.assertTrue(all(type(thing) in (int, str, tuple) for thing in calls[0]))

    def test_each_place_of_a_number(self):
        for number, word in self.pairs():
            self.same(("write", 0, 0, (number,)), "0 write 0 " + word)
            self.same(("write", 0, 0, (5, number, -3, number, 0)), f"0 write 0 5,{word},-3,{word},0")
            self.same(("write", 1, number, ()), f"1 write {word} -")
            self.same(("limit", 0, number, number), f"0 limit {word} {word}")
            self.same(("give", 0, ("found", "a"), number), "0 give /found/a " + word)
            self.same(("cut", 2, number, 9), f"2 cut {word} 9")
            self.same(("view_read", 0, number, ("a",)), f"0 view_read {word} /a")
            if number > 0:
                self.same(("sync", number), word + " sync")

    def test_more_lines(self):
        number = 10 ** 4400
        calls = (("sync", number), ("write", 0, 0, (number, -number)), ("seek", 1, -number, 1))
        self.assertTrue(read_script(write_script(calls)) == calls)

    def test_long_words_that_are_no_numbers(self):
        for nines in ("9" * 64, "9" * 4000, "9" * 4001, "9" * 4301, "9" * 9000):
            words = ("0" + nines, "-0" + nines, "+" + nines, "--" + nines, nines + "x", "x" + nines, nines + "-", nines + "\u0661",
                     nines + "_" + nines, nines + ".0", nines + "\t", "0" * len(nines), "-" + "0" * len(nines), nines + "\u00b2")
            for word in words:
                self.bad("0 write 0 " + word, 3)
                self.bad(f"0 write 0 5,{word},{nines}", 3)
                self.bad(f"0 write {word} -", 2)
                self.bad(f"0 read 0 {word}", 3)
                self.bad(word + " sync", 0)
            self.bad("-" + nines + " sync", 0)
            self.bad(f"0 write 0 {nines},", 3)
            self.bad(f"0 write 0 {nines} {nines}", 4)

    def bad(self, text, word):
        with self.assertRaises(BadScript) as caught:
            read_script("0 view\n" + text)
        self.assertEqual((caught.exception.line, caught.exception.word), (1, word), text[:50])

    def test_answers(self):
        for number, word in self.pairs():
            self.assertTrue(answer_text(("ok", number)) == "ok " + word)
            self.assertTrue(answer_text(("ok", (number,))) == f"ok ({word})")
            self.assertTrue(answer_text(("ok", (None, (number, 0), "a", number))) == f"ok (- ({word} 0) a {word})")

    def test_run(self):
        word = "9" * 5000
        script = ("0 create /a", "0 open /a write", f"0 write 0 {word},7,-{word}0", "0 seek 0 0", "0 read 0 9", f"0 read 0 {word}",
                  f"0 read {word} 1", f"0 read 0 -{word}", f"0 cut 0 {word}", f"0 limit 0 {word}", f"{word} sync", "0 view", "0 view_read 0 /a")
        read = f"ok ({word} 7 -{word}0)"
        answers = ("ok -", "ok 0", "ok -", "ok -", read, "ok ()", "no handle", "no number", "no long", "no number", "no user", "ok 0", read)
        for system in (watched(Shape(6, 9, 6, 40, 2)), Plain(2, 40)):
            self.assertTrue(run_script(system, "\n".join(script)) == "\n".join(answers))


class AnswersTest(unittest.TestCase):
    def test_texts(self):
        for answer, text in (
            (("ok", None), "ok -"), (("ok", 0), "ok 0"), (("ok", -7), "ok -7"), (("ok", ()), "ok ()"), (("ok", (5,)), "ok (5)"),
            (("ok", (5, -7, 0)), "ok (5 -7 0)"), (("ok", ("dir", 3)), "ok (dir 3)"), (("ok", ("file", 1, 3, 2, 1)), "ok (file 1 3 2 1)"),
            (("ok", (("a", "dir"), ("b", "file"))), "ok ((a dir) (b file))"), (("ok", ((),)), "ok (())"), (("ok", (None, ())), "ok (- ())"),
            (("no", "loop"), "no loop"), (("no", "call"), "no call"),
        ):
            self.assertEqual(answer_text(answer), text)

    def systems(self):
        return watched(Shape(6, 9, 6, 40, 2)), Plain(2, 40)

    def test_run_script(self):
        script = ("0 make /a", "1 create /a/b", "1 open /a/b write", "1 write 0 5,7", "0 tell /a/b", "0 move /a /a/c", "1 seek 0 0",
                  "1 read 0 9", "0 list /", "0 list /found", "9 sync", "1 view", "1 view_list 0 /a", "0 view_read 0 /a/b", "1 view_read 0 /a/b",
                  "1 cut 0 601", "0 tell /", "1 shut 0", "1 shut 0")
        answers = ("ok -", "ok -", "ok 0", "ok -", "ok (file 1 3 2 1)", "no loop", "ok -", "ok (5 7)", "ok ((a dir))", "ok ()", "no user", "ok 0",
                   "ok ((b file))", "no view", "ok (5 7)", "no long", "ok (dir 1)", "ok -", "no handle")
        for system in self.systems():
            self.assertEqual(run_script(system, "\n".join(script)), "\n".join(answers))
        for system in self.systems():
            self.assertEqual(tuple(run_script(system, line) for line in script), answers)

    def test_the_empty_text(self):
        for system in self.systems():
            self.assertEqual(run_script(system, ""), "")
            self.assertEqual(system.list_dir(0, ()), ())

    def test_what_is_no_script(self):
        for system in self.systems():
            with self.assertRaises(BadScript) as caught:
                run_script(system, "0 make /a\n0 nix")
            self.assertEqual((caught.exception.line, caught.exception.word), (1, 1))


if __name__ == "__main__":
    unittest.main()
