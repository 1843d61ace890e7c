import itertools
import random
import re
import unittest

from by_definition import Case

from everypast.errors import BadLine
from everypast.notation import read_entry, read_journal, write_entry, write_journal

WORD = re.compile(r"[a-z][a-z0-9]{0,7}")
INTEGER = re.compile(r"0|-?[1-9][0-9]{0,8}")


def read_items(text, depth):
    """The items of a text without what stands around them, or None: by trying all places where the first item ends."""
    if text == "":
        return None
    for end in [place for place, sign in enumerate(text) if sign == " "] + [len(text)]:
        first = read_item(text[:end], depth)
        if first is not None:
            if end == len(text):
                return (first[0],)
            rest = read_items(text[end + 1:], depth)
            if rest is not None:
                return (first[0], *rest)
    return None


def read_item(text, depth):
    """A list of the item that is written so, or None."""
    if WORD.fullmatch(text):
        return [text]
    if INTEGER.fullmatch(text):
        return [int(text)]
    if text.startswith("(") and text.endswith(")") and depth < 6 and len(text) > 1:
        inner = () if text == "()" else read_items(text[1:-1], depth + 1)
        return None if inner is None else [inner]
    return None


def some_item(dice, depth):
    kind = dice.random()
    if kind < 0.3 and depth < 6:
        return tuple(some_item(dice, depth + 1) for _ in range(dice.randint(0, 3)))
    if kind < 0.6:
        return dice.choice([0, -1, 7, dice.randint(-99, 99), dice.randint(-999999999, 999999999), 999999999, -999999999])
    return dice.choice(["a", "take", "digs", "z9z9z9z9", "a0", "looks"])


def some_entry(dice):
    return tuple(some_item(dice, 0) for _ in range(dice.randint(1, 4)))


def nested(count):
    """An entry with so many brackets open at the same time."""
    item = ("a",)
    for _ in range(count):
        item = (item,)
    return item


PAIRS = (
    (("take", "digs", ("within", "pot", 3, 20)), "take digs (within pot 3 20)"),
    (("drop", "digs", 0), "drop digs 0"), (("look", "pot", -12), "look pot -12"), (("a",), "a"), ((0,), "0"),
    (((),), "()"), (((), ()), "() ()"), ((((),), "a", ((), (1,))), "(()) a (() (1))"),
    (("bond", ("a", -1), ("b", 2)), "bond (a -1) (b 2)"), ((999999999, -999999999), "999999999 -999999999"),
    (("a1234567",), "a1234567"), ((("rows", ("a", "b"), ((0, 1), (1, 0))),), "(rows (a b) ((0 1) (1 0)))"),
)
WRONG = (
    "", " ", "  ", " a", "a ", "a  b", "a b ", " a b", "(", ")", "(a", "a)", "(a b", "(a))", "((a)", ")(", "( a)", "(a )",
    "( )", "(a  b)", "a(b)", "(a)b", "(a)(b)", "()()", "a()", "()a", "00", "01", "-0", "-01", "-", "--1", "+1", "1-", "1a",
    "A", "aB", "a_b", "a-b", "a.b", "abcdefghi", "1234567890", "-1234567890", "0000000001", "1,2", "'a'", "\"a\"", "a\n",
    "\na", "a\nb", "\n", "1 .5", "1_0", "(01)", "(a -0)", "(a (b) )", "a # b", "-a", "a -", "(-)", "()) (", "!", "~",
    "a ()b", "(a) )", "( (a))", "a\tb", "0x1", "1e3",
)


class Entries(Case):
    def test_pairs(self):
        for entry, text in PAIRS:
            self.assertEqual(write_entry(entry), text)
            found = read_entry(text)
            self.assertEqual(found, entry)
            self.assertIs(type(found), tuple)

    def test_texts_that_are_no_written_forms(self):
        for text in WRONG:
            self.assertIsNone(read_items(text, 0))
            self.raises(BadLine, {"line": 1}, read_entry, text)

    def test_brackets_inside_brackets(self):
        for count in range(7):
            text = "(" * count + "a" + ")" * count
            self.assertEqual((write_entry(nested(count)), read_entry(text)), (text, nested(count)))
            text = "b " + text + " " + text
            self.assertEqual(read_entry(text), ("b", *nested(count), *nested(count)))
        self.assertEqual(read_entry("((((()))) (((((a))))))"), ((((((),),),), nested(5)[0]),))
        for text in ("(((((((a)))))))", "((((((()))))))", "a ((((((b ())))))) c", "(((((((", "((((((()", "(" * 4000):
            self.raises(BadLine, {"line": 1}, read_entry, text)
        self.assertEqual(read_entry("(((((a ())))))"), ((((((("a", ()),),),),),)))

    def test_numbers_of_nine_and_ten_digits(self):
        for text in ("999999999", "-999999999", "100000000", "-100000000"):
            self.assertEqual(read_entry(text), (int(text),))
            self.assertEqual(write_entry((int(text),)), text)
            self.raises(BadLine, {"line": 1}, read_entry, text + "0")
            self.raises(BadLine, {"line": 1}, read_entry, "a (" + text + "0)")

    def test_all_short_texts(self):
        accepted = 0
        for length in range(6):
            for signs in itertools.product("a10-() \n", repeat=length):
                text = "".join(signs)
                expected = read_items(text, 0)
                if expected is None:
                    with self.assertRaises(BadLine):
                        read_entry(text)
                else:
                    self.assertEqual(read_entry(text), expected)
                    self.assertEqual(write_entry(expected), text)
                    accepted += 1
        self.assertGreater(accepted, 300)

    def test_some_entries(self):
        dice = random.Random(800)
        for _ in range(500):
            entry = some_entry(dice)
            text = write_entry(entry)
            self.assertEqual(read_items(text, 0), entry)
            self.assertEqual(read_entry(text), entry)
            place = dice.randrange(len(text) + 1)
            changed = text[:place] + dice.choice("a0-() ") + text[place + dice.randint(0, 1):]
            expected = read_items(changed, 0)
            if expected is None:
                self.raises(BadLine, {"line": 1}, read_entry, changed)
            else:
                self.assertEqual(read_entry(changed), expected)

    def test_long_texts(self):
        entry = tuple(["word"] * 800)
        self.assertEqual(len(write_entry(entry)), 3999)
        self.assertEqual(read_entry(write_entry(entry)), entry)
        self.raises(BadLine, {"line": 1}, read_entry, write_entry(entry) + " ")


class Journals(Case):
    def test_pairs(self):
        entries = [entry for entry, _ in PAIRS]
        text = "\n".join(text for _, text in PAIRS)
        self.assertEqual((write_journal(entries), read_journal(text)), (text, entries))
        self.assertEqual(write_journal(tuple(entries)), text)
        self.assertIs(type(read_journal(text)), list)
        self.assertEqual((write_journal([("a",)]), read_journal("a")), ("a", [("a",)]))

    def test_the_empty_journal(self):
        self.assertEqual((write_journal([]), read_journal("")), ("", []))

    def test_some_journals(self):
        dice = random.Random(801)
        for _ in range(100):
            entries = [some_entry(dice) for _ in range(dice.randint(1, 6))]
            self.assertEqual(read_journal(write_journal(entries)), entries)

    def test_lines_that_are_wrong(self):
        for text, line in (
            ("\n", 1), ("a\n", 2), ("a\n\n", 2), ("\na", 1), ("a\n\nb", 2), ("a\nb\n", 3), ("a\n b", 2), ("a \nb", 1),
            ("a\nb\nc d  e\n(", 3), ("a\n(\n)", 2), ("a b\n(c d)\n(e\nf)", 3), (" ", 1), ("a\n ", 2), ("01\nA", 1),
            ("take digs (with a b)\ndrop digs -0", 2), ("\n\n\n", 1),
        ):
            self.raises(BadLine, {"line": line}, read_journal, text)
        for text in WRONG:
            if text and "\n" not in text:
                self.raises(BadLine, {"line": 1}, read_journal, text)
                self.raises(BadLine, {"line": 3}, read_journal, "a\n(b 1)\n" + text + "\n(")

    def test_what_is_passed_and_returned_can_be_changed(self):
        entries = [("a",), ("b", 1)]
        text = write_journal(entries)
        read_journal(text).clear()
        self.assertEqual((read_journal(text), entries), ([("a",), ("b", 1)], [("a",), ("b", 1)]))


if __name__ == "__main__":
    unittest.main()
