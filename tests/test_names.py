import unittest

from everypast.names import valid_name


class Names(unittest.TestCase):
    def test_names(self):
        for text in ("a", "z", "pot", "a0", "z9", "abcdefgh", "a1234567", "zzzzzzzz"):
            self.assertIs(valid_name(text), True, text)

    def test_lengths_beyond_the_bounds(self):
        self.assertIs(valid_name(""), False)
        self.assertIs(valid_name("abcdefghi"), False)
        self.assertIs(valid_name("a" * 100), False)

    def test_each_sign_in_each_place(self):
        for code in list(range(32, 127)) + [10]:
            sign = chr(code)
            letter = sign in "abcdefghijklmnopqrstuvwxyz"
            self.assertIs(valid_name(sign), letter, repr(sign))
            self.assertIs(valid_name(sign + "a"), letter, repr(sign))
            self.assertIs(valid_name("a" + sign), letter or sign in "0123456789", repr(sign))
            self.assertIs(valid_name("ab" + sign + "c"), letter or sign in "0123456789", repr(sign))


if __name__ == "__main__":
    unittest.main()
