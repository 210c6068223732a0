"""Point 4: part."""

import unittest

from tests.helper import FAR, NOT_HELD, chain, forms_of_all, last, part, read, text_in

NO_PLACE = [-4]


class Part(unittest.TestCase):
    def at(self, text, place):
        return text_in(last(read(5, text), part(5, place)))

    def refused(self, text, place):
        self.assertEqual(last(read(5, text), part(5, place)), NO_PLACE, (text, place))

    def test_empty_place(self):
        for text in ("a", "~a", "!a", "a*b", "(a|b)&c"):
            self.assertEqual(self.at(text, []), text)

    def test_count_and_bytes(self):
        self.assertEqual(last(read(0, "a*(~b|c)"), part(0, [1])), [4, 126, 98, 124, 99])

    def test_of_two(self):
        for sign in "*|&+":
            self.assertEqual(self.at("b%sc" % sign, [0]), "b")
            self.assertEqual(self.at("b%sc" % sign, [1]), "c")
            self.refused("b%sc" % sign, [2])
            self.refused("b%sc" % sign, [-1])

    def test_of_one(self):
        for sign in "!?":
            self.assertEqual(self.at(sign + "b", [0]), "b")
            self.refused(sign + "b", [1])
            self.refused(sign + "b", [2])
            self.refused(sign + "b", [-1])

    def test_below_an_atom(self):
        for text in ("a", "~a"):
            for step in (0, 1, 2, -1):
                self.refused(text, [step])
        self.refused("a*b", [0, 0])
        self.refused("a*b", [1, 0])
        self.refused("a*b", [1, 1])
        self.refused("!a", [0, 0])

    def test_deeper(self):
        text = "(a*!(b|c))&(~d+?e)&f"
        places = {(0,): "a*!(b|c)", (0, 0): "a", (0, 1): "!(b|c)", (0, 1, 0): "b|c", (0, 1, 0, 0): "b",
                  (0, 1, 0, 1): "c", (1,): "(~d+?e)&f", (1, 0): "~d+?e", (1, 0, 0): "~d", (1, 0, 1): "?e",
                  (1, 0, 1, 0): "e", (1, 1): "f"}
        for place, expected in places.items():
            self.assertEqual(self.at(text, place), expected, place)
        self.refused(text, [0, 1, 1])
        self.refused(text, [1, 1, 0])
        self.refused(text, [0, 0, 0])

    def test_turned_signs_stand_in_the_formula_not_the_text(self):
        self.assertEqual(self.at("a*b -o c", [0]), "~a|~b")
        self.assertEqual(self.at("a*b -o c", [0, 1]), "~b")

    def test_other_numbers(self):
        for step in (2, 3, -1, -2, 10, 255, FAR, -FAR):
            self.refused("a*b", [step])
            self.refused("(a*b)*(c*d)", [0, step])
            self.refused("(a*b)*(c*d)", [1, step])
            self.refused("(a*b)*(c*d)", [step, 0])

    def test_long_lists(self):
        self.assertEqual(self.at(chain(40), [1] * 39), "a")
        self.assertEqual(self.at(chain(40), [1] * 38), "a*a")
        self.refused(chain(40), [1] * 40)
        self.refused(chain(40), [1] * 100)
        self.refused(chain(40), [0] * 100)
        self.assertEqual(self.at("!" * 39 + "b", [0] * 39), "b")
        self.assertEqual(self.at("!" * 39 + "b", [0] * 20), "!" * 19 + "b")
        self.refused("!" * 39 + "b", [0] * 38 + [1])
        self.refused("!" * 39 + "b", [0] * 100)

    def test_number_of_formula(self):
        for k in NOT_HELD:
            self.assertEqual(last(part(k, [])), [-2])
            self.assertEqual(last(part(k, [2])), [-2])
            self.assertEqual(last(part(k, [0] * 100)), [-2])

    def test_changes_nothing(self):
        self.assertEqual(forms_of_all(read(5, "b*c"), part(5, [0]), part(5, [7]), part(-5, [])),
                         ["a"] * 5 + ["b*c"] + ["a"] * 4)


if __name__ == "__main__":
    unittest.main()
