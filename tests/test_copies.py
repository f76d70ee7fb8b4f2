import unittest

from countgen.copies import copied
from tests.plainly import deep_samples, lists_within


class CopiedTest(unittest.TestCase):
    def test_alike_with_lists_of_its_own(self):
        for value in (0, "ab", (), [], [[], [1, [2]]], ("a", [("b", [])]), (([],),), [(), ("x", 1)], None, True):
            told = copied(value)
            self.assertEqual(told, value)
            self.assertIs(type(told), type(value))
            mine = {id(each) for each in lists_within(told)}
            self.assertEqual(mine & {id(each) for each in lists_within(value)}, set())

    def test_a_list_at_two_places_becomes_two(self):
        inner = []
        told = copied([inner, (inner, inner)])
        self.assertEqual(told, [[], ([], [])])
        self.assertEqual(len({id(each) for each in lists_within(told)}), 4)

    def test_dicts_too(self):
        thing = {"a": [1, {"b": []}], 2: ([],), "c": {}}
        told = copied([thing, thing])
        self.assertEqual(told, [thing, thing])
        self.assertEqual(list(told[0]), ["a", 2, "c"])
        told[0]["a"][1]["b"].append(5)
        told[0]["c"][0] = 1
        told[0][2][0].append(6)
        self.assertEqual(told[1], {"a": [1, {"b": []}], 2: ([],), "c": {}})
        self.assertEqual(thing, told[1])

    def test_deep_values(self):
        for book, shape, value in deep_samples():
            self.assertEqual(copied(value), value)


if __name__ == "__main__":
    unittest.main()
