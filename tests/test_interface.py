"""Every name of the document's interface is there, with its arguments, in its module."""

import importlib
import inspect
import unittest

INTERFACE = {
    "notes": "read_note(text) show_note(note)",
    "shapes": "read_shape(text) show_shape(shape)",
    "books": "read_book(text) show_book(book) shape_of(book, name) names_used(shape)",
    "choosing": """sets_among(n, m) bags_among(n, m) set_rank(numbers) bag_rank(numbers) set_at(m, rank)
        bag_at(m, rank)""",
    "draws": "fair(numbers, base, count)",
    "judging": "fits(book, shape, value) size_of(book, shape, value) compared(book, shape, one, other)",
    "counts": "counted(book, shape, size) counts_to(book, shape, size)",
    "telling": """value_at(book, shape, size, number) number_of(book, shape, value)
        least_value(book, shape, below)""",
    "sieve": """all_values(book, shape, size, most=400) sieved(book, shape, size, judge, most=400)
        rising_judge(book, part) unlike_judge(book, part) alike_judge(times)""",
    "terms": "read_term(text) show_term(term)",
    "sayings": "said(term, thing) same(one, other) judge_of(term)",
    "kinds": "kind_of(term) raw_book(high) kinded_book(high)",
    "tries": """tried(book, shape, judge, size, most=400) drawn_values(book, shape, size, numbers, base)
        tried_drawn(book, shape, judge, size, numbers, base)""",
    "steps": "steps_of(book, shape, value)",
    "shrinking": "shrunk(book, shape, judge, value) at_rest(book, shape, judge, value)",
    "deeds": """apart(begin, done, model_begin, model_done, deeds)
        deed_judge(begin, done, model_begin, model_done)""",
    "rows": "cuts(deeds) shrunk_deeds(book, shape, begin, done, model_begin, model_done, deeds)",
}


class InterfaceTest(unittest.TestCase):
    def test_functions(self):
        for module, text in INTERFACE.items():
            loaded = importlib.import_module(f"countgen.{module}")
            for told in " ".join(text.split()).replace(") ", ")\n").split("\n"):
                name = told.partition("(")[0]
                with self.subTest(f"{module}.{name}"):
                    made = getattr(loaded, name)
                    self.assertEqual(name + str(inspect.signature(made)), told)
                    self.assertEqual(made.__module__, f"countgen.{module}")


if __name__ == "__main__":
    unittest.main()
