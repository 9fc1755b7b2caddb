"""The interface: names and arguments as the document tells them, and kinds of what is told."""

import importlib
import inspect
import unittest

from benchdeal import errors
from benchdeal.changing import joined, more_votes, picked, shares
from benchdeal.dealing import dealt, next_list, order_of
from benchdeal.pricing import is_strict, over, price
from benchdeal.things import are_given, are_votes, is_scale
from reckoning import kind

INTERFACE = {
    "errors": {},
    "things": {"are_votes": "thing", "is_scale": "thing", "are_given": "thing votes"},
    "dealing": {"next_list": "votes given scale", "dealt": "votes seats scale", "order_of": "votes seats scale"},
    "pricing": {"price": "votes given scale", "over": "votes given scale", "is_strict": "votes given scale"},
    "changing": {
        "shares": "votes seats", "joined": "votes one other", "picked": "votes some", "more_votes": "votes one by",
    },
}


class InterfaceTest(unittest.TestCase):
    def test_names_and_arguments(self):
        for module, functions in INTERFACE.items():
            for name, arguments in functions.items():
                with self.subTest(module=module, name=name):
                    function = getattr(importlib.import_module(f"benchdeal.{module}"), name)
                    parameters = inspect.signature(function).parameters
                    self.assertEqual(" ".join(parameters), arguments)
                    self.assertEqual({one.default for one in parameters.values()}, {inspect.Parameter.empty})

    def test_nothing_is_refused(self):
        refusals = [name for name, value in vars(errors).items() if inspect.isclass(value)]
        self.assertEqual(refusals, [])

    def test_arguments_by_name(self):
        self.assertEqual(dealt(votes=(5, 3), seats=2, scale=(1, 1)), (1, 1))
        self.assertEqual(next_list(votes=(5, 3), given=(1, 0), scale=(1, 1)), 1)
        self.assertEqual(joined(votes=(5, 3), one=0, other=1), (8,))
        self.assertEqual(more_votes(votes=(5, 3), one=0, by=1), (6, 3))


class KindTest(unittest.TestCase):
    def test_truths(self):
        for told in (
            are_votes((5, 3)), are_votes(None), is_scale((1, 2)), is_scale(3), are_given((0, 1), (5, 3)),
            are_given((0,), (5, 3)), is_strict((5, 3), (1, 0), (1, 1)), is_strict((5, 3), (0, 1), (1, 1)),
            is_strict((5, 5), (0, 1), (1, 1)),
        ):
            self.assertEqual(kind(told), "bool")

    def test_whole_numbers_and_tuples(self):
        pair = ("tuple", "int", "int")
        self.assertEqual(kind(next_list((5, 3), (0, 0), (1, 1))), "int")
        self.assertEqual(kind(dealt((5, 3), 0, (1, 1))), pair)
        self.assertEqual(kind(order_of((5, 3), 2, (1, 1))), pair)
        self.assertEqual(kind(order_of((5, 3), 0, (1, 1))), ("tuple",))
        self.assertEqual(kind(price((5, 3), (1, 0), (1, 1))), pair)
        self.assertEqual(kind(over((5, 3), (0, 1), (1, 1))), pair)
        self.assertEqual(kind(shares((5, 3), 0)), pair)
        self.assertEqual(kind(joined((5, 3, 2), 0, 1)), pair)
        self.assertEqual(kind(picked((5, 3, 2), (0, 2))), pair)
        self.assertEqual(kind(more_votes((5, 3), 0, 0)), pair)

    def test_none(self):
        self.assertIs(price((5, 3), (0, 1), (1, 1)), None)
        self.assertIs(over((5, 3), (1, 0), (1, 1)), None)


if __name__ == "__main__":
    unittest.main()
