"""The interface: names, arguments by their places, and where they stand."""

import importlib
import inspect
import unittest

NAMES = {
    "parts": {"root": ["number"], "cube_root": ["number"], "whole_parts": ["bound"], "many_parts": ["bound"],
              "many_with": ["bound", "part"], "sum_of_parts": ["bound"]},
    "small": {"primes_to": ["bound"], "least_prime": ["number"], "is_prime": ["thing"]},
    "steps": {"left_behind": ["bound", "number"]},
    "counted": {"many_primes": ["bound"], "many_between": ["low", "high"]},
    "sums": {"sum_of_primes": ["bound"], "sum_of_squares": ["bound"]},
    "rests": {"in_rests": ["bound", "number"]},
    "rough": {"rough": ["bound", "many"]},
    "manieth": {"prime_at": ["place"], "place_of": ["number"], "next_prime": ["number"], "last_prime": ["number"]},
    "papers": {"paper_of": ["bound"], "shows": ["bound", "thing"]},
    "notes": {"show_paper": ["paper"], "read_paper": ["text"]},
    "desk": {"Desk": []},
}


class Interface(unittest.TestCase):
    def test_names_and_arguments(self):
        for name, functions in NAMES.items():
            module = importlib.import_module(f"untoldprimes.{name}")
            for function, words in functions.items():
                here = getattr(module, function)
                self.assertEqual(here.__module__, module.__name__)
                self.assertEqual(list(inspect.signature(here).parameters), words)

    def test_the_desk(self):
        desk = importlib.import_module("untoldprimes.desk").Desk
        self.assertIn("say", vars(desk))
        self.assertEqual(list(inspect.signature(desk().say).parameters), ["words"])


if __name__ == "__main__":
    unittest.main()
