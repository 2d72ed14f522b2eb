"""Point [2]: nothing handed in is changed, and what is given is the asker's own."""

import unittest
from copy import deepcopy

from helper import many_tables
from trialfield.tables import determinant, rank, reduced, solved


def lists_within(value):
    """All lists that a value is or holds."""
    found = [value] if isinstance(value, list) else []
    if isinstance(value, (list, tuple)):
        for part in value:
            found += lists_within(part)
    return found


def spoil(value):
    for part in lists_within(value):
        part.append("spoilt")
        part[0] = "spoilt"


def questions(table, column):
    asked = [
        lambda: reduced(table),
        lambda: rank(table),
        lambda: solved(table, column),
    ]
    if len(table) == len(table[0]):
        asked.append(lambda: determinant(table))
    return asked


def own_tables():
    """Among them tables that are reduced already, where an answer could be the very table."""
    small = [table for table in many_tables() if len(table) < 6]
    return small + [reduced(table) for table in small]


def own_columns(table):
    """Columns of both answers, where there are both."""
    return [
        [(0, 1)] * len(table),
        [row[0] for row in table],
        [(k + 1, 3) for k in range(len(table))],
        [(k * k, 1) for k in range(len(table))],
    ]


class Own(unittest.TestCase):
    def test_what_is_handed_in_stays_the_same(self):
        for table in own_tables():
            for column in own_columns(table):
                before = deepcopy((table, column))
                for question in questions(table, column):
                    question()
                    self.assertEqual((table, column), before)

    def test_no_list_given_was_handed_in_or_is_given_twice(self):
        for table in own_tables():
            for column in own_columns(table):
                handed = [id(part) for part in lists_within((table, column))]
                for question in questions(table, column):
                    given = question()
                    named = [id(part) for part in lists_within(given)]
                    self.assertEqual(len(named), len(set(named)))
                    self.assertFalse(set(named) & set(handed))

    def test_a_change_of_what_was_given_changes_nothing_else(self):
        for table in own_tables():
            for column in own_columns(table):
                before = deepcopy((table, column))
                for question in questions(table, column):
                    first = question()
                    kept = deepcopy(first)
                    second = question()
                    spoil(first)
                    self.assertEqual(second, kept)
                    self.assertEqual(question(), kept)
                    self.assertEqual((table, column), before)

    def test_a_change_of_what_was_handed_in_changes_no_answer(self):
        for table in own_tables():
            for column in own_columns(table):
                for question in range(3):
                    handed = deepcopy((table, column))
                    given = questions(handed[0], handed[1])[question]()
                    kept = deepcopy(given)
                    spoil(handed)
                    self.assertEqual(given, kept)


if __name__ == "__main__":
    unittest.main()
