"""The classes of what is refused, and their fields."""

import unittest

from fewkept.errors import KeepError, NoKept, NoLink, NoPage, NoPlace, NoText, TooMany
from tests.helper import refusal, same, things


class Errors(unittest.TestCase):
    def test_classes_stand_straight_under_one(self):
        self.assertEqual(KeepError.__bases__, (ValueError,))
        for kind in (NoLink, NoPlace, TooMany, NoKept, NoPage, NoText):
            self.assertEqual(kind.__bases__, (KeepError,))

    def test_each_has_its_one_field(self):
        for kind, field in ((NoLink, "at"), (NoPlace, "place"), (TooMany, "most"), (NoKept, "at"), (NoText, "at")):
            for worth in (0, 7, -1):
                self.assertEqual(vars(kind(worth)), {field: worth})
                self.assertEqual(vars(kind(**{field: worth})), {field: worth})
            with self.assertRaises(TypeError):
                kind()
            with self.assertRaises(TypeError):
                kind(0, 1)

    def test_no_page_is_made_of_a_text(self):
        self.assertEqual(str(NoPage("no page here")), "no page here")
        self.assertEqual(vars(NoPage("no page here")), {})

    def test_each_can_be_raised_and_tells_a_text(self):
        for kind, worth in ((NoLink, 1), (NoPlace, "zz"), (TooMany, 5), (NoKept, 0), (NoPage, "none"), (NoText, 2)):
            with self.assertRaises(KeepError) as caught:
                raise kind(worth)
            self.assertIs(type(caught.exception), kind)
            self.assertTrue(str(caught.exception))

    def test_a_place_is_anything_as_it_was_when_refused(self):
        for thing in things():
            self.assertTrue(same(NoPlace(thing).place, thing))
        thing = [1, ({"a": [2]}, [3])]
        error = NoPlace(thing)
        thing[1][0]["a"].append(4)
        thing[1][1].append(5)
        thing.append(6)
        self.assertEqual(error.place, [1, ({"a": [2]}, [3])])

    def test_nothing_refused_is_no_refusal(self):
        self.assertIsNone(refusal(NoLink, 0))
