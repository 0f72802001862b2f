"""Promise 14: how a row is written and read."""

import inspect
import itertools
import random
import re
import unittest

from drawn import assert_places, assert_refused, rows
from goldplaces import notes as module
from goldplaces.errors import NoNote, NoRow
from goldplaces.notes import read, shown

ROWS = rows("notes", 500) + [[], [80], [-80], [80, -80], list(range(80, -81, -2)), list(range(79, -80, -2))]

WRITTEN = {
    "0": [], "1": [0], "10": [1], "100": [2], "101": [2, 0], "0.1": [-1], "0.01": [-2], "1.01": [0, -2],
    "10.1": [1, -1], "10.01": [1, -2], "100.01": [2, -2], "1000.0001": [3, -4], "0.101": [-1, -3],
    "1" + "0" * 80: [80],
    "0." + "0" * 79 + "1": [-80],
    "1" + "0" * 80 + "." + "0" * 79 + "1": [80, -80],
    "1" + "01" * 40 + "." + "01" * 40: list(range(80, -81, -2)),
}

SIGNS = ["\t", "\n"] + [chr(code) for code in range(ord(" "), ord("~") + 1) if chr(code) != "%"]

REFUSED = {
    "no signs at all": [""],
    "other signs": [
        " ", "\n", "\t", "a", "2", "-1", "+1", "1 ", " 1", "1\n", "\n1", "1\t", "1_0", "1,01", "1.01\n", "0 ", "0\n",
        "1e1", "0x1", "0b1", "[0]", "()", "one", "1 0", "10. 1", "10 .1", "l0", "O", "100.01 100.01", "1.2", "9", "20",
        "1/1",
    ],
    "more points than one": ["1.0.1", "1..1", "0..1", "..", "0.1.", ".0.1", "1.01.", "1.01.01", "0.0.0"],
    "two 1 side by side": ["11", "110", "1011", "0.11", "0.011", "10.011", "111", "11.01"],
    "two 1 with the point between": ["1.1", "101.1", "1.101", "10101.1"],
    "a needless 0 at the beginning": ["00", "01", "001", "010", "00.1", "01.01", "0010.1", "0" * 200],
    "a needless 0 behind the point at the end": ["0.0", "0.10", "1.0", "1.010", "10.0", "100.00", "0.00", "1.0100"],
    "no figures ahead of the point": [".1", ".01", ".", ".0", ".10"],
    "no figures behind the point": ["1.", "0.", "10.", "100.", "."],
    "a place beyond the edges": [
        "1" + "0" * 81, "1" + "0" * 100, "1" + "0" * 399, "1" + "0" * 81 + ".01", "0." + "0" * 80 + "1",
        "1." + "0" * 80 + "1", "0." + "0" * 100 + "1", "0." + "0" * 397 + "1", "10" * 41, "0." + "01" * 41,
        "1" + "0" * 81 + "." + "0" * 80 + "1", "1" + "0" * 500, "0." + "0" * 500 + "1",
    ],
}


def writes_a_row(text):
    """The promise told once more, as a pattern and what the pattern can't say."""
    if not re.fullmatch(r"(?:0|1[01]*)(?:\.[01]*1)?", text) or "11" in text.replace(".", ""):
        return False
    ahead, point, behind = text.partition(".")
    return len(ahead) <= 81 and len(behind) <= 80


def places_by_figures(text):
    ahead, point, behind = text.partition(".")
    return (
        [len(ahead) - 1 - k for k in range(len(ahead)) if ahead[k] == "1"]
        + [-1 - k for k in range(len(behind)) if behind[k] == "1"]
    )


class NoteCase(unittest.TestCase):

    def assert_read(self, text):
        if writes_a_row(text):
            told = read(text)
            assert_places(self, told)
            self.assertEqual(told, places_by_figures(text))
            self.assertEqual(shown(told), text)
        else:
            assert_refused(self, NoNote, read, text)


class Interface(unittest.TestCase):

    def test_arguments(self):
        self.assertEqual(list(inspect.signature(module.shown).parameters), ["row"])
        self.assertEqual(list(inspect.signature(module.read).parameters), ["text"])


class Written(NoteCase):

    def test_examples(self):
        for text, row in WRITTEN.items():
            with self.subTest(text=text):
                told = shown(row)
                self.assertIs(type(told), str)
                self.assertEqual(told, text)

    def test_each_place_once(self):
        for row in ROWS:
            with self.subTest(row=row):
                text = shown(row)
                self.assertTrue(writes_a_row(text))
                self.assertEqual(places_by_figures(text), row)

    def test_each_single_place(self):
        for place in range(-80, 81):
            with self.subTest(place=place):
                wanted = "1" + "0" * place if place >= 0 else "0." + "0" * (-1 - place) + "1"
                self.assertEqual(shown([place]), wanted)
                self.assertEqual(read(wanted), [place])

    def test_lists_that_are_no_rows_are_refused(self):
        for places in (
            [81], [-81], [100], [1, 0], [0, 1], [0, 0], [0, -1], [-1, 0], [3, 3], [0, 2], [81, 0], [0, -81],
            [10 ** 5000], [5, 3, 2], [5, 2, 3], [-80, 80], [2, -2, -2],
        ):
            with self.subTest(length=len(places)):
                assert_refused(self, NoRow, shown, places)


class Read(NoteCase):

    def test_examples(self):
        for text, row in WRITTEN.items():
            with self.subTest(text=text):
                told = read(text)
                assert_places(self, told)
                self.assertEqual(told, row)

    def test_what_is_shown_is_read(self):
        for row in ROWS:
            with self.subTest(row=row):
                self.assertEqual(read(shown(row)), row)

    def test_texts_of_each_kind_that_is_refused(self):
        for kind, texts in REFUSED.items():
            for text in texts:
                with self.subTest(kind=kind, text=text):
                    self.assertFalse(writes_a_row(text))
                    assert_refused(self, NoNote, read, text)

    def test_each_short_text_of_figures_and_points(self):
        kept = 0
        for length in range(0, 9):
            for signs in itertools.product("01.", repeat=length):
                text = "".join(signs)
                kept += writes_a_row(text)
                self.assert_read(text)
        self.assertGreater(kept, 100)

    def test_each_other_sign_at_each_spot(self):
        for text in ("0", "100.01", "0.1", "10"):
            for sign in SIGNS:
                for spot in range(len(text) + 1):
                    with self.subTest(text=text, sign=sign, spot=spot):
                        self.assert_read(text[:spot] + sign + text[spot:])
                        self.assert_read(text[:spot] + sign + text[spot + 1:])

    def test_written_rows_with_one_sign_changed(self):
        draw = random.Random("changed")
        for row in ROWS:
            text = shown(row)
            for step in range(6):
                spot = draw.randint(0, len(text))
                sign = draw.choice(["0", "1", ".", "", "01", "10", draw.choice(SIGNS)])
                width = draw.randint(0, 1)
                changed = text[:spot] + sign + text[spot + width:]
                with self.subTest(changed=changed):
                    self.assert_read(changed)

    def test_long_texts(self):
        draw = random.Random("long")
        for step in range(300):
            signs = draw.choice(["01", "01.", "0001", "0", "".join(SIGNS)])
            text = "".join(draw.choice(signs) for k in range(draw.randint(60, 400)))
            with self.subTest(text=text):
                self.assert_read(text)
                self.assert_read("1" + text)

    def test_at_the_edges(self):
        for ahead in range(78, 85):
            for behind in range(77, 84):
                for text in (
                    "1" + "0" * (ahead - 1),
                    "0." + "0" * (behind - 1) + "1",
                    "1" + "0" * (ahead - 1) + "." + "0" * (behind - 1) + "1",
                ):
                    with self.subTest(ahead=ahead, behind=behind, text=text):
                        self.assert_read(text)


if __name__ == "__main__":
    unittest.main()
