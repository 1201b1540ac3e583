"""Point 1.12."""

import unittest

from tests.helper import Case, LAYOUTS, corners, deep_list, great, levers, place, plain, ratio, scale
from wherelaid.errors import BadLever, BadLoads, BadPlain, BadScale, BadText
from wherelaid.scales import Lever, Plain, Scale
from wherelaid.scaletext import read_scale, scale_text

LOADS = ((ratio(3), place(1, 2)), (ratio("1/2"), place("-1/3", 0)), (ratio(0), place(0, "-7/2")))
SCALE_ROWS = (
    "lever 0 out 3",
    "lever 1 above 0 in 1/2 out 5",
    "lever 2 above 0 in 2 out 7/2",
    "lever 3 above 1 in 2/3 out 11",
    "leg 0 on 0 seat 1/4 at 0,0",
    "leg 1 on 1 seat 3 at 4,0",
    "leg 2 on 2 seat 5/2 at 4,2",
    "leg 3 on 3 seat 13 at 0,2",
    "leg 4 on 3 seat 1 at 2,1",
    "load 0 weight 3 at 1,2",
    "load 1 weight 1/2 at -1/3,0",
    "load 2 weight 0 at 0,-7/2",
)
PLAIN_ROWS = (
    "plain 0 factor 1 at 0,0",
    "plain 1 factor 1/2 at 4,0",
    "plain 2 factor 2/3 at 4,2",
    "plain 3 factor 4 at 0,2",
    "load 0 weight 3 at 1,2",
    "load 1 weight 1/2 at -1/3,0",
    "load 2 weight 0 at 0,-7/2",
)
SAMPLES = (SCALE_ROWS, PLAIN_ROWS)
# Spellings of numbers that ratio_text does not write.
NOT_RATIO_TEXTS = (
    "", "-", "+1", "+", "01", "-01", "00", "-0", "-00", "0/1", "0/2", "-0/2", "1/1", "3/1", "2/4",
    "6/3", "-2/4", "1/0", "0/0", "1/-2", "-1/-2", "1/+2", "1/02", "01/2", "1/2/3", "1//2", "/2",
    "1/", "/", "--1", "1-", "1.5", "1e3", "0x1", "1_000", "a", "\u0661", "\u00b2", "1/\u0662",
    "\t1", "1\t", "1\r", "\u00a01", "1,2", "1:2", "1" * 201, "-" + "1" * 201, "1/" + "2" * 201 + "1",
    "3" * 201 + "/2",
)
NOT_WHOLE_TEXTS = NOT_RATIO_TEXTS + ("-1", "1/2", "-3")
NOT_PLACE_TEXTS = ("", "1", "1,", ",1", ",", "1,2,3", "1,,2", "1;2", "(1,2)", "1,2,") + tuple(
    f"{text},0" for text in NOT_RATIO_TEXTS if text != "1,2") + tuple(
    f"0,{text}" for text in NOT_RATIO_TEXTS if text != "1,2")


def text_of(rows):
    return "\n".join(rows)


class Writing(Case):

    def test_rows(self):
        self.assertEqual(scale_text(scale(), LOADS), text_of(SCALE_ROWS))
        self.assertEqual(scale_text(plain(), LOADS), text_of(PLAIN_ROWS))
        self.assertEqual(scale_text(scale()), text_of(SCALE_ROWS[:9]))
        self.assertEqual(scale_text(plain(), []), text_of(PLAIN_ROWS[:4]))

    def test_the_documents_rows(self):
        one = Scale(
            [Lever(ratio(3)), Lever(ratio(3), 0, ratio("1/2"))],
            [(1, ratio("1/4")), (0, ratio(2))], [place(4, 2), place(0, 0)])
        self.assertEqual(scale_text(one, [(ratio(3), place(1, 2))]).split("\n"), [
            "lever 0 out 3", "lever 1 above 0 in 1/2 out 3", "leg 0 on 1 seat 1/4 at 4,2",
            "leg 1 on 0 seat 2 at 0,0", "load 0 weight 3 at 1,2"])
        two = Plain([place(0, 0), place(1, 0)], [ratio("1/10"), ratio(2)])
        self.assertEqual(scale_text(two), "plain 0 factor 1/10 at 0,0\nplain 1 factor 2 at 1,0")

    def test_wrong_loads(self):
        for one in (scale(), plain()):
            for loads, index, what in (
                    (None, 0, "many"), ([LOADS[0]] * 9, 0, "many"), ([LOADS[0], ()], 1, "load"),
                    ([(ratio(-1), None)], 0, "weight"), ([LOADS[0], (ratio(1), None)], 1, "place")):
                self.refuses(BadLoads, (index, what), scale_text, one, loads)

    def test_loads_of_lists(self):
        loads = deep_list(LOADS)
        self.assertEqual(scale_text(plain(), loads), text_of(PLAIN_ROWS))
        self.assertEqual(loads, deep_list(LOADS))


class Reading(Case):

    def reads_back(self, one, loads):
        read = read_scale(scale_text(one, loads))
        self.assertIs(type(read), tuple)
        self.assertIs(type(read[0]), type(one))
        self.alike(read[0], one)
        self.assertEqual(read[0].factors, one.factors)
        self.assertEqual(read[1], tuple((weight, tuple(there)) for weight, there in loads))
        self.tuples(read[1])

    def test_samples_back(self):
        for one in (scale(), plain()):
            for many in range(4):
                self.reads_back(one, LOADS[:many])
                self.reads_back(one, deep_list(LOADS[:many]))

    def test_all_layouts_back(self):
        for places in LAYOUTS.values():
            factors = [great(150, 3 * leg) for leg in range(len(places))]
            self.reads_back(Plain(places, factors), LOADS * 2 + LOADS[:2])
            legs = [(leg % 4, great(12, leg)) for leg in range(len(places))]
            self.reads_back(Scale(levers(), legs, places), ())

    def test_one_and_six_levers(self):
        many = [Lever(ratio(1))] + [Lever(ratio(2), number, ratio(3)) for number in range(5)]
        for some in (1, 6):
            self.reads_back(Scale(many[:some], [(some - 1, ratio(1))] * 4, corners()), LOADS)

    def test_texts_back(self):
        for rows in SAMPLES:
            self.assertEqual(scale_text(*read_scale(text_of(rows))), text_of(rows))

    def test_no_texts(self):
        for thing in (None, True, 0, b"plain 0", list(PLAIN_ROWS), PLAIN_ROWS, ()):
            self.refuses(BadText, (0,), read_scale, thing)

    def test_long_texts(self):
        # 10,000 signs are read: the last row is found to be unreadable, not the text.
        rows = text_of(PLAIN_ROWS)
        just = rows + "\n" + "x" * (10000 - len(rows) - 1)
        self.refuses(BadText, (len(PLAIN_ROWS),), read_scale, just)
        self.refuses(BadText, (0,), read_scale, just + "x")
        self.refuses(BadText, (0,), read_scale, rows + " " * 10000)

    def test_most_digits(self):
        # They are read, and then found to be too great.
        for many, error in ((200, (0, "factor")), (150, None)):
            factor = "9" * many
            text = f"plain 0 factor {factor}/1{'0' * (many - 1)} at 0,0\nplain 1 factor 1 at 1,0"
            if error is None:
                self.assertEqual(read_scale(text)[0].factors[0][0], int(factor))
            else:
                self.refuses(BadPlain, error, read_scale, text)
        digits = "1" * 200
        rows = list(SCALE_ROWS)
        for told, more, index, what in (("seat 1/4", f"seat 1/{digits}", 0, "seat"),
                                        ("on 0", f"on {digits}", 0, "lever"),
                                        ("at 0,0", f"at -{digits},0", 0, "place")):
            rows[4] = SCALE_ROWS[4].replace(told, more)
            self.refuses(BadScale, (index, what), read_scale, text_of(rows))
        rows[4] = SCALE_ROWS[4].replace("at 0,0", f"at 0,{digits}1")
        self.refuses(BadText, (4,), read_scale, text_of(rows))


class Unreadable(Case):

    def refused_at(self, index, rows):
        self.refuses(BadText, (index,), read_scale, text_of(rows))

    def spoilt(self, rows, index, row):
        self.refused_at(index, [*rows[:index], row, *rows[index + 1:]])

    def test_each_word_and_number(self):
        for rows in SAMPLES:
            for index, row in enumerate(rows):
                words = row.split(" ")
                for at, word in enumerate(words):
                    if at % 2 == 0:
                        wrong = ("", word.upper(), word + "s", word[:-1], "lever", "foot", "in", "on")
                        wrong = [other for other in wrong if other != word]
                    elif "," in word:
                        wrong = NOT_PLACE_TEXTS
                    elif words[at - 1] in ("lever", "leg", "plain", "load", "above", "on"):
                        wrong = NOT_WHOLE_TEXTS
                    else:
                        wrong = NOT_RATIO_TEXTS
                    for other in wrong:
                        self.spoilt(rows, index, " ".join([*words[:at], other, *words[at + 1:]]))

    def test_blanks_and_lengths(self):
        for rows in SAMPLES:
            for index, row in enumerate(rows):
                words = row.split(" ")
                self.spoilt(rows, index, "")
                for other in (" " + row, row + " ", row.replace(" ", "  "), row + "\r", row + ";",
                              row.replace(" ", "\t"), row + " out 3", row + " 3", row + row,
                              row.replace(",", ", "), row.replace(" ", "\u00a0", 1), "#" + row):
                    if other != row:
                        self.spoilt(rows, index, other)
                for many in range(1, len(words)):
                    self.spoilt(rows, index, " ".join(words[:many]))
                    self.spoilt(rows, index, " ".join(words[many:]))

    def test_words_in_another_order(self):
        for index, row in (
                (1, "lever 1 in 1/2 above 0 out 5"), (1, "lever 1 above 0 out 5 in 1/2"),
                (4, "leg 0 seat 1/4 on 0 at 0,0"), (4, "leg 0 on 0 at 0,0 seat 1/4"),
                (9, "load 0 at 1,2 weight 3")):
            self.spoilt(SCALE_ROWS, index, row)

    def test_rows_left_out_doubled_and_exchanged(self):
        # The first row of a kind may come one row too early; then the next row stands wrong.
        firsts = {SCALE_ROWS: (0, 4, 9), PLAIN_ROWS: (0, 4)}
        for rows in SAMPLES:
            last = len(rows) - 1
            for index, row in enumerate(rows):
                self.refused_at(index + 1, [*rows[:index + 1], row, *rows[index + 1:]])
                if index < last:
                    swapped = [*rows[:index], rows[index + 1], row, *rows[index + 2:]]
                    self.refused_at(index + (index + 1 in firsts[rows]), swapped)
                    if index + 1 not in firsts[rows]:
                        self.refused_at(index, [*rows[:index], *rows[index + 1:]])

    def test_last_rows_left_out(self):
        # Then there are only fewer of this kind.
        self.assertEqual(len(read_scale(text_of(SCALE_ROWS[:8]))[0]), 4)
        rows = SCALE_ROWS[:7] + SCALE_ROWS[9:11]
        self.assertEqual([len(part) for part in read_scale(text_of(rows))], [3, 2])

    def test_numbers_begin_with_0(self):
        for rows in (["lever 1 out 3"], ["lever 1 above 0 in 1 out 1"], ["plain 1 factor 1 at 0,0"],
                     ["lever 0 above 0 in 1 out 3", *SCALE_ROWS[1:]]):
            self.refused_at(0, rows)
        self.refused_at(1, ["lever 0 out 3", "leg 1 on 0 seat 1 at 0,0"])
        self.refused_at(1, ["lever 0 out 3", "lever 1 out 3"])
        self.refused_at(1, ["lever 0 out 3", "lever 0 out 3"])
        self.refused_at(2, ["lever 0 out 3", "leg 0 on 0 seat 1 at 0,0", "load 1 weight 1 at 0,0"])

    def test_kinds_at_wrong_places(self):
        lever, above, leg = SCALE_ROWS[0], SCALE_ROWS[1], SCALE_ROWS[4]
        first, load = PLAIN_ROWS[0], PLAIN_ROWS[4]
        more = "lever 2 above 0 in 1 out 1"
        for index, rows in (
                (0, [leg]), (0, [load]), (0, [above]), (1, [lever, load]), (2, [lever, above, load]),
                (1, [lever, first]), (2, [lever, leg, first]), (2, [lever, leg, above]),
                (2, [lever, leg, lever]), (1, [first, leg]), (1, [first, lever]),
                (1, [first, above]), (2, [first, load, PLAIN_ROWS[1]]), (3, [lever, leg, load, leg]),
                (3, [lever, leg, load, SCALE_ROWS[5]]), (2, [first, load, first]),
                (2, [lever, above, first]), (3, [lever, above, leg, more]), (3, [lever, leg, load, lever])):
            self.refused_at(index, rows)
            self.refused_at(index, rows + ["nothing", ""])

    def test_legs_lack(self):
        for many in range(1, 5):
            self.refused_at(many, SCALE_ROWS[:many])
        self.refused_at(0, [""])
        self.refused_at(4, [*SCALE_ROWS[:4], ""])

    def test_empty_rows(self):
        for rows in SAMPLES:
            for index in range(len(rows) + 1):
                self.refused_at(index, [*rows[:index], "", *rows[index:]])

    def test_the_first_of_two(self):
        for rows in SAMPLES:
            for index in range(len(rows) - 1):
                spoilt = list(rows)
                spoilt[index] += " "
                spoilt[-1] = ""
                self.refused_at(index, spoilt)

    def test_unreadable_before_all_else(self):
        # Sizes of 0 are readable, so the later row is told first.
        self.refused_at(1, ["lever 0 out 0", "lever 1 above 0 in 1 out 01"])
        self.refused_at(1, ["plain 0 factor 0 at 0,0", ""])
        self.refused_at(1, ["lever 0 out 0"])


class Refused(Case):

    def test_levers(self):
        rows = list(SCALE_ROWS)
        for row, what in (
                ("lever 1 above 0 in 1/2 out 0", "out"), ("lever 1 above 0 in 1/2 out -3", "out"),
                ("lever 1 above 5 in 1/2 out 5", "above"), ("lever 1 above 0 in 0 out 5", "inward"),
                ("lever 1 above 7 in 0 out 5", "above"), ("lever 1 above 7 in 0 out 0", "out"),
                ("lever 1 above 0 in 1000000000001 out 5", "inward")):
            rows[1] = row
            self.refuses(BadLever, (what,), read_scale, text_of(rows))
            # What is wrong with a later lever, a leg or a load is told later.
            more = [*rows[:3], "lever 3 above 1 in 2/3 out 0", "leg 0 on 9 seat 0 at 0,0"]
            self.refuses(BadLever, (what,), read_scale, text_of(more))
        self.refuses(BadLever, ("out",), read_scale, text_of(["lever 0 out -1/2", *rows[1:]]))

    def test_scales(self):
        rows = list(SCALE_ROWS)
        for index, row, error in (
                (1, "lever 1 above 1 in 1/2 out 5", (1, "above")),
                (1, "lever 1 above 3 in 1/2 out 5", (1, "above")),
                (4, "leg 0 on 4 seat 1/4 at 0,0", (0, "lever")),
                (4, "leg 0 on 4 seat 0 at 0,0", (0, "lever")),
                (5, "leg 1 on 1 seat -3 at 4,0", (1, "seat")),
                (5, "leg 1 on 1 seat 3 at 1000000000001,0", (1, "place")),
                (6, "leg 2 on 2 seat 5/2 at 0,0", (2, "twice"))):
            changed = [*rows[:index], row, *rows[index + 1:]]
            self.refuses(BadScale, error, read_scale, text_of(changed))
            changed[-1] = "load 2 weight -1 at 0,0"
            self.refuses(BadScale, error, read_scale, text_of(changed))
        self.refuses(BadScale, (0, "legs"), read_scale, text_of(SCALE_ROWS[:5]))

    def test_too_many(self):
        rows = ["lever 0 out 1"] + [f"lever {k} above 0 in 1 out 1" for k in range(1, 7)]
        legs = [f"leg {k} on 0 seat 1 at {k},0" for k in range(7)]
        self.refuses(BadScale, (0, "levers"), read_scale, text_of(rows + legs))
        self.refuses(BadScale, (0, "legs"), read_scale, text_of(rows[:6] + legs))
        self.assertEqual(len(read_scale(text_of(rows[:6] + legs[:6]))[0]), 6)
        plains = [f"plain {k} factor 1 at {k},0" for k in range(12)]
        loads = [f"load {k} weight 1 at {k},0" for k in range(12)]
        for many in (1, 7, 12):
            self.refuses(BadPlain, (0, "places"), read_scale, text_of(plains[:many]))
            self.refuses(BadPlain, (0, "places"), read_scale, text_of(plains[:many] + loads))
        for many in (9, 12):
            self.refuses(BadLoads, (0, "many"), read_scale, text_of(plains[:2] + loads[:many]))
        self.assertEqual(len(read_scale(text_of(plains[:6] + loads[:8]))[1]), 8)

    def test_plains_and_loads(self):
        rows = list(PLAIN_ROWS)
        for index, row, error, told in (
                (1, "plain 1 factor 0 at 4,0", BadPlain, (1, "factor")),
                (1, "plain 1 factor -1/2 at 4,0", BadPlain, (1, "factor")),
                (2, "plain 2 factor 0 at 0,0", BadPlain, (2, "twice")),
                (2, "plain 2 factor 1 at 0,1/1000000000001", BadPlain, (2, "place")),
                (4, "load 0 weight -3 at 1,2", BadLoads, (0, "weight")),
                (5, "load 1 weight 3 at 1,1000000000001", BadLoads, (1, "place"))):
            changed = [*rows[:index], row, *rows[index + 1:]]
            self.refuses(error, told, read_scale, text_of(changed))


if __name__ == "__main__":
    unittest.main()
