"""Texts: the head of part 13, points [55] and [56], and the conventions [2] for them."""

import random
import re
import unittest

from lateids.errors import InvalidHistory, InvalidLog, InvalidText
from lateids.histories import is_history
from lateids.logs import is_log
from lateids.texts import format_history, format_log, parse_history, parse_log
from readings import FULL, WRONG_LOGS, some_cases
from samples import NO_INTEGERS, NO_LISTS, Equal, ExactCase, Odd, steps_of
from tables import BEGIN, some_histories

GREATEST = 10 ** 30
SIGNS = [chr(code) for code in range(32, 127) if chr(code) != "%"]
PARSERS = [parse_history, parse_log]
STRANGE_WORDS = ["", "b", "-", "c1", "r2", "1", "0", "99", "c0", "b1", "c01", "c", "1,,2", "1,", ",1", str(GREATEST)]

WRONG_HISTORIES = NO_LISTS + [
    [("commit", 1)], [BEGIN, ("commit", 2)], [BEGIN, ("commit", 1), ("rollback", 1)], [BEGIN] * 61, [("poll", "a")],
    (BEGIN,), [[BEGIN]],
    [["begin"]], ["begin"], ["b"], [None], [Odd()], [BEGIN, ("commit", True)], [BEGIN, ("commit", 1.0)],
    [BEGIN, ("commit", "1")], [BEGIN, Equal()],
]


def plain_history(text):
    """Return the history with a text, or the position of the first word that is wrong."""
    history, still_open, begun = [], set(), 0
    for position, word in enumerate(text.split(" ") if text != "" else []):
        match = re.fullmatch("b|([cr])([1-9][0-9]*)", word)
        if match is None or position == 60:
            return position
        if word == "b":
            begun += 1
            still_open.add(begun)
            history.append(BEGIN)
        elif len(match[2]) > 31 or int(match[2]) not in still_open:
            return position
        else:
            still_open.remove(int(match[2]))
            history.append(({"c": "commit", "r": "rollback"}[match[1]], int(match[2])))
    return history


def plain_log(text):
    """Return the log with a text, or the position of the first word that is wrong."""
    log, last, many = [], 0, 0
    for position, word in enumerate(text.split(" ") if text != "" else []):
        if position == 12 or re.fullmatch("-|[1-9][0-9]*(,[1-9][0-9]*)*", word) is None:
            return position
        rows = [] if word == "-" else [int(part) if len(part) < 40 else 10 ** 40 for part in word.split(",")]
        for row in rows:
            if not last < row <= GREATEST or many == 30:
                return position
            last, many = row, many + 1
        log.append(rows)
    return log


def spoiled(source, text):
    """Return a text with one to three changes; a source of random numbers chooses them."""
    for _ in range(source.choice([1, 1, 2, 3])):
        kind, at = source.randrange(10), source.randint(0, len(text))
        words = text.split(" ")
        place = source.randrange(len(words))
        if kind == 0:
            text = text[:at] + source.choice(SIGNS + ["\n"]) + text[at:]
        elif kind == 1:
            text = text[:at] + text[at + 1:]
        elif kind == 2:
            text = text[:at] + source.choice(SIGNS + list("0123456789bcr-,") * 3) + text[at + 1:]
        elif kind == 3:
            text = text[:at] + text[at:at + 2][::-1] + text[at + 2:]
        else:
            other = source.randrange(len(words))
            if kind == 4:
                words[place], words[other] = words[other], words[place]
            elif kind == 5:
                words.insert(place, source.choice(words))
            elif kind == 6:
                del words[place]
            elif kind == 7:
                words.insert(place, source.choice(STRANGE_WORDS))
            elif kind == 8:
                words[place] += source.choice(["0", "b", ",", ",99", "\n", "c1", "-"])
            else:
                words[place] = words[place][:1] + "0" + words[place][1:]
            text = " ".join(words)
    return text


class TextCase(ExactCase):

    def assert_wrong(self, parse, text, position):
        found = self.assert_raises_exactly(InvalidText, parse, text)
        self.assertEqual(vars(found), {"position": position}, (parse.__name__, text))
        self.assertIs(type(found.position), type(position))

    def check(self, parse, plain, text):
        """Check what a text is read as; return whether it is right."""
        expected = plain(text)
        if type(expected) is list:
            found = parse(text)
            self.assertEqual(found, expected, text)
            return True
        self.assert_wrong(parse, text, expected)
        return False


class ExamplesTest(TextCase):

    def test_written(self):
        history = [("begin",), ("begin",), ("commit", 2), ("rollback", 1)]
        self.assertEqual([format_history(history), format_log([[1, 3], [], [4]]), format_log([])],
                         ["b b c2 r1", "1,3 - 4", ""])

    def test_read(self):
        self.assertEqual([parse_history("b c1 b"), parse_log("2 - 3,10"), parse_log("")],
                         [[("begin",), ("commit", 1), ("begin",)], [[2], [], [3, 10]], []])

    def test_wrong(self):
        self.assert_wrong(parse_history, "b c1 c1", 2)
        self.assert_wrong(parse_log, "1,3 2", 1)


class ThereAndBackTest(TextCase):

    def test_histories(self):
        for history in some_histories():
            text = format_history(history)
            self.assertIs(type(text), str)
            self.assertEqual(plain_history(text), history)
            found = parse_history(text)
            self.assertEqual(found, history)
            self.assertTrue(is_history(found))
            self.assertEqual([[type(part) for part in event] for event in found],
                             [[type(part) for part in event] for event in history])

    def test_logs(self):
        logs = [[[row] for row in range(1, 13)], [[]] * 12, [[GREATEST]], [list(range(GREATEST - 29, GREATEST + 1))]]
        logs += [log for log, _ in some_cases()]
        for log in logs:
            text = format_log(log)
            self.assertIs(type(text), str)
            self.assertEqual(plain_log(text), log)
            found = parse_log(text)
            self.assertEqual(found, log)
            self.assertTrue(is_log(found))

    def test_known_texts(self):
        self.assertEqual([format_history([]), format_history([BEGIN]), format_log([[]]), format_log([[], []])],
                         ["", "b", "-", "- -"])
        self.assertEqual([parse_history(""), parse_log("-"), parse_log("- -"), parse_log(str(GREATEST))],
                         [[], [[]], [[], []], [[GREATEST]]])
        self.assertEqual(format_history([BEGIN] * 12 + [("commit", 10), ("rollback", 12)]), "b " * 12 + "c10 r12")
        self.assertEqual(parse_history(" ".join(["b"] * 60)), [BEGIN] * 60)
        self.assertEqual(parse_log(",".join(str(row) for row in FULL)), [FULL])


class WrongTextsTest(TextCase):

    def test_one_to_three_changes(self):
        source, right, wrong = random.Random(91), 0, 0
        texts = [(parse_history, plain_history, format_history(history)) for history in some_histories()]
        texts += [(parse_log, plain_log, format_log(log)) for log, _ in some_cases()]
        for parse, plain, text in texts:
            for _ in range(60):
                found = self.check(parse, plain, spoiled(source, text))
                right, wrong = right + found, wrong + (not found)
        self.assertTrue(right > 1000 and wrong > 5000, (right, wrong))

    def test_each_sign_beside_and_within_words(self):
        for sign in SIGNS + ["\n", "%", "\t"]:
            for text in [sign, sign * 2, "b" + sign, sign + "b", "b b c" + sign, "b b c1" + sign + " r2",
                         "b" + sign + "b", "b b c" + sign + "1",
                         "1" + sign, sign + "1", "1" + sign + "2", "1,2" + sign + "3 4", "1," + sign + "2", "- " + sign,
                         "1 " + sign + " 3", "-" + sign]:
                self.check(parse_history, plain_history, text)
                self.check(parse_log, plain_log, text)

    def test_signs_of_other_scripts(self):
        for digit in ["\u0661", "\u00b2", "\uff11", "\u00bd", "\u0be7"]:
            self.assert_wrong(parse_history, "b c" + digit, 1)
            self.assert_wrong(parse_log, "- " + digit, 1)
            self.assert_wrong(parse_log, "1" + digit, 0)

    def test_spaces(self):
        for parse, right in [(parse_history, "b b c1"), (parse_log, "1 - 2,3")]:
            for text, position in [(" ", 0), ("  ", 0), (" " + right, 0), (right + " ", 3),
                                   (right.replace(" ", "  ", 1), 1), (right + "  ", 3),
                                   ("\n", 0), (right + "\n", 2), (right.replace(" ", "\n"), 0),
                                   (right.replace(" ", "\t"), 0)]:
                self.assert_wrong(parse, text, position)

    def test_words_that_are_none(self):
        for word in ["c", "r", "c0", "c01", "C1", "B", "bb", "b1", "c1,2", "c-1", "c+1", "c1_0", "1", "-", "1c",
                     "begin", "c" + "1" * 31 + "x", "p"]:
            self.assert_wrong(parse_history, "b b " + word, 2)
        for word in ["0", "01", "1,", ",1", ",", "1,,2", "--", "-,1", "1,-", "+1", "-1", "1_0", "b", "c1", "1;2", "1.0",
                     "1e3", "0,1", "1,02"]:
            self.assert_wrong(parse_log, "- " + word, 1)

    def test_words_that_cannot_stand_there(self):
        for text, position in [("c1", 0), ("r1", 0), ("b c2", 1), ("b c1 c1", 2), ("b r1 c1", 2), ("b c1 r1", 2),
                               ("b c1 b c3", 3), ("b c" + str(GREATEST), 1)]:
            self.assert_wrong(parse_history, text, position)
        for text, position in [("1,1", 0), ("2,1", 0), ("1 1", 1), ("2 - 1", 2), ("1,3 2", 1), ("1 2 3 3,4", 3),
                               ("5 - - 6,5", 3)]:
            self.assert_wrong(parse_log, text, position)

    def test_numbers_out_of_range(self):
        for number in [GREATEST + 1, 10 ** 31, 10 ** 40, 10 ** 3000]:
            self.assert_wrong(parse_history, f"b c{number}", 1)
            self.assert_wrong(parse_log, f"- 1,{number}", 1)
        self.assertEqual(parse_log(f"{GREATEST - 1} {GREATEST}"), [[GREATEST - 1], [GREATEST]])

    def test_too_many(self):
        self.assert_wrong(parse_history, " ".join(["b"] * 61), 60)
        self.assert_wrong(parse_history, " ".join(["b"] * 60 + ["c1"]), 60)
        self.assert_wrong(parse_history, " ".join(["b"] * 60 + ["x"]), 60)
        self.assert_wrong(parse_history, " ".join(["b"] * 59 + ["x"] * 3), 59)
        self.assert_wrong(parse_log, " ".join(["-"] * 13), 12)
        self.assert_wrong(parse_log, " ".join(["-"] * 12 + ["x"]), 12)
        self.assert_wrong(parse_log, ",".join(str(row) for row in range(1, 32)), 0)
        self.assert_wrong(parse_log, ",".join(str(row) for row in FULL) + " - 31", 2)
        self.assert_wrong(parse_log, "1 " + ",".join(str(row) for row in range(2, 32)) + " 32", 1)
        words = [str(row) for row in range(1, 32)]
        self.assert_wrong(parse_log, " ".join(words[:11] + [",".join(words[11:]), "-"]), 11)

    def test_four_thousand_characters(self):
        texts = ["b " * 2000, "b" * 4000, "c" + "1" * 3999, "- " * 2000, "1," * 2000, "1" * 4000, " " * 4000,
                 "b " * 1999 + "bb", "," * 4000, "0" * 4000,
                 ",".join(str(row) for row in range(1, 1000))[:4000], " ".join(["b c1"] + ["b"] * 1990), "\n" * 4000,
                 "-" * 4000]
        for text in texts:
            for parse, plain in [(parse_history, plain_history), (parse_log, plain_log)]:
                self.assertFalse(self.check(parse, plain, text[:4000]))
                steps_of(lambda: self.assert_raises_exactly(InvalidText, parse, text[:4000]), 400000)


class ErrorsTest(TextCase):

    def test_what_is_no_string(self):
        for parse in PARSERS:
            for value in NO_INTEGERS + NO_LISTS + [0, 1, ["b"], ("b",), b"b", b"", [[1]], [BEGIN]]:
                if type(value) is not str:
                    self.assert_wrong(parse, value, None)

    def test_wrong_histories_and_logs(self):
        for history in WRONG_HISTORIES:
            self.assert_raises_exactly(InvalidHistory, format_history, history)
        for log in WRONG_LOGS:
            self.assert_raises_exactly(InvalidLog, format_log, log)


class ConventionsTest(TextCase):

    def test_results_are_new_and_arguments_stay(self):
        for history in some_histories()[::5]:
            self.assert_unchanged(format_history, history)
            self.assert_unchanged(parse_history, format_history(history))
        for log, _ in some_cases():
            self.assert_unchanged(format_log, log)
            self.assert_unchanged(parse_log, format_log(log))

    def test_changed_arguments_are_read_anew(self):
        history, log = [BEGIN, BEGIN], [[1], [2]]
        self.assertEqual([format_history(history), format_log(log)], ["b b", "1 2"])
        history[1] = ("rollback", 1)
        log[1].clear()
        log[0].append(3)
        self.assertEqual([format_history(history), format_log(log)], ["b r1", "1,3 -"])
        history.append(("commit", 1))
        log[1].append(3)
        self.assert_raises_exactly(InvalidHistory, format_history, history)
        self.assert_raises_exactly(InvalidLog, format_log, log)


if __name__ == "__main__":
    unittest.main()
