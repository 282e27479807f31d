"""Point 26: terms, forms and fractions as texts, written and read."""

import re
import unittest
from math import gcd

from helpers import SIXTY, dice, refused
from plain_terms import CHOOSES, PARTS, any_part, choose_stands
from sumcraft.errors import NoTerm
from sumcraft.terms import Term
from sumcraft.texts import read_form, read_ratio, read_term, read_whole, show_form, show_ratio, show_term

NINES = int("9" * 60)
CHOOSE = ("choose", (1, 0, 0), (0, 1, 0))
WRITTEN = [
    ("C(n, k)", [CHOOSE]),
    ("C(n, k) * (2n-k+1) * [-1/2]^k", [CHOOSE, ("weight", (2, -1, 1)), ("power", (-1, 2))]),
    ("C(n+k, k) * C(n, n-k)", [("choose", (1, 1, 0), (0, 1, 0)), ("choose", (1, 0, 0), (1, -1, 0))]),
    ("C(3n+3k+9, -3n-3k-9)", [("choose", (3, 3, 9), (-3, -3, -9))]),
    ("C(2n, n)", [("choose", (2, 0, 0), (1, 0, 0))]),
    ("C(2k+1, k)", [("choose", (0, 2, 1), (0, 1, 0))]),
    ("C(5, 2)", [("choose", (0, 0, 5), (0, 0, 2))]),
    ("C(0, 0)", [("choose", (0, 0, 0), (0, 0, 0))]),
    ("C(n, -n+2k)", [("choose", (1, 0, 0), (-1, 2, 0))]),
    ("(0)", [("weight", (0, 0, 0))]), ("(1)", [("weight", (0, 0, 1))]), ("(-1)", [("weight", (0, 0, -1))]),
    ("(n)", [("weight", (1, 0, 0))]), ("(-n)", [("weight", (-1, 0, 0))]), ("(k)", [("weight", (0, 1, 0))]),
    ("(-k)", [("weight", (0, -1, 0))]), ("(-k+5)", [("weight", (0, -1, 5))]), ("(n+k)", [("weight", (1, 1, 0))]),
    ("(n-k)", [("weight", (1, -1, 0))]), ("(-n-k-1)", [("weight", (-1, -1, -1))]), ("(10n)", [("weight", (10, 0, 0))]),
    ("(-3k)", [("weight", (0, -3, 0))]), ("(n+10)", [("weight", (1, 0, 10))]), ("(-11n+11)", [("weight", (-11, 0, 11))]),
    ("[1]^k", [("power", (1, 1))]), ("[-1]^k", [("power", (-1, 1))]), ("[1]^n", [("growth", (1, 1))]),
    ("[2/3]^n", [("growth", (2, 3))]), ("[-10/21]^n", [("growth", (-10, 21))]), ("[100]^k", [("power", (100, 1))]),
    ("[1/2]^n * [1/2]^k * [-7]^n * (k) * (k) * C(n, k)",
     [("growth", (1, 2)), ("power", (1, 2)), ("growth", (-7, 1)), ("weight", (0, 1, 0)), ("weight", (0, 1, 0)), CHOOSE]),
]
REFUSED = r"""
|C|()|C()|[]|[]^k|[]^n|^k|[1|[1]|[1]^|[1]k|[1]^m|[1]^K|[1]^kk|[1]^k^k|[1]^2|[1]^-k|1|n|k|0|C(n k)|C(n,k)|C(n,  k)|C(n ,k)
C(n , k)|C( n, k)|C(n, k )|C (n, k)|c(n, k)|C[n, k]|C(n; k)|C(n)|C(n, )|C(, k)|C(, )|C(n, k, k)|C(n, k,)|C((n), k)|C(n, (k))
C(n, k|Cn, k)|(C(n, k))|C(n, k))|((n))|(n)(k)|(n)*(k)|(n) *(k)|(n)* (k)|(n)  * (k)|(n) *  (k)|(n) * |* (n)| * (n)|(n) *
(n) * * (k)|(n) (k)|(n) + (k)|(n) ** (k)|C(n, k) * |C(n, k) C(n, k)|(n) x (k)|[1]^k * [0]^k
(+n)|(+5)|(n+0)|(n-0)|(0n)|(0k)|(-0)|(+0)|(00)|(1n)|(-1n)|(1k)|(n+1k)|(n-1k)|(01)|(-01)|(02n)|(n+02)|(n+0k)|(0+n)|(0n+k)
(n++k)|(n--k)|(n+-k)|(n-+k)|(n+)|(n-)|(-)|(+)|(--n)|(n k)|(n +k)|(n+ k)|( n)|(n )|(- n)|(2 n)|(nk)|(n2)|(2nk)|(n*k)|(2*n)
(k+n)|(1+n)|(5-k)|(1+k)|(n+1+k)|(n+n)|(n-n)|(1+1)|(n+1+1)|(k+k)|(nn)|(kk)|(n+k+n)|(N)|(K)|(m)|(n+m)|(1/2)|(n/2)|(n^2)
(1.0)|(1e3)|(1_0)|(0x1)|(n,k)|(n, k)
[0]^k|[0]^n|[-0]^k|[00]^k|[01]^k|[-01]^n|[+1]^k|[1/1]^k|[2/1]^n|[2/4]^k|[6/3]^n|[-2/2]^k|[0/1]^k|[0/5]^k|[1/0]^k|[0/0]^k
[1/-2]^k|[-1/-2]^n|[1/+2]^k|[1/02]^k|[01/2]^k|[--1]^k|[1//2]^k|[1/2/3]^k|[/2]^k|[1/]^k|[/]^k|[1 /2]^k|[1/ 2]^k|[ 1]^k|[1 ]^k
[-]^k|[n]^k|[1]^ k|[1] ^k|[1]^k |[-1/2^k|(-1/2)^k|{1}^k|[1.5]^k|[1_0]^k|[1e2]^k|[1,2]^k|[1]^n^k|[1]^nk
C(n, 4k)|C(4n, k)|C(n, 4n)|C(4k, k)|C(n+10, k)|C(-n, k)|C(n-1, k)|C(-k, k)|C(n-k, k)|C(n, k+10)|C(n, k-10)|C(n, -4n)
C(n, -4k)|C(n, -k)|C(n, n+k)|C(n, -k+9)|C(9, k)|C(n+1, 1+k)|C(k+n, k)|C(n, k+0)|C(1n, k)|C(n, 1k)|C(n, 0k)|C(-0, k)
C(10, 1)|C(n+k-1, k)|C(n, k) * (n)  |  C(n, k)|C(n, k)\t|\tC(n, k)|C(n,\tk)|(n)\t*\t(k)|(n)\n|\n(n)|(n) *\n(k)
""".strip("\n")


def refused_texts():
    texts = [text.replace("\\t", "\t").replace("\\n", "\n") for line in REFUSED.split("\n") for text in line.split("|")]
    # figures of other alphabets, which Python's own int reads too
    return texts + [chr(code).join(around) for code in (0x663, 0xFF11, 0xB2, 0x967) for around in
                    (("(", ")"), ("(", "n)"), ("(n+", ")"), ("[", "]^k"), ("[1/", "]^n"), ("C(n, ", "k)"), ("(1", ")"))]


COUNT = "(?:[2-9]|[1-9][0-9]{1,59})?"
LONE = "[1-9][0-9]{0,59}"
FORM = f"(?:0|-?{COUNT}n(?:[+-]{COUNT}k)?(?:[+-]{LONE})?|-?{COUNT}k(?:[+-]{LONE})?|-?{LONE})"
BASE = f"(-?{LONE})(?:/([2-9]|[1-9][0-9]{{1,59}}))?"


def number_of(text, letter):
    found = re.search(rf"([+-]?)([0-9]*){letter}$" if letter == "" else rf"([+-]?)([0-9]*){letter}", text)
    if found is None or (letter == "" and found[2] == ""):
        return 0
    return int(found[1] + (found[2] or "1"))


def form_of(text):
    return tuple(number_of(text, letter) for letter in ("n", "k", ""))


def oracle_part(text):
    found = re.fullmatch(rf"C\(({FORM}), ({FORM})\)", text)
    if found:
        upper, lower = form_of(found[1]), form_of(found[2])
        bounds = [0 <= x <= m for x, m in zip(upper, (3, 3, 9))] + [abs(x) <= m for x, m in zip(lower, (3, 3, 9))]
        return ("choose", upper, lower) if all(bounds) and choose_stands(upper, lower) else None
    found = re.fullmatch(rf"\(({FORM})\)", text)
    if found:
        return ("weight", form_of(found[1]))
    found = re.fullmatch(rf"\[{BASE}\]\^([nk])", text)
    if found and gcd(int(found[1]), int(found[2] or 1)) == 1:
        return ("power" if found[3] == "k" else "growth", (int(found[1]), int(found[2] or 1)))
    return None


def oracle(text):
    """The parts of a text by another way of reading; None where it is no term's."""
    parts = [oracle_part(piece) for piece in text.split(" * ")]
    return None if None in parts or len(parts) > 6 else parts


class Shown(unittest.TestCase):
    def test_forms(self):
        wanted = {
            (0, 0, 0): "0", (1, 0, 0): "n", (-1, 0, 0): "-n", (2, 0, 0): "2n", (-3, 0, 0): "-3n", (0, 1, 0): "k",
            (0, -1, 0): "-k", (0, -3, 0): "-3k", (0, 0, 5): "5", (0, 0, 1): "1", (0, 0, -1): "-1", (1, 1, 0): "n+k",
            (0, -1, 5): "-k+5", (1, 0, 1): "n+1", (1, 0, -1): "n-1", (1, -1, -1): "n-k-1", (-1, 1, 1): "-n+k+1",
            (2, -1, 1): "2n-k+1", (10, 11, 12): "10n+11k+12", (-10, -11, -12): "-10n-11k-12",
            (SIXTY, -SIXTY, 0): f"{SIXTY}n-{SIXTY}k", (-SIXTY, 0, SIXTY): f"-{SIXTY}n+{SIXTY}",
        }
        for form, text in wanted.items():
            self.assertEqual(show_form(form), text)

    def test_fractions(self):
        wanted = {
            (0, 1): "0", (1, 1): "1", (-1, 1): "-1", (1, 2): "1/2", (-1, 2): "-1/2", (12, 1): "12", (-10, 21): "-10/21",
            (SIXTY, SIXTY - 1): f"{SIXTY}/{SIXTY - 1}", (-1, SIXTY): f"-1/{SIXTY}",
        }
        for fraction, text in wanted.items():
            self.assertEqual(show_ratio(fraction), text)

    def test_fractions_of_many_figures(self):
        top, bottom = 10 ** 3999 + 1, 10 ** 3999
        self.assertTrue(show_ratio((-top, bottom)) == "-1" + "0" * 3998 + "1/1" + "0" * 3999)

    def test_terms(self):
        for text, parts in WRITTEN:
            self.assertEqual(show_term(Term(parts)), text)


class Pieces(unittest.TestCase):
    def test_whole_numbers(self):
        for number in (0, 1, -1, 10, -10, SIXTY, -NINES):
            self.assertEqual(read_whole(str(number)), number)
        for text in ("", "-", "-0", "00", "01", "-01", "+1", "1 ", " 1", "1_0", "1n", "--1", str(NINES + 1), "0" * 60):
            self.assertIsNone(read_whole(text))

    def test_fractions_and_forms(self):
        for fraction in ((0, 1), (1, 2), (-3, 1), (-NINES, NINES - 1)):
            self.assertEqual(read_ratio(show_ratio(fraction)), fraction)
        for form in ((0, 0, 0), (1, -1, 0), (0, 0, -7), (NINES, NINES, NINES)):
            self.assertEqual(read_form(show_form(form)), form)


class ThereAndBack(unittest.TestCase):
    def hold(self, parts):
        text = show_term(Term(parts))
        self.assertIs(type(text), str)
        read = read_term(text)
        self.assertIs(type(read), Term)
        self.assertEqual(read.told(), parts)
        self.assertEqual(show_term(read), text)
        return text

    def test_written(self):
        for text, parts in WRITTEN:
            read = read_term(text)
            self.assertEqual(read.told(), parts)
            self.assertEqual(read.worth(5, 3), Term(parts).worth(5, 3))
            self.assertEqual(self.hold(parts), text)

    def test_each_part(self):
        texts = [self.hold([part]) for part in PARTS]
        self.assertEqual(len(set(texts)), len(set(PARTS)))

    def test_all_small_forms(self):
        texts = set()
        for a in range(-3, 4):
            for b in range(-3, 4):
                for c in (-11, -10, -2, -1, 0, 1, 2, 10, 11):
                    texts.add(self.hold([("weight", (a, b, c))]))
        self.assertEqual(len(texts), 7 * 7 * 9)

    def test_all_small_fractions(self):
        for top in [top for top in range(-12, 13) if top != 0]:
            for bottom in [bottom for bottom in range(1, 13) if gcd(top, bottom) == 1]:
                self.hold([("power", (top, bottom)), ("growth", (top, bottom))])

    def test_of_chance(self):
        rng = dice(9)
        for _ in range(300):
            parts = [any_part(rng, rng.choice([1, 2, 60])) for _ in range(rng.randint(1, 6))]
            self.assertEqual(oracle(self.hold(parts)), parts)

    def test_sixty_figures(self):
        for parts in (
            [("weight", (NINES, -NINES, NINES))], [("weight", (-NINES, 0, -NINES))], [("weight", (0, -NINES, 0))],
            [("power", (-NINES, NINES - 1))], [("growth", (NINES, 2))], [("power", (1, NINES)), CHOOSE],
        ):
            self.hold(parts)

    def test_six_parts(self):
        for many in range(1, 7):
            self.assertEqual(read_term(" * ".join(["C(n, k)"] * many)).told(), [CHOOSE] * many)


class Refused(unittest.TestCase):
    def test_written_otherwise(self):
        texts = refused_texts()
        self.assertGreater(len(texts), 200)
        for text in texts:
            self.assertIsNone(oracle(text), text)
            refused(self, NoTerm, read_term, text)
            refused(self, NoTerm, read_term, "C(n, k) * " + text)
            refused(self, NoTerm, read_term, text + " * C(n, k)")

    def test_more_than_sixty_figures(self):
        for figures in (61, 62, 300, 3900, 5000, 20000):
            long = "1" + "0" * (figures - 1)
            for text in (f"({long})", f"({long}n)", f"(-{long}k)", f"(n-{long})", f"[{long}]^k", f"[-1/{long}]^n",
                         f"[{long}/3]^k", f"C({long}, k)", f"C(n, -{long}k)"):
                refused(self, NoTerm, read_term, text)

    def test_many_noughts_ahead(self):
        for noughts in (1, 59, 60, 300):
            ahead = "0" * noughts
            for text in (f"({ahead}1)", f"({ahead}2n)", f"[{ahead}1]^k", f"[1/{ahead}2]^k", f"(n+{ahead}1)", f"({ahead}0)"):
                refused(self, NoTerm, read_term, text)

    def test_the_empty_text(self):
        refused(self, NoTerm, read_term, "")

    def test_seven_parts(self):
        for many in (7, 8, 400):
            refused(self, NoTerm, read_term, " * ".join(["(n)"] * many))

    def test_parts_that_are_refused(self):
        for text in ("C(4n, k)", "C(n, -k)", "C(n-1, k)", "C(n, k+10)", "[0]^k", "[0]^n", "C(n, n+k)"):
            refused(self, NoTerm, read_term, text)
            refused(self, NoTerm, read_term, "(n) * " + text)

    def test_changed_by_one_sign(self):
        rng = dice(10)
        signs = "nkC()[]^/*+-,0123456789 Nm.\t\n"
        for text, _ in WRITTEN:
            for _ in range(150):
                place = rng.randrange(len(text) + 1)
                changed = text[:place] + rng.choice(signs) * rng.randrange(2) + text[place + rng.randrange(2):]
                self.read_or_refused(changed)

    def read_or_refused(self, text):
        wanted = oracle(text)
        if wanted is None:
            refused(self, NoTerm, read_term, text)
        else:
            self.assertEqual(read_term(text).told(), wanted)
            self.assertEqual(show_term(read_term(text)), text)

    def test_all_short_texts(self):
        for a in "nk01-+ ":
            for b in "nk01-+ ":
                for c in "nk01-+ ":
                    for d in ("", "k", "1", "+", "-"):
                        self.read_or_refused(f"({a}{b}{c}{d})")
                        self.read_or_refused(f"({a}{b})")
        for a in "012-/ ":
            for b in "012-/ ":
                for c in "012-/ ":
                    for d in ("", "0", "2", "/"):
                        self.read_or_refused(f"[{a}{b}{c}{d}]^k")
                        self.read_or_refused(f"[{a}{b}]^n")

    def test_all_small_chooses(self):
        for upper in ("n", "2n", "3n+k", "k", "0", "9", "10", "4n", "n-k", "n+k+9", "3k"):
            for lower in ("k", "n", "-n", "-k", "n-k", "-n+k", "2k", "3n-3k-9", "4k", "k+10", "0", "-1", "n+k", "9"):
                self.read_or_refused(f"C({upper}, {lower})")


class Own(unittest.TestCase):
    def test_reading_and_writing_change_nothing(self):
        for text, parts in WRITTEN:
            term = read_term(text)
            term.told().clear()
            self.assertEqual(show_term(term), text)
            self.assertEqual(term.told(), parts)
            read_term(text).told().append(CHOOSES[0])
            self.assertEqual(read_term(text).told(), parts)


if __name__ == "__main__":
    unittest.main()
