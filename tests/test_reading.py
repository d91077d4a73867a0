import random
import re
import unittest

from samples import condition as random_condition
from samples import nested
from test_writing import WRITTEN
from whomaywhat.conditions import check_condition
from whomaywhat.errors import BadText
from whomaywhat.reading import read_book, read_condition
from whomaywhat.writing import write_book, write_condition

TOKEN = re.compile('[a-z]+|"[a-z]*"|-?[0-9]+|[(){},/.]')


def tokens_of(text):
    return TOKEN.findall(text)


def joined(dice, tokens):
    """The tokens with any spaces between them that do not make one token of two."""
    parts = []
    for before, token in zip([""] + tokens, tokens):
        needed = (before + "x")[0].isalpha() and token[0].isalpha() and before != ""
        needed = needed or (before[-1:].isdigit() and token[0].isdigit())
        parts.append(" " * dice.choice((1, 2, 5) if needed else (0, 0, 1, 3)) + token)
    return "".join(parts) + " " * dice.randrange(3)


class ReadConditionTest(unittest.TestCase):
    def test_the_examples(self):
        self.assertEqual(read_condition(" most( size,0 , -3)"), ("most", "size", "", -3))
        with self.assertRaises(BadText) as caught:
            read_condition('all(yes, is(who "ann"))')
        self.assertEqual((caught.exception.line, caught.exception.column), (1, 17))

    def test_written_forms(self):
        for condition, text in WRITTEN:
            self.assertEqual(read_condition(text), condition)

    def test_any_spaces(self):
        dice = random.Random(12)
        for condition, text in WRITTEN:
            self.assertEqual(read_condition("".join(tokens_of(text))), condition)
            self.assertEqual(read_condition("  ".join([""] + tokens_of(text) + [""])), condition)
            for _ in range(10):
                self.assertEqual(read_condition(joined(dice, tokens_of(text))), condition)
        self.assertEqual(read_condition("is ( thing . 0 ,who)"), ("is", ("part", "thing", 0), ("field", "who")))

    def test_random_conditions(self):
        dice = random.Random(13)
        for depth in range(1, 13):
            for _ in range(25):
                condition = random_condition(dice, depth)
                text = write_condition(condition)
                if len(text) < 20000:
                    self.assertEqual(read_condition(text), condition)
                    spaced = read_condition(joined(dice, tokens_of(text)))
                    self.assertEqual(spaced, condition)
                    check_condition(spaced)
                    self.assertEqual(write_condition(spaced), text)

    def test_depth_of_twelve(self):
        for deepest in (("true",), ("all", ()), ("any", ()), ("at", "p", ())):
            for kinds in (("not",), ("all",), ("any", "not")):
                condition = nested(12, deepest, kinds)
                self.assertEqual(read_condition(write_condition(condition)), condition)


class Marked(unittest.TestCase):
    """In the texts of these tests ^ marks the place of the error and is not passed."""

    def refused(self, marked, read=read_condition):
        lines = marked.split("\n")
        line = [number for number, text in enumerate(lines) if "^" in text]
        self.assertEqual((len(line), marked.count("^")), (1, 1), marked)
        place = (line[0] + 1, lines[line[0]].index("^") + 1)
        with self.assertRaises(BadText, msg=marked) as caught:
            read(marked.replace("^", ""))
        self.assertEqual((caught.exception.line, caught.exception.column), place, marked)


class BadConditionTest(Marked):
    def refused_all(self, texts):
        for text in texts.split("\n"):
            if text.strip():
                self.refused(text.strip())

    def test_what_begins_no_token(self):
        self.refused("^\tyes")
        self.refused("yes^\t")
        self.refused("yes^\n")
        self.refused("is(^\twho, s)")
        self.refused("is(who,^\ts)")
        self.refused_all("""
            ^Yes
            ^yEs
            is(who^X, "a")
            is(^Who, "a")
            is(who, "a")^;
        """)
        for other in "ABZ!#$%&'*+:;<=>?@[\\]_`|~\t\r":
            self.refused("^" + other)
            self.refused("is(^" + other + 'who, "a")')
            self.refused('is(who, "a")^' + other)
            self.refused("is(who^" + other + ', "a")')

    def test_names_without_an_end(self):
        self.refused_all("""
            is(^"ann, who)
            is(who, ^"
            is(who, ^"ann
            is(who, ^"ann bob")
            is(who, ^" ")
            is(who, ^"Ann")
            is(who, ^"a1")
            is(who, ^"ann, "bob")
            is(who, ""^")
            within(s, {^"a, "b"})
            under(p, /^"a/"b")
        """)

    def test_bad_integers(self):
        self.refused_all("""
            most(x, y, ^00)
            most(x, y, ^07)
            most(x, y, ^-0)
            most(x, y, ^-07)
            most(x, y, ^-00)
            most(x, y, ^-)
            most(x, y, ^- 3)
            most(x, y, ^--3)
            most(x, y, ^-a)
            most(x, y, 3^-)
            most(^00, y, 1)
            is(p.^00, who)
            is(p.^01, who)
            is(p.^-0, who)
            is(p.^-, who)
        """)
        self.refused("most(x, y, ^" + "1" * 61 + ")")
        self.refused("most(x, y, ^-" + "1" * 61 + ")")
        self.refused("most(x, y, ^" + "0" * 61 + ")")
        self.refused("is(p.^" + "1" * 61 + ", who)")
        self.refused("most(x, y, ^" + "7" * 5000 + ")")

    def test_tokens_that_cannot_stand_there(self):
        self.refused_all("""
            ^who
            ^permit
            ^true
            ^yesno
            ^"yes"
            ^(yes)
            ^0
            ^)
            yes^()
            no^)
            yes ^yes
            yes^, no
            is ^is
            is ^who
            is(^(
            is(^)
            is(^3, who)
            is(who^)
            is(who.^who)
            is(who ^who)
            is(who, who^, who)
            is(who, ^)
            is(who,^,)
            is(who, ^5)
            is(who, ^/)
            is("a"^.0, who)
            is(p.^q, who)
            is(p.^), who)
            is(p.0^.0, who)
            is(p.0 ^0, who)
            in(who, ^"s")
            in(who, s^.0)
            in(who, ^{})
            in(who, ^0)
            within(^"s", t)
            within(s^.0, t)
            within(s, ^0)
            within(s, ^"a")
            within(s, t^.0)
            within(s, {^a})
            within(s, {^,})
            within(s, {"a" ^"b"})
            within(s, {"a",^})
            within(s, {"a",^,"b"})
            within(s, {"a"^)
            within(s, {^{}})
            within(s, {^5})
            within(s, {"a", ^5})
            within(s, {"a", ^b})
            within(s, {"a", ^-})
            within(s, {}^, t)
            most(^"x", y, 0)
            most(x^.0, y, 0)
            most(^1, y, 0)
            most(^-1, y, 0)
            most(x, ^5, 0)
            most(x, ^-3)
            most(x, y^)
            most(x, y, ^z)
            most(x, y, ^"z")
            most(x, y, 3^.0)
            most(x, y, 3^q)
            is(p.4^q, who)
            ^qyes
            ^q yes
            most(x, y, 3^, 4)
            member(^5, g)
            member(who, ^"g")
            member(who, g^.0)
            under(^"p", /)
            under(p^.0, /)
            under(p, ^who)
            under(p, ^"a")
            under(p, ^)
            under(p, /^/)
            under(p, /who ^who)
            under(p, /who/^)
            under(p, /who/^/)
            under(p, /^0)
            under(p, /^{)
            under(p, /^,)
            under(p, /who.0^.0)
            under(p, /"a"^.0)
            at(p, ^)
            at(p, /who^, who)
            not(^)
            not(yes^, no)
            not(^who)
            all(^,)
            all(yes ^no)
            all(yes,^)
            all(yes,^,no)
            all(^"a")
            any(^who)
            any(no, ^0)
            any(no^.)
        """)
        self.refused("is^")
        self.refused('^"')

    def test_index_of_a_part(self):
        for index in (41, 42, 100, -1, -40, -41, 10 ** 59):
            self.refused(f"is(p.^{index}, who)")
            self.refused(f"in(p . ^{index}, who)")
            self.refused(f"member(p.^{index}, g)")
            self.refused(f"under(p, /q.^{index})")
            self.refused(f"is(who, p.^{index}")
        self.assertEqual(read_condition("in(p.40, s)"), ("in", ("part", "p", 40), "s"))
        self.assertEqual(read_condition("in(p.0, s)"), ("in", ("part", "p", 0), "s"))

    def test_the_blank_and_the_order_of_names(self):
        self.refused_all("""
            under(p, /^"")
            at(p, /"a"/^"")
            at(p, /^""/"a")
            within(s, {^""})
            within(s, {"a", ^""})
            within(s, {^"", "a"})
            within(s, {"b", ^"a"})
            within(s, {"a", ^"a"})
            within(s, {"aa", ^"a"})
            within(s, {"a", "c", ^"b"})
            within(s, {"a", "b", ^"a", ""})
            within(s, {"z", ^"aa"})
        """)

    def test_the_forty_first_term(self):
        for term in ("who", '"a"', "p.40"):
            for kind in ("under", "at"):
                forty = "/" + "/".join([term] * 40)
                read_condition(f"{kind}(p, {forty})")
                self.refused(f"{kind}(p, {forty}^/{term})")
                self.refused(f"{kind}(p, {forty}^/)")
                self.refused(f'{kind}(p, {forty} ^/ "")')

    def test_a_name_as_the_term_of_member(self):
        self.refused_all("""
            member(^"ann", g)
            member(^"", g)
            all(yes, member( ^"ann", g))
        """)

    def test_depth(self):
        for deepest in ("yes", "all()", "not(yes)", "is(who, who)", "who", "", ")", "5", '"'):
            self.refused("not(" * 12 + "^" + deepest + ")" * 12)
            self.refused("all(yes, " * 11 + "not(^" + deepest + ")" * 12)
            self.refused("any(all(), " * 11 + "not( ^" + deepest + ", who)")
        for kind in ("all", "any"):
            self.refused(f"{kind}(yes, " * 11 + f"{kind}(^yes, who)")
            self.refused(f"{kind}(yes, " * 11 + f"{kind}( ^#")
        read_condition("not(" * 11 + "all()" + ")" * 11)
        self.refused("not(" * 11 + "not(^yes)" + ")" * 11)
        self.refused("not(" * 11 + "not^)" + ")" * 11)
        self.refused("not(" * 11 + "any(^no)" + ")" * 11)
        self.refused("not(" * 11 + "any(^,)" + ")" * 11)
        self.refused("not(" * 12 + "^" + "not(" * 88 + "yes" + ")" * 100)

    def test_the_end_of_the_text(self):
        self.refused_all("""
            not(yes^
            all(yes,^
            all(^
            most(x, y, 3^
            under(p, /^
            under(p, /who^
            within(s, {^
            within(s, {"a"^
            within(s, {"a",^
            is(p.^
            is(p.0^
        """)
        self.refused("^")
        self.refused("   ^")
        self.refused("not(yes  ^")
        self.refused("all(yes,   ^")
        self.refused("is^")
        self.refused("is   ^")
        self.refused("not(" * 12 + "^")

    def test_anything_behind_the_end(self):
        for rest in ("yes", "(", ")", ",", ".", "/", '"a"', "5", "-", "#", "\n", "\t", '"'):
            self.refused("not(yes)^" + rest)
            self.refused("not(yes)  ^" + rest)

    def test_the_first_of_several_faults_counts(self):
        self.refused_all("""
            all(^#, who #
            is(who ^"ann), Who
            ^who #
            all(yes, is(p.^99, #), member("a", g))
            within(s, {"b", ^"a", ""}) #
            under(p, /^""/q.99)
            member(^"ann" 0
            yes ^no #
            most(^7, 007, 1)
        """)

    def test_every_place_of_random_conditions(self):
        """The text breaks off, or something that never fits stands, before any of its tokens."""
        dice = random.Random(14)
        for _ in range(150):
            tokens = tokens_of(write_condition(random_condition(dice, 4)))
            for place in range(len(tokens)):
                begin = joined(dice, tokens[:place])
                self.refused(begin + "^")
                self.refused(begin + "^#" + "".join(tokens[place:]))
                self.refused(begin + ' ^" ' + joined(dice, tokens[place:]))
                self.refused(begin + "^:" + "#" * dice.randrange(3))


class ReadBookTest(Marked):
    def bad(self, marked):
        self.refused(marked, read_book)

    def test_books(self):
        self.assertEqual(read_book(""), ())
        self.assertEqual(read_book("permit a 0 yes\n"), (("a", "permit", 0, ("true",)),))
        self.assertEqual(
            read_book("forbid a -12 not(no)\npermit aa 7 yes\npermit b 0 all()\n"),
            (
                ("a", "forbid", -12, ("not", ("false",))), ("aa", "permit", 7, ("true",)),
                ("b", "permit", 0, ("all", ())),
            ),
        )

    def test_spaces(self):
        book = (("a", "permit", 5, ("true",)), ("b", "forbid", -5, ("most", "x", "", -3)))
        self.assertEqual(read_book("  permit   a  5   yes  \nforbid b -5 most( x,0 ,-3 )\n"), book)
        self.assertEqual(read_book("permit a5yes\nforbid b-5most(x,0,-3)\n"), book)

    def test_names_and_ranks(self):
        big = int("9" * 60)
        for rank in (0, 1, -1, big, -big):
            for name in ("a", "permit", "forbid", "yes", "gran", "agrant", "grap", "z" * 50):
                book = ((name, "permit", rank, ("true",)),)
                self.assertEqual(read_book(f"permit {name} {rank} yes\n"), book)
                self.assertEqual(read_book(write_book(book)), book)

    def test_written_books_are_read_again(self):
        dice = random.Random(15)
        for size in range(20):
            names = sorted({"".join(dice.choice("abgrz") for _ in range(dice.randrange(1, 4))) for _ in range(size)})
            book = tuple(
                (name, dice.choice(("permit", "forbid")), dice.randrange(-99, 99), random_condition(dice, 3))
                for name in names
            )
            text = write_book(book)
            self.assertEqual(read_book(text), book)
            lines = [joined(dice, tokens_of(line)) + "\n" for line in text.splitlines()]
            self.assertEqual(read_book("".join(lines)), book)
            self.assertEqual(write_book(read_book("".join(lines))), text)

    def test_effects(self):
        for effect in ("allow", "permits", "Permit", '"permit"', "0", "yes", "a", "(", "deny", "forbidden"):
            self.bad(f"^{effect} a 0 yes\n")
            self.bad(f"permit a 0 yes\n  ^{effect} b 0 yes\n")
        self.bad("^permita 0 yes\n")

    def test_names(self):
        self.bad('permit ^"a" 0 yes\n')
        self.bad("permit ^0 yes\n")
        self.bad("permit ^A 0 yes\n")
        for name in ("5", "-5", '"b"', "(", "-", "B"):
            self.bad(f"permit a 0 yes\npermit ^{name} 0 yes\n")
        self.bad("permit ^( 0 yes\n")
        for name in ("grant", "granta", "grants", "granted", "grantgrant"):
            self.bad(f"permit ^{name} 0 yes\n")
            self.bad(f"permit a 0 yes\npermit ^{name} 0 yes\n")
        for name in ("m", "a", "l", "mm", "ma"):
            first = "mm" if name == "mm" else "mb"
            self.bad(f"permit {first} 0 yes\npermit ^{name} 0 yes\n")
        self.bad("permit a 0 yes\npermit c 0 yes\npermit ^b 0 yes\n")
        self.bad("permit b 0 yes\npermit ^a 0 #\n")

    def test_ranks(self):
        for rank in ("a", '"0"', "00", "-0", "07", "-", "yes", "(", "1" * 61):
            self.bad(f"permit a ^{rank} yes\n")
        self.bad("permit a ^yes\n")
        self.bad("permit a 1^-1 yes\n")
        self.bad("permit a 1^.0 yes\n")

    def test_conditions(self):
        self.bad("permit a 0 ^who\n")
        self.bad("permit a 0 is(who ^who)\n")
        self.bad("permit a 0 yes\npermit b 0 all(yes, ^)\n")
        self.bad("permit a 0 yes^, no\n")
        self.bad("permit a 0 yes ^permit b 0 yes\n")
        self.bad("permit a 0 " + "not(" * 12 + "^yes" + ")" * 12 + "\n")
        self.bad("permit a 0 yes^\t\n")
        self.bad("permit a 0 yes^\r\n")

    def test_lines_that_end_too_early(self):
        self.bad("permit^\n")
        self.bad("permit  ^\n")
        self.bad("permit a^\n")
        self.bad("permit a 0^\n")
        self.bad("permit a 0 ^\n")
        self.bad("permit a 0 not(yes^\n")
        self.bad("permit a 0 yes\npermit b 0 all(yes,^\npermit c 0 yes\n")

    def test_empty_lines_and_lines_of_spaces(self):
        self.bad("^\n")
        self.bad("^\n\n")
        self.bad("   ^\n")
        self.bad("^\npermit a 0 yes\n")
        self.bad("permit a 0 yes\n^\n")
        self.bad("permit a 0 yes\n^\npermit b 0 yes\n")
        self.bad("permit a 0 yes\n  ^\npermit b 0 yes\n")

    def test_a_last_line_without_a_newline(self):
        self.bad("permit a 0 yes^")
        self.bad("permit a 0 yes  ^")
        self.bad("permit a 0 yes\npermit b 0 yes^")
        self.bad("permit a 0 yes\npermit b 0 ^who")
        self.bad("permit a 0 yes\npermit ^a 0 yes")
        self.bad("permit a 0 yes\npermit ^granta 0 yes")
        self.bad("permit a 0 yes\n^allow")
        self.bad("permit a 0 yes\n ^")
        self.bad("permit a 0 yes\npermit b^")
        self.bad(" ^")
        self.bad("^#")

    def test_the_first_faulty_line_counts(self):
        self.bad("permit a 0 yes\npermit b 0 ^who\nallow c\n")
        self.bad("permit b 0 yes\npermit ^a 0 yes\npermit granta 0 yes\n")
        self.bad("permit a ^b 0 yes\n\npermit")
        self.bad("permit a 0 ^#\n#")


if __name__ == "__main__":
    unittest.main()
