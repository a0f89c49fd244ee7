"""Promises 100 to 104, and what 6 says of the whole program, asked through a desk."""

import unittest

from lackword.asking import ask
from lackword.backing import strip_of
from lackword.bands import Plain
from lackword.desk import Desk
from lackword.errors import (
    Bare, Endless, Full, Inside, LackError, NameThere, NoBack, NoKinds, NoLength, NoLine, NoList, NoName, NoPlace,
    NoRing, NoWord, Split, TooLong,
)
from lackword.lists import shows_endless, shows_inside, shows_long, shows_split
from lackword.lone import lone
from lackword.machine import Machine
from lackword.rings import Ring
from lackword.strips import Strip
from tests.helper import WRONG_THINGS, all_texts, edge_texts, lacking_of, made, mixed_text

FORTY = mixed_text("abcd", 40)

# Each line that there is, as a desk over abd with the strips x and y answers
# it.
GOOD_LINES = [
    "strip n", "take x", "put x a", "drop x", "back x", "from n a b d", "names", "text x", "lacks x", "ask x ab",
    "often x ab", "most x 2", "lone x 0", "rooms x", "near x", "ring ab", "same ab ba",
]
# Lines that ask, of whatever strip the name is put in.
ASKING = [
    "text {}", "lacks {}", "ask {} -", "ask {} a", "ask {} abba", "ask {} ddaab", "often {} -", "often {} a",
    "often {} ab", "most {} 1", "most {} 2", "most {} 40", "lone {} 0", "lone {} 3", "rooms {}", "near {}",
]


def desk_of(texts, kinds):
    """A desk to which strips with these letters are told, by the names that the dict tells."""
    desk = Desk(kinds)
    for name in texts:
        desk.say("strip " + name)
        for letter in texts[name]:
            desk.say("put " + name + " " + letter)
    return desk


def answer_or_refusal(desk, line):
    try:
        return desk.say(line)
    except LackError as refusal:
        return (type(refusal), vars(refusal))


def whole_state(desk):
    """All that a desk can tell of its strips, deeds that stand left out."""
    names = desk.say("names")
    return [names] + [
        answer_or_refusal(desk, line.format(name)) for name in names.split() if name != "-" for line in ASKING
    ]


class DeskCase(unittest.TestCase):
    def check_refused(self, desk, line, refusal, **fields):
        before = whole_state(desk)
        for _ in range(2):
            with self.subTest(line=line), self.assertRaises(LackError) as caught:
                desk.say(line)
            self.assertIs(type(caught.exception), refusal, line)
            self.assertEqual(vars(caught.exception), fields, line)
        self.assertEqual(whole_state(desk), before)

    def check_said(self, desk, told):
        for line, answer in told:
            self.assertEqual(desk.say(line), answer, line)


class TestBeginning(DeskCase):
    def test_a_new_desk(self):
        for kinds in ("a", "z", "abd", "wxyz"):
            desk = Desk(kinds)
            self.check_said(desk, [("names", "-"), ("strip x", "ok"), ("names", "x"), ("text x", "-")])
            self.assertEqual(desk.say("lacks x"), " ".join(kinds))

    def test_kinds_are_refused(self):
        for thing in WRONG_THINGS + ["", "ba", "aa", "abcde"]:
            with self.subTest(thing=thing), self.assertRaises(NoKinds):
                Desk(thing)

    def test_two_desks_have_nothing_in_common(self):
        one, other = Desk("ab"), Desk("ab")
        one.say("strip x")
        self.assertEqual(other.say("names"), "-")


class TestLinesThatChange(DeskCase):
    def test_strip_and_take(self):
        desk = Desk("ab")
        self.check_said(desk, [
            ("strip b", "ok"), ("strip abcdefgh", "ok"), ("strip ab", "ok"), ("names", "ab abcdefgh b"),
            ("take ab", "ok"), ("names", "abcdefgh b"), ("take b", "ok"), ("take abcdefgh", "ok"), ("names", "-"),
            ("strip b", "ok"), ("text b", "-"), ("names", "b"),
        ])

    def test_names_that_are_words_of_lines(self):
        desk = Desk("ab")
        for name in ("strip", "names", "ok", "from"):
            self.check_said(desk, [("strip " + name, "ok"), ("put " + name + " a", "aa / a"), ("text " + name, "a")])
        self.assertEqual(desk.say("names"), "from names ok strip")

    def test_put_drop_and_back(self):
        desk = Desk("ab")
        self.check_said(desk, [
            ("strip x", "ok"), ("put x a", "aa / a"), ("put x b", "ba bb / b"), ("drop x", "a / aa ba"),
            ("back x", "aa ba / a"), ("text x", "ab"), ("lacks x", "aa ba bb"), ("back x", "b / ba bb"),
            ("back x", "a / aa"), ("text x", "-"),
        ])

    def test_answers_are_what_the_strip_tells(self):
        desk, strip = Desk("abd"), Strip("abd")
        desk.say("strip x")
        for sign in mixed_text("abd", 45)[:38] + "--a-<<b-<d<-ab-<<<--" + "-" * 30 + "<" * 60:
            if sign == "-":
                told, answer = strip.drop(), desk.say("drop x")
            elif sign == "<":
                told, answer = strip.back(), desk.say("back x")
            else:
                told, answer = strip.put(sign), desk.say("put x " + sign)
            came, went = [" ".join(word for word, _ in part) or "-" for part in told]
            self.assertEqual(answer, came + " / " + went)
            self.assertEqual(desk.say("text x"), strip.text() or "-")

    def test_from_lays_the_strip_of_a_list(self):
        desk = Desk("ab")
        self.check_said(desk, [
            ("from x bb aaa bab aaba", "abaab"), ("text x", "abaab"), ("lacks x", "bb aaa bab aaba"),
            ("from y aaba bab aaa bb", "abaab"), ("near x", "x:0/1 y:0/1"), ("from z a b", "-"), ("text z", "-"),
            ("from w b a", "-"), ("names", "w x y z"),
        ])

    def test_from_with_one_list_word(self):
        desk = Desk("a")
        self.check_said(desk, [("from x a", "-"), ("from y aa", "a"), ("from z " + "a" * 41, "a" * 40)])

    def test_the_letters_were_put_one_by_one(self):
        desk = Desk("ab")
        desk.say("from x bb aaa bab aaba")
        strip = made("abaab", "ab")
        for text in ("abaa", "aba", "ab", "a", ""):
            came, went = [" ".join(word for word, _ in part) or "-" for part in strip.back()]
            self.check_said(desk, [("back x", came + " / " + went), ("text x", text or "-")])
        self.check_refused(desk, "back x", NoBack)
        desk.say("from y a b")
        self.check_refused(desk, "back y", NoBack)

    def test_each_strip_from_its_own_list(self):
        for kinds, texts in (("ab", all_texts("ab", 5)), ("abcd", edge_texts()[:14])):
            for text in texts:
                line = "from x " + " ".join(reversed(lacking_of(text, kinds)))
                if len(line) <= 1000:
                    desk = Desk(kinds)
                    self.check_said(desk, [(line, text or "-"), ("text x", text or "-")])
                    self.assertEqual(desk.say("lacks x"), " ".join(lacking_of(text, kinds)))


class TestLinesThatAsk(DeskCase):
    def test_a_small_strip(self):
        desk = desk_of({"x": "abaab"}, "ab")
        self.check_said(desk, [
            ("names", "x"), ("text x", "abaab"), ("lacks x", "bb aaa bab aaba"),
            ("ask x aab", "there 2"), ("ask x ab", "there 0"), ("ask x -", "there 0"), ("ask x abba", "lacks bb 1"),
            ("ask x ababb", "lacks bab 1"), ("ask x " + "a" * 60, "lacks aaa 0"),
            ("often x a", "3 0 3"), ("often x aab", "1 2 2"), ("often x -", "6 0 5"), ("often x bb", "0"),
            ("often x " + "b" * 60, "0"),
            ("most x 1", "a 3"), ("most x 2", "ab 2"), ("most x 5", "abaab 1"),
            ("lone x 0", "0 aba"), ("lone x 2", "1 ba"), ("lone x 4", "2 aab"),
            ("rooms x", "6 12"), ("near x", "x:0/1"),
        ])

    def test_a_strip_without_letters(self):
        desk = desk_of({"x": ""}, "abcd")
        self.check_said(desk, [
            ("text x", "-"), ("lacks x", "a b c d"), ("ask x -", "there 0"), ("ask x db", "lacks d 0"),
            ("often x -", "1 0 0"), ("often x a", "0"), ("rooms x", "1 1"), ("near x", "x:0/1"),
        ])

    def test_numbers_of_one_and_of_two_figures(self):
        desk = desk_of({"x": FORTY}, "abcd")
        strip = Plain(FORTY, "abcd")
        self.check_said(desk, [
            ("most x 40", FORTY + " 1"), ("most x 10", strip.words(10)[0] + " 1"),
            ("lone x 9", "{} {}".format(*lone(strip, 9))), ("lone x 39", "{} {}".format(*lone(strip, 39))),
            ("ask x " + FORTY[30:], "there 30"), ("often x -", "41 0 40"),
        ])

    def test_near_ranks_the_whole_shelf(self):
        desk = desk_of({"long": "abaab", "bare": "", "short": "aba", "again": "aba"}, "ab")
        self.check_said(desk, [
            ("near short", "again:0/1 short:0/1 long:61/144 bare:47/18"),
            ("near again", "again:0/1 short:0/1 long:61/144 bare:47/18"),
            ("near bare", "bare:0/1 long:365/144 again:47/18 short:47/18"),
            ("near long", "long:0/1 again:61/144 short:61/144 bare:365/144"),
        ])
        desk = desk_of({"one": "a", "two": "bc"}, "abc")
        self.check_said(desk, [("near one", "one:0/1 two:4/1"), ("near two", "two:0/1 one:4/1")])

    def test_twelve_names(self):
        texts = {"n" + letter: text for letter, text in zip("lkjihgfedcba", all_texts("ab", 3))}
        desk = desk_of(texts, "ab")
        self.assertEqual(desk.say("names"), " ".join(sorted(texts)))
        told = desk.say("near nl").split(" ")
        self.assertEqual(len(told), 12)
        self.assertEqual(told[0], "nl:0/1")
        self.assertEqual(sorted(part.split(":")[0] for part in told), sorted(texts))

    def test_rings(self):
        desk = Desk("ab")
        self.check_said(desk, [
            ("ring aabaab", "aab / bb aaa bab"), ("ring a", "a / b"), ("ring ab", "ab / aa bb"),
            ("ring " + "b" * 20, "b / a"), ("same aabaab baa", "same aab 2"), ("same ab abab", "same ab 0"),
            ("same ab aabaab", "unlike aa"), ("same a b", "unlike a"), ("same b bbb", "same b 0"), ("names", "-"),
        ])
        self.check_said(Desk("a"), [("ring aaa", "a / -"), ("ring a", "a / -"), ("same a aa", "same a 0")])
        twenty = mixed_text("abcd", 20)
        desk = Desk("abcd")
        self.assertEqual(desk.say("ring " + twenty), twenty + " / " + " ".join(Ring(twenty, "abcd").lacking()))
        self.assertEqual(desk.say("same " + twenty + " " + twenty[13:] + twenty[:13]), "same " + twenty + " 13")

    def test_all_short_texts_against_the_calls(self):
        for kinds, most in (("a", 4), ("ab", 3), ("wxyz", 1)):
            for text in all_texts(kinds, most):
                desk, strip = desk_of({"x": text}, kinds), Plain(text, kinds)
                for word in all_texts(kinds, 3):
                    told = " ".join(str(part) for part in ask(strip, word))
                    self.assertEqual(desk.say("ask x " + (word or "-")), told)
                    found = [at for at in range(len(text) + 1) if text[at:].startswith(word)]
                    expected = "{} {} {}".format(len(found), found[0], found[-1]) if found else "0"
                    self.assertEqual(desk.say("often x " + (word or "-")), expected)
                machine = Machine(text, kinds)
                self.assertEqual(desk.say("rooms x"), "{} {}".format(machine.rooms(), machine.ways()))
                self.assertEqual(desk.say("lacks x"), " ".join(lacking_of(text, kinds)))

    def test_lines_that_ask_change_nothing(self):
        desk = desk_of({"x": "abaab", "y": "ab"}, "ab")
        before = whole_state(desk)
        self.assertEqual(whole_state(desk), before)
        self.check_said(desk, [("back x", "aab / aaba"), ("text x", "abaa")])


class TestNoLine(DeskCase):
    def setUp(self):
        self.desk = desk_of({"x": "abdab", "y": "d"}, "abd")

    def refused(self, lines):
        for line in lines:
            self.check_refused(self.desk, line, NoLine)

    def test_good_lines_are_none_of_these(self):
        for line in GOOD_LINES:
            desk_of({"x": "abdab", "y": "d"}, "abd").say(line)

    def test_other_first_words(self):
        self.refused([
            "", "x", "ok", "-", "0", "name", "strips", "strip_of", "laid x", "put", "lay x", "STRIP n", "Strip n",
            "Names", "names-", "shelf", "from", "where x a", "doubles x 0", "text,x", "x text", "~", "?", "say names",
        ])

    def test_blanks(self):
        for line in GOOD_LINES:
            self.refused([" " + line, line + " ", "  " + line, line + "  "])
            if " " in line:
                self.refused([line.replace(" ", "  "), line.replace(" ", "  ", 1), line.replace(" ", "\t")])
                self.refused([line.replace(" ", ""), line.replace(" ", "-"), line.replace(" ", " \n")])
        self.refused([" ", "  ", "   ", "names ", " names", "put x  a", "put  x a", "from n a  b", "from n a b d "])

    def test_a_word_without_signs(self):
        for line in GOOD_LINES:
            words = line.split(" ")
            for at in range(len(words)):
                self.refused([" ".join(words[:at] + [""] + words[at + 1:])])

    def test_words_too_many_or_too_few(self):
        for line in GOOD_LINES:
            words = line.split(" ")
            if words[0] != "from":
                for more in ("x", "a", "-", "0", "a b"):
                    self.refused([line + " " + more])
            for size in range(1, len(words)):
                if words[0] != "from" or size < 3:
                    self.refused([" ".join(words[:size])])
        self.refused(["from", "from n", "names x", "same ab", "same ab ba ab", "ring", "put x", "put x a a"])

    def test_what_is_no_name(self):
        for name in ("-", "N", "Xx", "x1", "1", "0", "x-", "x_", "x/", "abcdefghi", "z" * 100, "x\n", "\u00e4"):
            for line in GOOD_LINES:
                words = line.split(" ")
                if words[0] not in ("names", "ring", "same"):
                    self.refused([" ".join([words[0], name] + words[2:])])

    def test_what_are_no_letters(self):
        for word in ("A", "aB", "1", "0", "a1", "--", "-a", "a-", "a.", "_", "a_b", "a,b", "/", "\u00e4", "a\n"):
            self.refused(["put x " + word, "ask x " + word, "often x " + word, "ring " + word])
            self.refused(["same " + word + " ab", "same ab " + word, "same " + word + " " + word])
            self.refused(["from n " + word, "from n a b " + word, "from n " + word + " a b"])

    def test_what_is_no_number(self):
        for word in (
            "-", "a", "-1", "+1", "01", "00", "000", "001", "010", "0000", "1000", "1234", "9" * 100, "1.", "1a", "a1",
            "1_0", "0x1", "\u0661", "\u00b2", "\uff11",
        ):
            self.refused(["most x " + word, "lone x " + word])

    def test_ahead_of_names_and_all_else(self):
        self.refused([
            "strip x x", "take n n", "put n A", "put n a a", "from x A", "from x a -a", "from x", "ask n 1",
            "most n 01", "lone n 1000", "near n n", "drop n ", "same - A", "ring",
        ])

    def test_a_long_line(self):
        self.refused(["names" + " " * 995, "z" * 1000, "text " + "x" * 995, "most x " + "1" * 993, "~" * 1000])

    def test_what_is_no_text(self):
        for thing in WRONG_THINGS:
            with self.subTest(thing=thing), self.assertRaises(NoLine):
                self.desk.say(thing)


class TestNamesRefused(DeskCase):
    def test_a_name_that_is_there(self):
        desk = desk_of({"x": "ab", "abcdefgh": ""}, "ab")
        for name in ("x", "abcdefgh"):
            self.check_refused(desk, "strip " + name, NameThere, name=name)
            # Whatever the list is.
            for words in ("a b", "-", "a a", "a ab", "bb", "c", "a" * 42, "ab ba aaaa bbbb"):
                self.check_refused(desk, "from " + name + " " + words, NameThere, name=name)

    def test_a_name_that_is_not_there(self):
        for desk in (Desk("ab"), desk_of({"x": "ab"}, "ab")):
            for name in ("n", "xx", "abcdefgh"):
                for line in (
                    "take {}", "put {} a", "put {} -", "put {} ab", "put {} c", "drop {}", "back {}", "text {}",
                    "lacks {}", "ask {} a", "ask {} c", "ask {} " + "a" * 61, "often {} a", "often {} c", "most {} 1",
                    "most {} 0", "most {} 999", "lone {} 0", "lone {} 999", "rooms {}", "near {}",
                ):
                    self.check_refused(desk, line.format(name), NoName, name=name)

    def test_a_name_that_was_taken(self):
        desk = desk_of({"x": "ab", "y": "b"}, "ab")
        desk.say("take x")
        self.check_refused(desk, "text x", NoName, name="x")
        self.check_refused(desk, "take x", NoName, name="x")
        self.check_said(desk, [("strip x", "ok"), ("text x", "-"), ("names", "x y")])


class TestRefusedAsTheCallsRefuse(DeskCase):
    def setUp(self):
        self.desk = desk_of({"x": "abdab", "bare": "", "full": mixed_text("abd", 40)}, "abd")

    def test_words(self):
        for name in ("x", "bare", "full"):
            for word in ("c", "ab", "aa", "z", "abc", "a" * 100):
                self.check_refused(self.desk, "put " + name + " " + word, NoWord, word=word)
            self.check_refused(self.desk, "put " + name + " -", NoWord, word="")
            for word in ("c", "abc", "z" * 60, "a" * 61, "a" * 900):
                self.check_refused(self.desk, "ask " + name + " " + word, NoWord, word=word)
                self.check_refused(self.desk, "often " + name + " " + word, NoWord, word=word)

    def test_full_bare_and_nothing_to_take_back(self):
        for letter in "abd":
            self.check_refused(self.desk, "put full " + letter, Full)
        self.check_refused(self.desk, "drop bare", Bare)
        self.check_refused(self.desk, "back bare", NoBack)
        desk = desk_of({"x": "a"}, "ab")
        self.check_said(desk, [("drop x", "a / aa"), ("back x", "aa / a"), ("back x", "a / aa")])
        self.check_refused(desk, "back x", NoBack)
        self.check_refused(desk, "drop x", Bare)

    def test_lengths_and_places(self):
        for number in (0, 6, 10, 40, 100, 999):
            self.check_refused(self.desk, "most x " + str(number), NoLength, length=number)
        for number in (5, 6, 10, 40, 100, 999):
            self.check_refused(self.desk, "lone x " + str(number), NoPlace, place=number)
        for number in (0, 1, 100):
            self.check_refused(self.desk, "most bare " + str(number), NoLength, length=number)
            self.check_refused(self.desk, "lone bare " + str(number), NoPlace, place=number)
        self.check_refused(self.desk, "most full 41", NoLength, length=41)
        self.check_refused(self.desk, "lone full 40", NoPlace, place=40)

    def test_lists(self):
        for words, word in (
            ("-", ""), ("a - b", ""), ("c", "c"), ("a b c", "c"), ("a b a", "a"), ("aa aa", "aa"), ("abc d abc", "abc"),
            ("a" * 42, "a" * 42), ("a b " + "d" * 42 + " c", "d" * 42),
        ):
            self.check_refused(self.desk, "from n " + words, NoList, word=word)

    def test_a_list_of_more_than_two_hundred_words(self):
        words = [word for word in all_texts("abcd", 4) if word]
        desk = desk_of({"x": "ab"}, "abcd")
        self.check_refused(desk, "from n " + " ".join(words[:201]), NoList, word=None)
        self.check_refused(desk, "from n " + " ".join(words[:200]), Inside, one="a", other="aa")
        self.check_refused(desk, "from n" + " a" * 201, NoList, word=None)
        self.check_refused(desk, "from n" + " a" * 200, NoList, word="a")

    def test_lists_that_belong_to_no_strip(self):
        self.check_shown("a ab d", Inside)
        self.check_shown("a b", Endless)
        self.check_shown("bb d", Endless)
        self.check_shown("b d " + "a" * 41 + " a", Inside)
        self.check_shown("a b dd ddd", Inside)
        self.check_shown("d aa bb abab baba", Split)
        longer = mixed_text("abd", 45)
        self.check_shown(" ".join(lacking_of(longer, "abd")), TooLong)

    def check_shown(self, words, refusal):
        before = whole_state(self.desk)
        with self.assertRaises(LackError) as caught:
            self.desk.say("from n " + words)
        self.assertIs(type(caught.exception), refusal, words)
        told = vars(caught.exception)
        with self.assertRaises(refusal) as again:
            strip_of(words.split(" "), "abd")
        self.assertEqual(vars(again.exception), told)
        listed = words.split(" ")
        shows = {
            Inside: lambda: shows_inside(listed, told["one"], told["other"]),
            Endless: lambda: shows_endless(listed, "abd", told["head"], told["lap"]),
            TooLong: lambda: shows_long(listed, "abd", told["word"]),
            Split: lambda: shows_split(listed, "abd", told["one"], told["other"]),
        }
        self.assertIs(shows[refusal](), True)
        self.assertEqual(whole_state(self.desk), before)

    def test_rings(self):
        for text in ("c", "abc", "z", "a" * 21, "ab" * 11, "a" * 500):
            self.check_refused(self.desk, "ring " + text, NoRing, thing=text)
            self.check_refused(self.desk, "same " + text + " ab", NoRing, thing=text)
            self.check_refused(self.desk, "same ab " + text, NoRing, thing=text)
        self.check_refused(self.desk, "ring -", NoRing, thing="")
        self.check_refused(self.desk, "same - ab", NoRing, thing="")
        self.check_refused(self.desk, "same ab -", NoRing, thing="")

    def test_of_two_rings_the_first_one(self):
        for one, other in (("c", "-"), ("a" * 21, "c"), ("abc", "a" * 21)):
            self.check_refused(self.desk, "same " + one + " " + other, NoRing, thing=one)
        self.check_refused(self.desk, "same - c", NoRing, thing="")


class TestBehindWhateverLines(DeskCase):
    def test_what_is_refused_can_still_be_taken_back_as_before(self):
        desk = desk_of({"x": "ab"}, "ab")
        for line in ("put x c", "put x -", "from x a", "strip x", "most x 9", "text y", "nonsense", "from n a ab"):
            self.assertIsInstance(answer_or_refusal(desk, line), tuple, line)
        self.check_said(desk, [("back x", "b / ba bb"), ("back x", "a / aa"), ("names", "x")])
        self.check_refused(desk, "back x", NoBack)

    def test_as_a_new_desk_to_which_the_strips_were_told(self):
        kinds, names = "abd", ["x", "y", "abcdefgh", "w"]
        desk, deeds = Desk(kinds), {}
        for count, sign in enumerate(mixed_text("abcdefgh", 200)):
            name = names[count * count % 11 % 4]
            self.said(desk, deeds, name, sign, kinds[count * 5 % 7 % 3])
            fresh = desk_of({each: deeds[each][-1] for each in deeds}, kinds)
            self.assertEqual(whole_state(desk), whole_state(fresh))
            for each in deeds:
                text = deeds[each][-1]
                self.assertEqual(desk.say("text " + each), text or "-")
                self.assertEqual(desk.say("lacks " + each), " ".join(lacking_of(text, kinds)))
        self.take_all_back(desk, deeds)

    def said(self, desk, deeds, name, sign, letter):
        """One line is told; beside it the letters are kept that each strip had, deed by deed that stands."""
        if name not in deeds:
            if sign in "abcd":
                self.assertEqual(desk.say("strip " + name), "ok")
                deeds[name] = [""]
            else:
                text = (letter + "ab" + letter)[:"efgh".index(sign) + 1]
                self.assertEqual(desk.say("from " + name + " " + " ".join(lacking_of(text, "abd"))), text)
                deeds[name] = [text[:size] for size in range(len(text) + 1)]
        elif sign in "abcde":
            desk.say("put " + name + " " + letter)
            deeds[name].append(deeds[name][-1] + letter)
        elif sign == "f" and len(deeds[name][-1]) > 4:
            self.assertEqual(desk.say("take " + name), "ok")
            deeds.pop(name)
        elif sign in "fg" and deeds[name][-1]:
            desk.say("drop " + name)
            deeds[name].append(deeds[name][-1][1:])
        elif len(deeds[name]) > 1:
            desk.say("back " + name)
            deeds[name].pop()

    def take_all_back(self, desk, deeds):
        for name in deeds:
            for text in reversed(deeds[name][:-1]):
                desk.say("back " + name)
                self.assertEqual(desk.say("text " + name), text or "-")
            self.check_refused(desk, "back " + name, NoBack)
