"""Promises 23 and 24: how expressions and deeds are written, and the deed that a text writes."""

import random
import unittest

from checks import PERCENT, STRANGE_THINGS, Checks, row
from deeds import EACH_EXPRESSION, EACH_STATEMENT, ME, ONE, X, Chance, shells, sums, wide
from innerlook.deedtext import deed_text, expression_text, read_deed
from innerlook.errors import NoDeed, NoRow, NoText, NoTree
from innerlook.store import Store
from innerlook.trees import LOOKS, is_deed, is_expression

TEXTS = (
    (("lit", 0), "0"), (("lit", -12), "-12"), (("lit", 10 ** 9), "1000000000"), (("lit", None), "none"),
    (("lit", ""), "''"), (("lit", "a (b) [c] x=1 #2 "), "'a (b) [c] x=1 #2 '"), (X, "x"), (ME, "me"),
    (("here",), "here"), (("name", "row"), "row"), (("name", "nones"), "nones"), (("name", "mean"), "mean"),
    (("name", "heres"), "heres"), (("name", "end"), "end"), (("name", "let"), "let"), (("name", "add"), "add"),
    (("add", ONE, X), "(add 1 x)"), (("sub", X, ME), "(sub x me)"), (("less", ("lit", -1), X), "(less -1 x)"),
    (("same", ("here",), ("lit", None)), "(same here none)"), (("row", ()), "(row)"), (("row", (ONE,)), "(row 1)"),
    (("row", (ONE, ("row", ()), X)), "(row 1 (row) x)"), (("part", X, ONE), "(part x 1)"), (("size", X), "(size x)"),
    (("size", ("size", ("size", X))), "(size (size (size x)))"), (("get", ME, ("lit", "a")), "(get me 'a')"),
    (("call", ME, ("lit", "add"), (ONE,), (("by", X),)), "(call me 'add' 1 by=x)"),
    (("call", ME, X, (), ()), "(call me x)"), (("call", ME, X, (ONE, X), ()), "(call me x 1 x)"),
    (("call", ME, X, (), (("b", ONE), ("a", ("add", ONE, X)))), "(call me x b=1 a=(add 1 x))"),
    (("new", X, ()), "(new x)"), (("new", X, (("x", X), ("row", ("row", ())))), "(new x x=x row=(row))"),
    (("onward", (), ()), "(onward)"), (("onward", (X,), (("x", ONE),)), "(onward x x=1)"),
    (("onward", (), (("x", ("lit", "=")),)), "(onward x='=')"), (("look", "sort", (ME,)), "(look sort me)"),
    (("look", "has", (ME, ("lit", "has"))), "(look has me 'has')"), (("look", "narrow", (X, ("row", ()))),
                                                                    "(look narrow x (row))"),
)
STATEMENT_TEXTS = (
    (("let", "x", ONE), "let x 1"), (("let", "let", ("name", "let")), "let let let"),
    (("set", ME, ("lit", "all"), ("call", ME, ("lit", "add"), (ONE,), (("by", X),))),
     "set me 'all' (call me 'add' 1 by=x)"), (("do", ("name", "end")), "do end"), (("give", ("name", "if")), "give if"),
    (("if", X, (), ()), "if x\nend"), (("if", X, (("do", ONE),), ()), "if x\ndo 1\nend"),
    (("if", X, (), (("do", ONE),)), "if x\nelse\ndo 1\nend"),
    (("if", X, (("do", X),), (("do", ONE), ("give", ME))), "if x\ndo x\nelse\ndo 1\ngive me\nend"),
    (("while", X, ()), "while x\nend"), (("while", X, (("if", X, (), ()), ("do", ONE))), "while x\nif x\nend\ndo 1\nend"),
)


def lines(*rows):
    return "\n".join(rows)


class Writing(Checks, unittest.TestCase):

    def test_expressions(self):
        for tree, text in TEXTS:
            self.assertEqual(expression_text(tree), text)
            self.assertEqual(deed_text(("a", (), (("do", tree),))), "deed a ()\ndo " + text)

    def test_looks(self):
        for word, many in LOOKS.items():
            self.assertEqual(expression_text(("look", word, (ME,) * many)), "(look " + word + " me" * many + ")")

    def test_statements(self):
        for tree, text in STATEMENT_TEXTS:
            self.assertEqual(deed_text(("a", (), (tree,))), "deed a ()\n" + text)
        every = deed_text(("a", (), tuple(tree for tree, _ in STATEMENT_TEXTS)))
        self.assertEqual(every, "\n".join(["deed a ()"] + [text for _, text in STATEMENT_TEXTS]))

    def test_heads(self):
        params = (("by", "x"), ("or", "y", "a b"), ("rest", "z"), ("onlyor", "w", None))
        self.assertEqual(deed_text(("deed", params, ())), "deed deed (x y='a b' z.. *w=none)")
        self.assertEqual(deed_text(("abcdefgh", (), ())), "deed abcdefgh ()")

    def test_what_is_no_tree(self):
        for thing in STRANGE_THINGS + EACH_STATEMENT + (None, "x", ("x",), ["me"], ("lit", row()), sums(13), Store()):
            self.refused(NoTree, thing, expression_text, thing)
        for thing in STRANGE_THINGS + EACH_STATEMENT + EACH_EXPRESSION + (None, "deed a ()", ("a", (), []), Store()):
            # These two are trees, but deeds of these titles, too.
            if thing not in (("row", (), ()), ("onward", (), ())):
                self.refused(NoDeed, thing, deed_text, thing)
        for thing in (("me", (), ()), ("a", (("by", "me"),), ()), ("a", (), (("do", X),) * 13)):
            self.refused(NoDeed, thing, deed_text, thing)


class Reading(Checks, unittest.TestCase):

    def stops_at(self, at, *rows):
        text = lines(*rows)
        with self.assertRaises(NoRow) as caught:
            read_deed(text)
        self.assertIs(caught.exception.__class__, NoRow)
        self.assertEqual(caught.exception.at, at, text)

    def test_what_is_written_is_read_as_the_same(self):
        for tree, _ in TEXTS:
            deed = ("a", (), (("do", tree),))
            self.assertEqual(read_deed(deed_text(deed)), deed)
        for tree in EACH_EXPRESSION:
            deed = ("a", (), (("set", tree, tree, tree), ("give", tree)))
            self.assertEqual(read_deed(deed_text(deed)), deed)
        deed = ("a", (("by", "x"), ("or", "y", "a b"), ("rest", "z"), ("onlyor", "w", None)), EACH_STATEMENT)
        self.assertEqual(read_deed(deed_text(deed)), deed)
        for tree, _ in STATEMENT_TEXTS:
            deed = ("a", (), (tree, tree))
            self.assertEqual(read_deed(deed_text(deed)), deed)

    def test_deeds_by_chance_are_read_as_the_same(self):
        for seed in range(400):
            deed = Chance(seed).deed()
            if is_deed(deed):
                text = deed_text(deed)
                self.assertEqual(read_deed(text), deed)
                self.assertEqual(deed_text(read_deed(text)), text)

    def test_deeds_at_the_bounds_are_read_as_the_same(self):
        args = (ONE,) * 6
        named = tuple((name, X) for name in "abcdef")
        for block in (wide(400), (("do", ONE),) * 12, (("if", ONE, (("do", X),) * 12, (("do", X),) * 12),),
                      (("do", sums(11)),), (shells(10, ("do", ONE)),), (shells(10, ("do", ONE), "if"),),
                      (shells(10, ("while", ONE, ())),), (("do", ("call", ME, X, args, named)),),
                      (("do", ("lit", "x" * 60)),) * 12):
            deed = ("a", (), block)
            self.assertTrue(is_deed(deed))
            self.assertEqual(read_deed(deed_text(deed)), deed)

    def test_the_tuples_are_tuples(self):
        deed = read_deed("deed a (x)\nif 1\ndo (call me 'a' 1 b=2)\nend")
        self.assertTrue(is_deed(deed))
        self.assertEqual(repr(deed), "('a', (('by', 'x'),), (('if', ('lit', 1), (('do', ('call', ('me',), ('lit', 'a'), "
                         "(('lit', 1),), (('b', ('lit', 2)),))),), ()),))")

    def test_blanks_around_rows_and_rows_of_blanks(self):
        plain = "deed a ()\nif 1\nelse\ndo ' a '\nend"
        for text in ("\n\n  \n   deed a ()   \n\n if 1\n  else  \n\n   do ' a ' \nend\n\n  ", plain + "\n", "\n" + plain,
                     " " + plain + " "):
            self.assertEqual(read_deed(text), read_deed(plain))
            self.assertEqual(deed_text(read_deed(text)), plain)

    def test_what_is_no_text(self):
        for thing in (None, 1, True, [], (), {}, ["deed a ()"], ("deed a ()",), ("a", (), ()), Store()):
            self.refused(NoText, thing, read_deed, thing)

    def test_where_only_rows_lack(self):
        self.stops_at(1, "")
        self.stops_at(1, "   ")
        self.stops_at(3, "", " ", "")
        self.stops_at(2, "deed a ()", "if 1")
        self.stops_at(3, "deed a ()", "if 1", "")
        self.stops_at(3, "deed a ()", "if 1", "else")
        self.stops_at(4, "deed a ()", "if 1", "else", "do 1")
        self.stops_at(4, "deed a ()", "while 1", "while 1", "end")

    def test_heads_that_are_none(self):
        for head in ("deed", "deed a", "deed a(", "deed a()", "deed ()", "deed a (", "deed a ( )", "deed  a ()",
                     "deed a  ()", "deed me ()", "deed none ()", "deed A ()", "deed abcdefghi ()", "deed a (x x)",
                     "deed a () x", "deed a ()()", "Deed a ()", "do 1", "end", "else", "x", "deed a (x=#1)", "()",
                     "deeda ()", "deed a=()", "deed aA()", "deed a (x=[])", "a ()", "deed a (a b c d e f g)", "deed\ta ()"):
            self.stops_at(0, head)
            self.stops_at(1, "", head, "do 1")
            self.stops_at(0, head, "what", "ever")
        for head in ("deed a ()", "deed b (x)", "deed"):
            self.stops_at(1, "deed a ()", head)

    def test_expressions_that_are_none(self):
        for text in ("", "()", "(", ")", "( add 1 2)", "(add 1 2 )", "(add 1  2)", "(add  1 2)", "(add 1 2", "(add 1)",
                     "(add)", "(add 1 2 3)", "(add 1 2))", "(add 1 x=2)", "(add 1,2)", "(size)", "(size 1 2)",
                     "(part 1)", "(get me)", "(get me 'a' 1)", "(call me)", "(call)", "(call x=1 me)", "(call me x=1)",
                     "(call me 'a' x=1 2)", "(call me 'a' x=1 x=2)", "(call me 'a' x= 1)", "(call me 'a' x =1)",
                     "(call me 'a' x=)", "(call me 'a' =1)", "(call me 'a' 1=1)", "(call me 'a' me=1)", "(new)",
                     "(new x 1)", "(new x=1)", "(new x a=1 b)", "(new x a=1 a=1)", "(row x=1)", "(row 1,2)", "(row 1 )",
                     "(row (row 1)", "(onward x=1 2)", "(onward", "(look)", "(look sort)", "(look sort me me)",
                     "(look has me)", "(look get me 'a')", "(look text me)", "(look call me)", "(look  sort me)",
                     "(look sort x=me)", "(look 'sort' me)", "(look sort  me)", "(lit 1)", "(lit x)", "(lit sort)", "(name x)", "(name sort)", "(add 1 2]",
                     "(add 1 2x", "(row]", "(row 1'", "(new x a=1}", "(me)", "(here)",
                     "(if 1)", "(do 1)", "(give 1)", "(let x 1)", "(while 1)", "(set me 'a' 1)", "(x)", "(1)", "('a')",
                     "#1", "[]", "[1]", "'a", "a'", "'a'b'", "''x", "01", "-0", "-", "--1", "+1", "1.", "1000000001",
                     "-1000000001", "9" * 5000, "1x", "A", "x1", "abcdefghi", "nonenonen", "mehereme1", "x y", "1 2",
                     "'" + "x" * 61 + "'", "'" + PERCENT + "'", "'\t'", "\u00e9", "True", "None", "x=1", "(row 1 2 3 4 5 6 7)",
                     "(call me 'a' 1 2 3 4 5 6 7)", "(onward a=1 b=1 c=1 d=1 e=1 f=1 g=1)", "(" * 2000, "(size " * 900,
                     "(size " * 900 + "x" + ")" * 900, "(row\t1)", "(row 1\t)", "none none", "noneX"):
            for row_text in ("do " + text, "give " + text, "let x " + text, "set me " + text + " 1", "if " + text,
                             "set " + text + " 'a' 1", "set me 'a' " + text, "while " + text):
                self.stops_at(1, "deed a ()", row_text, "what", "ever")
            self.stops_at(2, "deed a ()", "do 1", "do " + text)

    def test_rows_that_are_none(self):
        for row_text in ("let", "let x", "let 1 1", "let me 1", "let none 1", "let abcdefghi 1", "let x  1", "let  x 1",
                         "let x=1", "let x 1 2", "set", "set me", "set me 'a'", "set me 'a' 1 2", "set  me 'a' 1", "do",
                         "do  1", "do 1 2", "do1", "do(row)", "do\t1", "give", "give 1 2", "if", "if 1 2", "ifx", "while",
                         "while 1 1", "end", "else", "end 1", "else 1", "END", "Do 1", "x", "1", "(row)", "deed b ()",
                         "done", "elsewhere", "give 1 end", "lit 1", "me", "add 1 2", "do 1;", "#"):
            self.stops_at(1, "deed a ()", row_text, "what", "ever")
            self.stops_at(4, "deed a ()", "", "do 1", "", row_text)

    def test_end_and_else_where_they_may_not_stand(self):
        self.stops_at(3, "deed a ()", "if 1", "end", "end")
        self.stops_at(3, "deed a ()", "if 1", "end", "else")
        self.stops_at(2, "deed a ()", "while 1", "else", "do 1", "end")
        self.stops_at(4, "deed a ()", "if 1", "else", "do 1", "else")
        self.stops_at(3, "deed a ()", "if 1", "else", "end")
        self.stops_at(3, "deed a ()", "if 1", "else", "else")
        self.stops_at(5, "deed a ()", "if 1", "else", "", "", "end")
        self.stops_at(5, "deed a ()", "if 1", "while 1", "end", "else", "end")
        self.stops_at(4, "deed a ()", "if 1", "while 1", "do 1", "else", "end")
        self.stops_at(5, "deed a ()", "do 1", "do 2", "give 3", "", "end")

    def test_twelve_statements_in_each_block(self):
        twelve = ["do 1"] * 12
        self.stops_at(13, "deed a ()", *twelve, "do 1")
        self.stops_at(13, "deed a ()", *twelve, "if 1", "end")
        self.stops_at(13, "deed a ()", *twelve, "while 1", "end")
        self.stops_at(14, "deed a ()", "if 1", *twelve, "do 1", "end")
        self.stops_at(15, "deed a ()", "if 1", "else", *twelve, "do 1", "end")
        self.stops_at(15, "deed a ()", "", "while 1", *twelve, "do 1", "end")
        self.stops_at(24, "deed a ()", *["do 1"] * 11, "if 1", *["do 1"] * 10, "end", "do 1", "do 1")
        self.assertTrue(is_deed(read_deed(lines("deed a ()", "if 1", *twelve, "else", *twelve, "end"))))

    def test_twelve_within_one_another(self):
        for levels in (11, 12):
            text = expression_text(sums(levels))
            if levels == 11:
                self.assertTrue(is_deed(read_deed("deed a ()\ndo " + text)))
            else:
                self.stops_at(1, "deed a ()", "do " + text)
                self.stops_at(1, "deed a ()", "if " + text, "end")
                self.stops_at(1, "deed a ()", "set me 'a' " + text)
        opened = ["while 1"] * 10
        self.assertTrue(is_deed(read_deed(lines("deed a ()", *opened, "do 1", *["end"] * 10))))
        self.stops_at(11, "deed a ()", *opened, "do (size 1)", *["end"] * 10)
        self.stops_at(12, "deed a ()", *opened, "while 1", "do 1", *["end"] * 11)
        self.assertTrue(is_deed(read_deed(lines("deed a ()", *opened, "while 1", *["end"] * 11))))
        self.stops_at(12, "deed a ()", *opened, "if 1", "while 1")

    def test_else_where_no_statement_has_room_within(self):
        opened = ["while 1"] * 9
        self.assertTrue(is_deed(read_deed(lines("deed a ()", *opened, "if 1", "else", "do 1", *["end"] * 10))))
        opened = ["while 1"] * 10
        self.assertTrue(is_deed(read_deed(lines("deed a ()", *opened, "if 1", *["end"] * 11))))
        self.stops_at(12, "deed a ()", *opened, "if 1", "else", "do 1", *["end"] * 11)

    def test_else_where_no_parts_are_left(self):
        for many in (396, 397, 398):
            rows = deed_text(("a", (), wide(many - 1 - 1))).split("\n")
            with_end = rows + ["if 1", "end"]
            self.assertTrue(is_deed(read_deed(lines(*with_end))))
            self.assertTrue(is_deed(read_deed(lines(*rows, "if 1", "else", "do 1", "end"))))
        for many in (399, 400):
            rows = deed_text(("a", (), wide(many - 2))).split("\n")
            self.assertTrue(is_deed(read_deed(lines(*rows, "if 1", "end"))))
            self.stops_at(len(rows) + 1, *rows, "if 1", "else", "do 1", "end")

    def test_four_hundred_parts(self):
        for many in (398, 399, 400):
            rows = deed_text(("a", (), wide(many))).split("\n")
            self.assertEqual(len(rows), 12)
            if many == 398:
                self.assertTrue(is_deed(read_deed(lines(*rows, "do 1"))))
            else:
                self.stops_at(12, *rows, "do 1", "what")
                self.stops_at(12, *rows, "while 1", "end")
            self.stops_at(12, *rows, "do (size 1)")
        rows = deed_text(("a", (), (("if", ONE, wide(398)[:5], wide(398)[5:]),))).split("\n")
        self.assertTrue(is_deed(read_deed(lines(*rows))))
        self.stops_at(len(rows), *rows, "do 1")

    def test_the_first_row_with_which_no_text_goes_on(self):
        """Rows that are changed by chance: the rows ahead can be gone on with, and with that row they can't."""
        numbers = random.Random(7)
        for seed in range(400):
            rows = deed_text(Chance(seed).deed()).split("\n") if is_deed(Chance(seed).deed()) else ["deed a ()"]
            for _ in range(numbers.choice((1, 1, 2))):
                at = numbers.randrange(len(rows) + 1)
                change = numbers.choice(("end", "else", "do 1", "if 1", "while x", "", "do", "do x y", "deed a ()", None))
                rows = rows[:at] + rows[at + 1:] if change is None else rows[:at] + [change] + rows[at:]
            self.holds_up(rows)

    def holds_up(self, rows):
        try:
            deed = read_deed(lines(*rows))
        except NoRow as refusal:
            at = refusal.at
            self.assertTrue(at == 0 or goes_on(rows[:at]), rows)
            self.assertTrue(at == max(len(rows), 1) or not goes_on(rows[:at + 1]), rows)
        else:
            self.assertTrue(is_deed(deed))
            self.assertEqual(deed_text(deed), lines(*[text for text in rows if text]))

    def test_by_names(self):
        self.assertEqual(deed_text(deed=("a", (), ())), "deed a ()")
        self.assertEqual(read_deed(text="deed a ()"), ("a", (), ()))
        self.assertEqual(expression_text(thing=X), "x")


def goes_on(rows):
    """Whether some text goes on with these rows: one of none but what must still come does."""
    for ahead in ([], ["do 1"], ["deed a ()"]):
        for many in range(14):
            try:
                read_deed(lines(*rows, *ahead, *["end"] * many))
                return True
            except NoRow:
                pass
    return False


class Trees(unittest.TestCase):

    def test_all_trees_here_are_what_they_are_to_be(self):
        self.assertTrue(all(is_expression(tree) for tree, _ in TEXTS))


if __name__ == "__main__":
    unittest.main()
