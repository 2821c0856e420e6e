"""[32] reading the texts of programs."""

import itertools
import random
import unittest

from noneorsome.condition_texts import read_condition
from noneorsome.conditions import Condition
from noneorsome.errors import BadLine, BadName, BadText
from noneorsome.program_texts import read_program
from noneorsome.programs import Program
from tests.drawing import draw_program, draw_task
from tests.raising import RaisingCase
from tests.test_programs import draw_program as draw_tree

HERE = Condition.of("here")
OPEN = Condition.of("open")
SKIP = Program.skip()
CARRY = Program.do("carry")
PUSH = Program.do("push")


def text(*lines):
    return "\n".join(lines)


class ReadingCase(RaisingCase):
    def check(self, program, *lines):
        """Check that a text is read as a program."""
        found = read_program(text(*lines))
        self.assertIsInstance(found, Program)
        self.assertTrue(found == program, str(found))
        self.assertEqual(str(found), str(program))

    def check_fault(self, index, *lines):
        self.assert_raises(BadLine(index), read_program, text(*lines))


class Right(ReadingCase):
    def test_actions(self):
        self.check(CARRY, "do carry")
        self.check(CARRY >> PUSH >> CARRY, "do carry", "do push", "do carry")
        for name in ["do", "while", "if", "else", "pass", "a", "abcdefgh"]:
            self.check(Program.do(name), f"do {name}")

    def test_nothing_to_do(self):
        self.check(SKIP, "pass")
        self.assertEqual(read_program(text="pass").places(), [])
        for program in [read_program("pass") >> CARRY, CARRY >> read_program("pass")]:
            self.assertEqual(str(program), "do carry")
        self.assertEqual(str(Program.choose(HERE, CARRY, read_program("pass"))), "if here\n  do carry")

    def test_loops(self):
        self.check(Program.loop(HERE, CARRY), "while here", "  do carry")
        self.check(Program.loop(HERE, SKIP), "while here", "  pass")
        self.check(Program.loop(HERE, CARRY >> PUSH) >> CARRY, "while here", "  do carry", "  do push", "do carry")

    def test_choices(self):
        self.check(Program.choose(HERE, CARRY, SKIP), "if here", "  do carry")
        self.check(Program.choose(HERE, CARRY, PUSH), "if here", "  do carry", "else", "  do push")
        self.check(Program.choose(HERE, SKIP, CARRY), "if here", "  pass", "else", "  do carry")
        self.check(Program.choose(HERE, SKIP, SKIP) >> PUSH, "if here", "  pass", "do push")

    def test_an_else_with_pass_behind_it(self):
        self.check(Program.choose(HERE, CARRY, SKIP), "if here", "  do carry", "else", "  pass")
        self.check(Program.choose(HERE, SKIP, SKIP), "if here", "  pass", "else", "  pass")
        inner = Program.choose(HERE, SKIP, SKIP)
        self.check(Program.choose(OPEN, inner, inner), *[
            "if open", "  if here", "    pass", "  else", "    pass", "else", "  if here", "    pass", "  else", "    pass",
        ])
        self.check(Program.loop(OPEN, inner) >> PUSH, "while open", "  if here", "    pass", "  else", "    pass", "do push")
        read = read_program(text("if here", "  do carry", "else", "  pass", "do push"))
        self.assertEqual(str(read), text("if here", "  do carry", "do push"))
        self.assertEqual([read.entry([]), read.after(0, ["here"])], [1, 1])

    def test_the_else_of_an_outer_if(self):
        self.check(
            Program.choose(HERE, Program.choose(OPEN, CARRY, SKIP), PUSH),
            "if here", "  if open", "    do carry", "else", "  do push",
        )
        self.check(
            Program.choose(HERE, Program.choose(OPEN, CARRY, PUSH), SKIP),
            "if here", "  if open", "    do carry", "  else", "    do push",
        )
        self.check(
            Program.choose(HERE, Program.loop(OPEN, CARRY), PUSH),
            "if here", "  while open", "    do carry", "else", "  do push",
        )

    def test_many_parts_that_end_at_once(self):
        self.check(
            Program.loop(HERE, Program.loop(OPEN, Program.choose(HERE, SKIP, CARRY))) >> PUSH,
            "while here", "  while open", "    if here", "      pass", "    else", "      do carry", "do push",
        )

    def test_deep_nesting(self):
        for depth in [6, 11, 200]:
            program = CARRY
            for at in range(depth):
                program = Program.loop(HERE, program) if at % 2 else Program.choose(OPEN, SKIP, program)
            self.check(program, *str(program).split("\n"))

    def test_conditions_in_any_spelling(self):
        for words in [
            "here", " here", "here ", "   here  ", "(here)", "( here)", "((here) )", "not(here)", "here and(open)",
            "not not here", "here or open and not never", "(here or open)and always", "always",
        ]:
            condition = read_condition(words)
            self.check(Program.loop(condition, CARRY), f"while {words}", "  do carry")
            self.check(Program.choose(condition, CARRY, PUSH), f"if {words}", "  do carry", "else", "  do push")
            self.check(Program.loop(OPEN, Program.choose(condition, SKIP, SKIP)), "while open", f"  if {words}", "    pass")

    def test_what_is_written_is_read_again(self):
        for seed in range(300):
            program = draw_program(seed, draw_task(seed))
            self.check(program, *str(program).split("\n"))

    def test_trees_that_are_written_are_read_again(self):
        chance = random.Random(32)
        for _ in range(300):
            program, _ = draw_tree(chance, 6)
            self.check(program, *str(program).split("\n"))

    def test_the_example(self):
        program = read_program("while here\n  do carry\nif open\n  pass\nelse\n  do push")
        found = [program.places(), program.entry(["here"]), program.entry([]), program.after(0, ["open"])]
        self.assertEqual([*found, program.after(1, [])], [["carry", "push"], 0, 1, None, None])


class Wrong(ReadingCase):
    def test_no_lines(self):
        self.check_fault(0, "")
        self.check_fault(0, "", "")
        self.check_fault(0, "", "do carry")

    def test_an_empty_line(self):
        self.check_fault(1, "do carry", "")
        self.check_fault(1, "pass", "")
        self.check_fault(1, "do carry", "", "do push")
        self.check_fault(1, "while here", "")
        self.check_fault(2, "while here", "  do carry", "")
        self.check_fault(2, "while here", "  do carry", "  ")

    def test_indents(self):
        for line in [" do carry", "  do carry", "   do carry", " pass", "  pass", "\tdo carry"]:
            self.check_fault(0, line)
            self.check_fault(1, "do push", line)
        for line in ["do carry", " do carry", "   do carry", "    do carry", "     do carry", "\tdo carry", "  \tdo carry"]:
            self.check_fault(1, "while here", line)
            self.check_fault(1, "if here", line)
            self.check_fault(3, "if here", "  do push", "else", line)
        for line in [" do carry", "   do carry", "    do carry"]:
            self.check_fault(2, "while here", "  do carry", line)
        self.check_fault(3, "while here", "  if open", "    pass", "      do carry")
        self.check_fault(2, "while here", "  if open", "  do carry")

    def test_an_else_without_an_if(self):
        self.check_fault(0, "else", "  do carry")
        self.check_fault(1, "do carry", "else", "  do carry")
        self.check_fault(2, "while here", "  do carry", "else", "  do push")
        self.check_fault(3, "if here", "  do carry", "do push", "else", "  do push")
        self.check_fault(1, "if here", "else", "  do carry")
        self.check_fault(1, "if here", "  else", "    do carry")
        self.check_fault(2, "if here", "  do carry", "  else", "    do push")
        self.check_fault(3, "if here", "  while open", "    do carry", "  else", "    do push")
        self.check_fault(1, "pass", "else", "  do carry")

    def test_a_second_else(self):
        lines = ["if here", "  do carry", "else", "  do push"]
        self.check_fault(4, *lines, "else", "  do push")
        self.check_fault(4, *lines[:3], "  pass", "else", "  pass")
        self.check_fault(5, "while open", *["  " + line for line in lines], "  else", "    do push")
        self.check_fault(3, "if here", "  do carry", "else", "else", "  do carry")

    def test_parts_without_lines(self):
        for line in ["while here", "if here"]:
            self.check_fault(1, line)
            self.check_fault(2, "do carry", line)
            self.check_fault(1, line, "do carry")
            self.check_fault(2, "while open", "  " + line)
            self.check_fault(2, "while open", "  " + line, "do carry")
            self.check_fault(2, "while open", "  " + line, "  do carry")
        self.check_fault(3, "if here", "  do carry", "else")
        self.check_fault(3, "if here", "  do carry", "else", "do push")
        self.check_fault(3, "if here", "  pass", "else", "")

    def test_pass_beside_other_lines(self):
        self.check_fault(1, "pass", "do carry")
        self.check_fault(1, "do carry", "pass")
        self.check_fault(1, "pass", "pass")
        self.check_fault(1, "pass", "while here", "  do carry")
        self.check_fault(2, "while here", "  do carry", "  pass")
        self.check_fault(2, "while here", "  pass", "  do carry")
        self.check_fault(2, "while here", "  do carry", "pass")
        self.check_fault(2, "if here", "  do carry", "pass")
        self.check_fault(4, "if here", "  pass", "else", "  pass", "  do carry")
        self.check_fault(4, "if here", "  pass", "else", "  pass", "pass")
        self.check_fault(4, "if here", "  pass", "else", "  do carry", "  pass")
        self.check_fault(4, "while here", "  if open", "    do carry", "    do push", "  pass")

    def test_two_spaces_behind_a_word(self):
        self.check_fault(0, "do  carry")
        self.check_fault(1, "do carry", "do  push")
        self.check_fault(2, "if here", "  do carry", "else  ", "  do push")
        self.check(Program.loop(HERE, CARRY), "while  here", "  do carry")
        self.check(Program.choose(HERE, CARRY, SKIP), "if   here", "  do carry")

    def test_spaces_at_the_end_of_a_line(self):
        self.check_fault(0, "do carry ")
        self.check_fault(0, "pass ")
        self.check_fault(1, "while here", "  do carry ")
        self.check_fault(1, "while here", "  pass  ")
        self.check_fault(2, "if here", "  do carry", "else ", "  do push")
        self.check(Program.loop(HERE, CARRY), "while here  ", "  do carry")

    def test_a_word_too_many_or_too_few(self):
        for line in ["do", "do ", "do carry push", "do do carry", "carry", "pass pass", "pass carry", "else", "else here", "end"]:
            self.check_fault(0, line)
            self.check_fault(1, "do carry", line)
            self.check_fault(1, "while here", "  " + line)
            self.check_fault(2, "while here", "  do carry", "  " + line)
        for line in ["while", "while ", "if", "if ", "while  ", "while(here)", "if(here)", "whilehere", "While here"]:
            self.check_fault(0, line, "  do carry")
        self.check_fault(2, "if here", "  do carry", "else here", "  do push")
        self.check_fault(2, "if here", "  do carry", "else if open", "  do push")
        self.check_fault(2, "if here", "  do carry", "elseif", "  do push")

    def test_names_that_are_none(self):
        for name in ["and", "or", "not", "always", "never", "Carry", "abcdefghi", "a1", "a_b", "a-", "carry\t", "(carry)"]:
            self.check_fault(0, f"do {name}")
            self.check_fault(2, "while here", "  do carry", f"  do {name}")

    def test_conditions_that_are_none(self):
        for words in ["", "and", "here and", "(here", "here)", "here open", "Here", "here and or open", "abcdefghi", "here\t", "not"]:
            self.check_fault(0, f"while {words}", "  do carry")
            self.check_fault(0, f"if {words}", "  do carry")
            self.check_fault(2, "while here", "  do carry", f"  if {words}", "    do carry")

    def test_the_first_line_counts(self):
        self.check_fault(1, "do carry", "do", "while", "pass")
        self.check_fault(0, "else", "pass", "while")
        self.check_fault(1, "while here", "do carry", "  else")
        self.check_fault(2, "while here", "  do carry", "  pass", "", "")

    def test_other_line_ends(self):
        self.check_fault(0, "do carry\r", "do push")
        self.check_fault(0, "do carry\rdo push")
        self.check_fault(0, "pass\x0c")
        self.check_fault(0, "do carry\u2028do push")

    def test_the_cause(self):
        for lines, cause in [(["do Carry"], BadName("Carry")), (["while here", "  if open and", "    pass"], BadText(8))]:
            with self.assertRaises(BadLine) as caught:
                read_program(text(*lines))
            self.assertIs(type(caught.exception.__cause__), type(cause))
            self.assertEqual(vars(caught.exception.__cause__), vars(cause))


WORDS = {"do": "do carry", "while": "while here", "if": "if open", "else": "else", "pass": "pass"}


def right_parts(length, depth):
    """All right parts of so many lines, as lists of pairs of a depth and a word."""
    found = [[(depth, "pass")]] if length == 1 else []
    return found + right_rows(length, depth)


def right_rows(length, depth):
    """All sequences of lines of a part other than `pass`, with so many lines in total."""
    found = []
    for first in range(1, length + 1):
        behind = right_rows(length - first, depth) if first < length else [[]]
        found += [one + rest for one in right_statements(first, depth) for rest in behind]
    return found


def right_statements(length, depth):
    if length == 1:
        return [[(depth, "do")]]
    found = [[(depth, word), *part] for word in ["while", "if"] for part in right_parts(length - 1, depth + 1)]
    for first in range(1, length - 2):
        for one in right_parts(first, depth + 1):
            for other in right_parts(length - 2 - first, depth + 1):
                found.append([(depth, "if"), *one, (depth, "else"), *other])
    return found


class AllTexts(ReadingCase):
    """All texts of few lines, right and wrong, held against all right texts: each beginning needs one line more at most."""

    def setUp(self):
        self.right = {tuple(lines) for length in range(1, 6) for lines in right_parts(length, 0)}
        self.beginnings = {lines[:end] for lines in self.right for end in range(len(lines) + 1)}

    def check_lines(self, lines):
        written = text(*["  " * depth + WORDS[word] for depth, word in lines])
        if tuple(lines) in self.right:
            self.assertIsInstance(read_program(written), Program)
            return True
        wrong = [end for end in range(len(lines)) if tuple(lines[:end + 1]) not in self.beginnings]
        self.assert_raises(BadLine([*wrong, len(lines)][0]), read_program, written)
        return False

    def test_up_to_three_lines(self):
        choices = [(depth, word) for depth in range(4) for word in WORDS]
        found = [self.check_lines(lines) for length in [1, 2, 3] for lines in itertools.product(choices, repeat=length)]
        self.assertEqual(sum(found), len([lines for lines in self.right if len(lines) <= 3]))

    def test_four_lines(self):
        chance = random.Random(4)
        for lines in [lines for lines in self.right if len(lines) >= 4]:
            self.check_lines(lines)
            changed = list(lines[:4])
            changed[chance.randrange(4)] = (chance.randint(0, 3), chance.choice(list(WORDS)))
            self.check_lines(changed)


if __name__ == "__main__":
    unittest.main()
