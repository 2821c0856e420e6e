"""[31] programs, [32] their texts and how they are compared, [33] places."""

import operator
import random
import unittest

from noneorsome.condition_texts import read_condition
from noneorsome.conditions import Condition
from noneorsome.errors import BadName, Idle, NoPlace
from noneorsome.programs import Program
from tests.raising import RaisingCase

HERE = Condition.of("here")
OPEN = Condition.of("open")
SKIP = Program.skip()
CARRY = Program.do("carry")
PUSH = Program.do("push")


def text(*lines):
    return "\n".join(lines)


class Texts(RaisingCase):
    def check(self, program, *lines):
        self.assertEqual(str(program), text(*lines))

    def test_doing_nothing(self):
        self.check(SKIP, "pass")
        self.check(SKIP >> SKIP, "pass")
        self.check(SKIP * 3, "pass")

    def test_actions(self):
        self.check(CARRY, "do carry")
        self.check(Program.do(action="abcdefgh"), "do abcdefgh")
        self.check(CARRY >> PUSH, "do carry", "do push")
        self.check(CARRY >> (PUSH >> CARRY), "do carry", "do push", "do carry")

    def test_strings_that_are_no_names(self):
        for name in ["", "and", "never", "Carry", "abcdefghi", "a b", "do1", "do carry"]:
            self.assert_raises(BadName(name), Program.do, name)

    def test_words_of_programs_may_be_actions(self):
        for name in ["do", "while", "if", "else", "pass"]:
            self.check(Program.do(name), f"do {name}")
            self.assertEqual(Program.do(name).places(), [name])

    def test_empty_parts_are_left_out(self):
        for program in [SKIP >> CARRY, CARRY >> SKIP, SKIP >> CARRY >> SKIP, SKIP * 2 >> CARRY, CARRY * 0 >> CARRY]:
            self.check(program, "do carry")
        self.check(CARRY >> SKIP >> PUSH, "do carry", "do push")

    def test_loops(self):
        self.check(Program.loop(HERE, CARRY), "while here", "  do carry")
        self.check(Program.loop(HERE, SKIP), "while here", "  pass")
        self.check(Program.loop(condition=HERE, body=CARRY >> PUSH), "while here", "  do carry", "  do push")
        self.check(Program.loop(HERE, SKIP) >> SKIP, "while here", "  pass")

    def test_choices(self):
        self.check(Program.choose(HERE, CARRY, PUSH), "if here", "  do carry", "else", "  do push")
        self.check(Program.choose(HERE, CARRY, SKIP), "if here", "  do carry")
        self.check(Program.choose(HERE, SKIP, CARRY), "if here", "  pass", "else", "  do carry")
        self.check(Program.choose(HERE, SKIP, SKIP), "if here", "  pass")
        self.check(Program.choose(other=CARRY * 2, body=SKIP >> SKIP, condition=HERE), *[
            "if here", "  pass", "else", "  do carry", "  do carry",
        ])
        self.check(Program.choose(HERE, CARRY, CARRY * -1), "if here", "  do carry")

    def test_nesting(self):
        inner = Program.loop(OPEN, Program.choose(HERE, SKIP, CARRY) >> PUSH)
        self.check(Program.choose(OPEN, inner, Program.loop(HERE, SKIP)) >> CARRY, *[
            "if open", "  while open", "    if here", "      pass", "    else", "      do carry", "    do push",
            "else", "  while here", "    pass", "do carry",
        ])

    def test_conditions(self):
        for words in ["always", "not here", "not (here or open) and here", "here and (open or never)"]:
            self.check(Program.loop(read_condition(words), CARRY), f"while {words}", "  do carry")
            self.check(Program.choose(read_condition(words), CARRY, SKIP), f"if {words}", "  do carry")

    def test_deep_nesting(self):
        program = CARRY
        for _ in range(300):
            program = Program.loop(HERE, Program.choose(OPEN, SKIP, program))
        lines = str(program).split("\n")
        self.assertEqual([len(lines), lines[-1]], [1201, "  " * 600 + "do carry"])
        self.assertEqual([program.entry(["here"]), program.after(0, [])], [0, None])
        self.assert_raises(Idle(["here", "open"]), program.entry, ["here", "open"])


class Signs(RaisingCase):
    def test_times(self):
        pair = CARRY >> PUSH
        for times, lines in [
            (0, ["pass"]), (-1, ["pass"]), (-5, ["pass"]), (1, ["do carry", "do push"]), (2, ["do carry", "do push"] * 2),
        ]:
            self.assertEqual(str(pair * times), text(*lines))
            self.assertEqual(str(times * pair), text(*lines))
        self.assertEqual(str(3 * Program.loop(HERE, CARRY)), text(*["while here", "  do carry"] * 3))

    def test_programs_do_not_change(self):
        one, other = Program.loop(HERE, CARRY), PUSH >> CARRY
        before = [str(one), str(other)]
        both = [one >> other, other * 2, 2 * one, Program.loop(OPEN, one), Program.choose(HERE, one, other)]
        told = [str(program) for program in both]
        both[0] >> both[1]
        both[3] * 3
        one >>= other
        other *= 2
        self.assertEqual([str(program) for program in both], told)
        one, other = Program.loop(HERE, CARRY), PUSH >> CARRY
        self.assertEqual([str(one), str(other)], before)

    def test_places_are_a_list_of_their_own(self):
        program = CARRY >> PUSH
        program.places().clear()
        self.assertEqual(program.places(), ["carry", "push"])

    def test_signs_beside_other_objects(self):
        for other in [None, "do carry", [CARRY], HERE, {}]:
            with self.assertRaises(TypeError):
                CARRY >> other
            with self.assertRaises(TypeError):
                CARRY * other
        for other in ["ab", None, CARRY]:
            with self.assertRaises(TypeError):
                operator.mul(other, CARRY)


class Comparing(unittest.TestCase):
    def test_unlike_forms_with_equal_texts(self):
        x, y, z = [Condition.of(name) for name in "xyz"]
        for one, other in [
            ((CARRY >> PUSH) >> CARRY, CARRY >> (PUSH >> CARRY)), (CARRY * 2, CARRY >> CARRY), (SKIP, CARRY * 0),
            (SKIP >> CARRY, CARRY), (Program.loop(HERE, SKIP), Program.loop(HERE, SKIP >> SKIP)), (2 * CARRY, CARRY * 2),
            (Program.choose(HERE, CARRY, SKIP), Program.choose(HERE, CARRY, PUSH * 0)),
            (Program.loop(x & (y & z), CARRY), Program.loop((x & y) & z, CARRY)),
            (Program.loop(HERE, CARRY) >> SKIP, Program.loop(read_condition("(here)"), CARRY)),
        ]:
            self.assertTrue(one == other)
            self.assertFalse(one != other)

    def test_unlike_texts(self):
        programs = [
            SKIP, CARRY, PUSH, CARRY >> PUSH, PUSH >> CARRY, CARRY * 2, Program.loop(HERE, CARRY), Program.loop(HERE, SKIP),
            Program.loop(~~HERE, CARRY), Program.loop(OPEN, CARRY), Program.loop(HERE, SKIP) >> CARRY,
            Program.choose(HERE, CARRY, SKIP), Program.choose(HERE, SKIP, CARRY), Program.choose(HERE, CARRY, CARRY),
            Program.choose(HERE, CARRY, SKIP) >> CARRY, Program.choose(HERE & OPEN, CARRY, SKIP),
            Program.choose(OPEN & HERE, CARRY, SKIP), Program.do("pass"),
        ]
        for at, one in enumerate(programs):
            for place, other in enumerate(programs):
                self.assertIs(one == other, at == place)
                self.assertIs(one != other, at != place)

    def test_other_kinds_of_objects(self):
        for other in ["do carry", None, 1, ["do carry"], HERE]:
            self.assertFalse(CARRY == other)
            self.assertFalse(other == CARRY)
            self.assertTrue(CARRY != other)


class Places(RaisingCase):
    def test_names_in_the_order_of_the_text(self):
        for program, names in [
            (SKIP, []), (CARRY, ["carry"]), (CARRY >> PUSH >> CARRY, ["carry", "push", "carry"]),
            (Program.loop(HERE, SKIP), []), (Program.choose(HERE, PUSH, CARRY) >> PUSH, ["push", "carry", "push"]),
            (Program.loop(HERE, CARRY * 2) * 2, ["carry"] * 4),
        ]:
            self.assertEqual(program.places(), names)

    def check(self, program, state, entry, *after):
        """Check where the program comes to first, and from each place, as a tuple and as a list."""
        for kind in [tuple, list]:
            self.assertEqual(program.entry(kind(state)), entry)
            self.assertEqual([program.after(place, kind(state)) for place in range(len(program.places()))], list(after))

    def test_no_places(self):
        self.check(SKIP, [], None)
        self.check(Program.choose(HERE, SKIP, SKIP) >> SKIP, ["here"], None)
        self.check(Program.loop(HERE, SKIP), ["open"], None)

    def test_a_sequence(self):
        self.check(CARRY, [], 0, None)
        self.check(CARRY >> PUSH >> CARRY, ["here"], 0, 1, 2, None)

    def test_a_loop(self):
        program = Program.loop(HERE, CARRY >> PUSH) >> PUSH
        self.check(program, ["here"], 0, 1, 0, None)
        self.check(program, [], 2, 1, 2, None)

    def test_a_choice(self):
        program = Program.choose(HERE, CARRY, PUSH) >> Program.choose(OPEN, CARRY, SKIP)
        self.check(program, [], 1, None, None, None)
        self.check(program, ["here"], 0, None, None, None)
        self.check(program, ["open"], 1, 2, 2, None)
        self.check(program, ["open", "here"], 0, 2, 2, None)

    def test_a_choice_with_an_empty_first_part(self):
        program = Program.choose(HERE, SKIP, CARRY) >> PUSH
        self.check(program, ["here"], 1, 1, None)
        self.check(program, [], 0, 1, None)

    def test_a_choice_without_a_second_part_at_the_end_of_a_loop(self):
        program = Program.loop(HERE, CARRY >> Program.choose(OPEN, PUSH, SKIP)) >> CARRY
        self.check(program, ["here", "open"], 0, 1, 0, None)
        self.check(program, ["here"], 0, 0, 0, None)
        self.check(program, ["open"], 2, 1, 2, None)
        self.check(program, [], 2, 2, 2, None)

    def test_a_choice_within_both_parts_of_a_choice(self):
        inner = Program.choose(OPEN, CARRY, PUSH)
        program = Program.choose(HERE, inner, inner >> PUSH) >> CARRY
        self.check(program, ["here", "open"], 0, 5, 5, 4, 4, 5, None)
        self.check(program, ["here"], 1, 5, 5, 4, 4, 5, None)
        self.check(program, ["open"], 2, 5, 5, 4, 4, 5, None)
        self.check(program, [], 3, 5, 5, 4, 4, 5, None)

    def test_a_loop_in_a_loop(self):
        program = Program.loop(OPEN, Program.loop(HERE, CARRY) >> PUSH)
        self.check(program, ["here", "open"], 0, 0, 0)
        self.check(program, ["open"], 1, 1, 1)
        self.check(program, ["here"], None, 0, None)
        self.check(program, [], None, 1, None)
        program = Program.loop(OPEN, Program.loop(HERE, CARRY))
        self.check(program, [], None, None)
        self.check(program, ["here"], None, 0)
        self.check(program, ["here", "open"], 0, 0)
        self.assert_raises(Idle(["open"]), program.entry, ["open"])
        self.assert_raises(Idle(["open"]), program.after, 0, ["open"])

    def test_names_that_the_program_does_not_know(self):
        program = Program.loop(HERE, CARRY)
        self.check(program, ["q", "lit"], None, None)
        self.check(program, ["q", "here", "here", "Lit", ""], 0, 0)

    def test_states_in_any_order(self):
        program = Program.choose(HERE & OPEN, CARRY, PUSH)
        for state in [["here", "open"], ["open", "here"], ["open", "open", "here"]]:
            self.check(program, state, 0, None, None)

    def test_names_of_arguments(self):
        program = Program.loop(HERE, CARRY)
        self.assertEqual([program.entry(state=["here"]), program.after(state=["here"], place=0)], [0, 0])

    def test_places_that_are_not_there(self):
        for program, places in [
            (SKIP, [0, -1, 1]), (CARRY, [-1, 1, 2, 10 ** 30]), (Program.loop(HERE, CARRY >> PUSH), [-1, -2, 2, 3]),
            (Program.loop(HERE, SKIP), [0]),
        ]:
            for place in places:
                self.assert_raises(NoPlace(place), program.after, place, ["here"])
                self.assert_raises(NoPlace(place), program.after, place, ())


class Idling(RaisingCase):
    def test_at_the_beginning(self):
        for program in [Program.loop(HERE, SKIP), Program.loop(Condition.always(), SKIP), Program.loop(HERE, SKIP) >> CARRY]:
            for state in [["here"], ("here",), ("here", "here"), ["q", "here"]]:
                self.assert_raises(Idle(state), program.entry, state)

    def test_behind_a_place(self):
        program = CARRY >> Program.loop(HERE, SKIP) >> PUSH
        for state in [["here"], ("open", "here")]:
            self.assertEqual(program.entry(state), 0)
            self.assert_raises(Idle(state), program.after, 0, state)
            self.assertIsNone(program.after(1, state))
        self.assertEqual(program.after(0, ["open"]), 1)

    def test_around_a_place(self):
        program = Program.loop(HERE, Program.choose(OPEN, CARRY, SKIP))
        self.assert_raises(Idle(("here",)), program.entry, ("here",))
        self.assert_raises(Idle(["here"]), program.after, 0, ["here"])
        self.assertEqual(program.entry(["here", "open"]), 0)
        self.assertEqual(program.after(0, ["here", "open"]), 0)
        self.assertIsNone(program.after(0, ["open"]))

    def test_loops_within_a_loop(self):
        inner = Program.loop(~HERE, CARRY)
        program = Program.loop(OPEN, inner >> inner)
        self.assert_raises(Idle(["here", "open"]), program.entry, ["here", "open"])
        self.assertEqual([program.entry(["open"]), program.after(0, ["open"]), program.after(1, ["open"])], [0, 0, 1])
        self.assert_raises(Idle(("open", "here")), program.after, 1, ("open", "here"))

    def test_a_place_that_is_not_there_is_ahead(self):
        self.assert_raises(NoPlace(1), Program.loop(HERE, SKIP >> Program.choose(OPEN, CARRY, SKIP)).after, 1, ["here"])


def draw_program(chance, depth):
    """A program and the tree that it is made of, for walking through it by another way."""
    kind = chance.choice(["skip", "do", "then", "then", "loop", "choose"] if depth else ["skip", "do"])
    if kind == "skip":
        return Program.skip(), ("skip",)
    if kind == "do":
        name = chance.choice(["carry", "push", "go"])
        return Program.do(name), ("do", name)
    one, first = draw_program(chance, depth - 1)
    other, second = draw_program(chance, depth - 1)
    condition = chance.choice([HERE, OPEN, ~HERE, HERE & OPEN, Condition.always()])
    if kind == "then":
        return one >> other, ("then", first, second)
    if kind == "loop":
        return Program.loop(condition, one), ("loop", condition, first)
    return Program.choose(condition, one, other), ("choose", condition, first, second)


def count(tree):
    if tree[0] in ("skip", "do"):
        return 1 if tree[0] == "do" else 0
    return sum(count(part) for part in tree[1:] if isinstance(part, tuple))


class EndlessRound(Exception):
    pass


def walk(tree, first, behind, state, looks):
    """Where control comes to from the beginning of a tree, if it goes on as `behind` tells at its end."""
    if tree[0] == "skip":
        return behind()
    if tree[0] == "do":
        return first
    if tree[0] == "then":
        return walk(tree[1], first, lambda: walk(tree[2], first + count(tree[1]), behind, state, looks), state, looks)
    if looks > 60:
        raise EndlessRound()
    holds = tree[1](state)
    if tree[0] == "loop":
        return walk(tree[2], first, lambda: walk(tree, first, behind, state, looks + 1), state, looks + 1) if holds else behind()
    if holds:
        return walk(tree[2], first, behind, state, looks)
    return walk(tree[3], first + count(tree[2]), behind, state, looks)


def walk_behind(tree, first, place, behind, state):
    """Where control comes to behind a place of a tree."""
    if tree[0] == "do":
        return behind()
    if tree[0] == "loop":
        return walk_behind(tree[2], first, place, lambda: walk(tree, first, behind, state, 0), state)
    one, other = tree[-2:]
    middle = first + count(one)
    if place >= middle:
        return walk_behind(other, middle, place, behind, state)
    if tree[0] == "then":
        return walk_behind(one, first, place, lambda: walk(other, middle, behind, state, 0), state)
    return walk_behind(one, first, place, behind, state)


class ManyPrograms(unittest.TestCase):
    def found(self, call, *args):
        try:
            return call(*args)
        except (EndlessRound, Idle):
            return "idle"

    def test_entry_and_after(self):
        chance = random.Random(33)
        idle = 0
        for _ in range(400):
            program, tree = draw_program(chance, 4)
            self.assertEqual(len(program.places()), count(tree))
            for state in [[], ["here"], ["open"], ["open", "here"]]:
                expected = self.found(walk, tree, 0, lambda: None, state, 0)
                self.assertEqual(self.found(program.entry, state), expected)
                idle += expected == "idle"
                for place in range(count(tree)):
                    expected = self.found(walk_behind, tree, 0, place, lambda: None, state)
                    self.assertEqual(self.found(program.after, place, state), expected)
                    idle += expected == "idle"
        self.assertGreater(idle, 50)


if __name__ == "__main__":
    unittest.main()
