"""[43] texts of tasks; [2] at the limits."""

import random
import re
import time
import unittest

from noneorsome.actions import Action
from noneorsome.condition_texts import read_condition
from noneorsome.conditions import Condition
from noneorsome.errors import BadChange, BadLine, BadName, BadText, NameInUse, NoFreeOutcome, PlanError, UnknownName
from noneorsome.outcomes import Outcome
from noneorsome.task_texts import read_task, write_task
from noneorsome.tasks import Task
from noneorsome.worlds import World
from tests.drawing import ACTIONS, draw_task, draw_world
from tests.raising import RaisingCase

ALWAYS = Condition.always()
LIT = Condition.of("lit")
HERE = Condition.of("here")
RESERVED = ["and", "or", "not", "always", "never"]

# The task that most tests read, with something of every kind.
LINES = [
    "facts lit wet", "piles here away", "reserves luck", "start here and not lit", "goal lit or not (here or away)",
    "action move", "need here", "outcome away add, here take", "outcome here empty",
    "action push", "need always", "outcome lit yes, luck add, wet no", "outcome", "outcome luck take",
]


def text(*lines):
    return "\n".join(lines)


def changed(at, *lines):
    """The lines with other ones in the place of one."""
    return [*LINES[:at], *lines, *LINES[at + 1:]]


def yard():
    world = World(["lit", "wet"], ["here", "away"], ["luck"])
    world["move"] = Action(HERE, [Outcome({"here": "take", "away": "add"}), Outcome({"here": "empty"})])
    world["push"] = Action(ALWAYS, [Outcome({"lit": True, "wet": False, "luck": "add"}), Outcome(), Outcome({"luck": "take"})])
    return world


class TextCase(RaisingCase):
    def assert_same(self, one, other):
        self.assertIsInstance(one, Task)
        self.assertTrue(one.base() == other.base())
        self.assertEqual([one.start, one.goal], [other.start, other.goal])
        self.assertEqual([str(one.start), str(one.goal)], [str(other.start), str(other.goal)])

    def check_fault(self, index, lines, cause=None):
        """Check the line of a fault and, if one is given, the error that it comes from."""
        self.assert_raises(BadLine(index), read_task, text(*lines))
        if cause is not None:
            with self.assertRaises(BadLine) as caught:
                read_task(text(*lines))
            self.assertIs(type(caught.exception.__cause__), type(cause))
            self.assertEqual(vars(caught.exception.__cause__), vars(cause))


class Writing(TextCase):
    def check(self, task, *lines):
        self.assertEqual(write_task(task), text(*lines))

    def test_all_of_it(self):
        goal = LIT | ~(HERE | Condition.of("away"))
        self.check(Task(yard(), HERE & ~LIT, goal), *LINES)
        self.assertEqual(write_task(task=Task(yard(), HERE & ~LIT, goal)), text(*LINES))

    def test_nothing(self):
        self.check(Task(World(), ALWAYS, Condition.never()), "facts", "piles", "reserves", "start always", "goal never")

    def test_an_outcome_without_changes(self):
        world = World(["lit"])
        world["wait"] = Action(ALWAYS, [Outcome(), Outcome()])
        self.check(Task(world, LIT, ~LIT), *[
            "facts lit", "piles", "reserves", "start lit", "goal not lit", "action wait", "need always", "outcome", "outcome",
        ])

    def test_changes_in_ascending_order(self):
        world = World(["z", "b"], ["y", "c"], ["x"])
        world["act"] = Action(Condition.of("z") & Condition.of("b"), [
            Outcome({"z": False, "y": "take", "x": "add", "c": "empty", "b": True}), Outcome({"x": "take", "c": "add"}),
        ])
        self.check(Task(world, ALWAYS, ALWAYS), *[
            "facts z b", "piles y c", "reserves x", "start always", "goal always", "action act", "need z and b",
            "outcome b yes, c empty, x add, y take, z no", "outcome c add, x take",
        ])

    def test_actions_in_their_order(self):
        world = World(["lit"])
        for name in ["z", "a", "facts", "outcome", "lit"]:
            world[name] = Action(LIT, [Outcome()])
        lines = write_task(Task(world, LIT, LIT)).split("\n")
        self.assertEqual(lines[5::3], ["action z", "action a", "action facts", "action outcome", "action lit"])

    def test_conditions_as_they_are_written(self):
        condition = ~~(LIT & (HERE | ~LIT)) | Condition.never()
        lines = write_task(Task(World(["lit"], ["here"]), condition, ~condition)).split("\n")
        self.assertEqual(lines[3:], [f"start {condition}", f"goal {~condition}"])

    def test_nothing_is_changed(self):
        task = Task(yard(), HERE, LIT)
        write_task(task)
        self.assert_same(task, Task(yard(), HERE, LIT))


class Reading(TextCase):
    def test_all_of_it(self):
        task = read_task(text=text(*LINES))
        self.assert_same(task, Task(yard(), HERE & ~LIT, LIT | ~(HERE | Condition.of("away"))))

    def test_nothing(self):
        task = read_task("facts\npiles\nreserves\nstart always\ngoal never")
        self.assert_same(task, Task(World(), ALWAYS, Condition.never()))

    def test_changes_in_any_order(self):
        for line in ["outcome here take, away add", "outcome away add, here take"]:
            self.assertTrue(read_task(text(*changed(7, line))).base() == yard())
        for line in ["outcome luck add, lit yes, wet no", "outcome wet no, luck add, lit yes"]:
            self.assertTrue(read_task(text(*changed(11, line))).base() == yard())

    def test_conditions_in_any_spelling(self):
        for words in ["(here)", " here", "here  ", "not(not here)", "((here)) or never", "here and(lit or always)"]:
            condition = read_condition(words)
            self.assertEqual(read_task(text(*changed(3, f"start {words}"))).start, condition)
            self.assertEqual(read_task(text(*changed(4, f"goal {words}"))).goal, condition)
            self.assertEqual(read_task(text(*changed(6, f"need {words}"))).base()["move"].need, condition)

    def test_words_of_the_text_as_names(self):
        lines = [
            "facts facts goal yes", "piles piles take", "reserves outcome", "start facts", "goal goal and yes", "action action",
            "need need or yes", "outcome goal yes, piles take", "outcome yes no, outcome take, take add",
        ]
        self.check_fault(6, lines, UnknownName("need"))
        lines[0] = "facts facts goal yes need"
        task = read_task(text(*lines))
        self.assertEqual(task.base()["action"].outcome(1), Outcome({"yes": False, "outcome": "take", "take": "add"}))
        self.assertEqual(write_task(task), text(*lines[:8], "outcome outcome take, take add, yes no"))

    def test_an_action_with_the_name_of_a_fact_or_a_counter(self):
        for name in ["lit", "here", "luck"]:
            task = read_task(text(*changed(5, f"action {name}")))
            self.assertEqual(task.base().actions(), [name, "push"])

    def test_equal_outcomes(self):
        task = read_task(text(*LINES, "outcome", "outcome"))
        self.assertEqual(len(task.base()["push"]), 5)

    def test_what_is_written_is_read_again(self):
        for seed in range(300):
            task = draw_task(seed)
            written = write_task(task)
            again = read_task(written)
            self.assert_same(again, task)
            self.assertEqual(write_task(again), written)


class Faults(TextCase):
    def test_no_text(self):
        self.check_fault(0, [""])
        self.check_fault(0, ["", "piles"])

    def test_the_example(self):
        self.check_fault(2, ["facts open", "piles"])
        lines = ["facts open", "piles", "reserves luck", "start not open", "goal open", "action push", "need always"]
        self.check_fault(7, [*lines, "outcome luck take, open yes"], NoFreeOutcome("push"))

    def test_a_text_that_is_cut_off(self):
        for end in range(1, len(LINES)):
            if end in (5, 8, 9, 12, 13):
                self.assertIsInstance(read_task(text(*LINES[:end])), Task)
            else:
                self.check_fault(end, LINES[:end])

    def test_line_feeds_at_the_end(self):
        for end in range(1, len(LINES) + 1):
            self.check_fault(end, [*LINES[:end], ""])
            self.check_fault(end, [*LINES[:end], "", ""])

    def test_a_line_taken_out(self):
        faults = {0: 0, 1: 1, 2: 2, 3: 3, 4: 4, 5: 5, 6: 6, 9: 9, 10: 10}
        for at in range(len(LINES)):
            lines = [*LINES[:at], *LINES[at + 1:]]
            if at in faults:
                self.check_fault(faults[at], lines)
            else:
                self.assertIsInstance(read_task(text(*lines)), Task)

    def test_a_line_doubled(self):
        for at in range(len(LINES)):
            lines = [*LINES[:at + 1], *LINES[at:]]
            if LINES[at].startswith("outcome"):
                self.assertIsInstance(read_task(text(*lines)), Task)
            else:
                self.check_fault(at + 1, lines)

    def test_a_line_exchanged_with_the_next_one(self):
        for at in range(len(LINES) - 1):
            lines = [*LINES[:at], LINES[at + 1], LINES[at], *LINES[at + 2:]]
            if at in (7, 11, 12):
                self.assertIsInstance(read_task(text(*lines)), Task)
            else:
                # Line 8 would begin the next action ahead of its time, so that only what follows cannot stand there.
                self.check_fault(9 if at == 8 else at, lines)

    def test_a_further_space(self):
        for at, line in enumerate(LINES):
            self.check_fault(at, changed(at, " " + line))
            if line.split(" ")[0] not in ("start", "goal", "need"):
                self.check_fault(at, changed(at, line + " "))
                self.check_fault(at, changed(at, line.replace(" ", "  ", 1)) if " " in line else changed(at, line + "  "))
        for line in ["outcome away add,  here take", "outcome away  add, here take", "outcome away add , here take"]:
            self.check_fault(7, changed(7, line))
        for at in [3, 4, 6]:
            self.assertIsInstance(read_task(text(*changed(at, LINES[at].replace(" ", "  ") + " "))), Task)

    def test_a_further_word(self):
        self.check_fault(0, changed(0, "facts lit wet, hot"))
        for at in [3, 4, 6, 10]:
            self.check_fault(at, changed(at, LINES[at] + " here"))
        for line in ["action move on", "action", "action "]:
            self.check_fault(5, changed(5, line))
        for line in ["outcome away add, here take lit", "outcome away add here take", "outcome away", "outcome away add,here take"]:
            self.check_fault(7, changed(7, line))
        for line in ["outcome ", "outcome, ", "outcome away add, ", "outcome , away add", "outcome away add,", "outcome add"]:
            self.check_fault(7, changed(7, line))
        self.check_fault(12, changed(12, "outcome here"))

    def test_other_words(self):
        for at, words in [
            (0, ["fact lit wet", "Facts lit wet", "factslit", "piles lit", "lit wet", ""]), (1, ["pile here", "facts", "pileshere", ""]),
            (2, ["reserve luck", "piles", "reserves, luck"]), (3, ["begin here", "start", "start ", "goal here", "start(here)"]),
            (4, ["aim lit", "goal", "goal ", "start lit", "goal(lit)"]), (5, ["do move", "need here", "outcome", "actions move"]),
            (6, ["needs here", "need", "need ", "outcome here take", "action move", "need(here)", ""]),
            (7, ["outcomes here take", "Outcome", "need here", "", "outcome\there take"]),
            (8, ["outcomes here take", "need here", "", "start here"]),
        ]:
            for word in words:
                self.check_fault(at, changed(at, word))

    def test_an_action_without_outcomes(self):
        self.check_fault(7, [*LINES[:7], *LINES[9:]])
        self.check_fault(7, LINES[:7])
        self.check_fault(11, LINES[:11])

    def test_names_that_are_none(self):
        for name in [*RESERVED, "Lit", "abcdefghi", "l1", "a_b", "a-", "a.", "lit\t"]:
            for at, word in [(0, "facts"), (1, "piles"), (2, "reserves")]:
                self.check_fault(at, changed(at, f"{word} {name}"), BadName(name))
                self.check_fault(at, changed(at, f"{LINES[at]} {name}"), BadName(name))
            self.check_fault(5, changed(5, f"action {name}"), BadName(name))
            self.check_fault(7, changed(7, f"outcome {name} add"), BadName(name))
            self.check_fault(7, changed(7, f"outcome here take, {name} add"), BadName(name))
        for words, at in [("Here", 0), ("abcdefghi", 0), ("and", 0), ("here and and lit", 9), ("here lit", 5), ("", 0), ("(here", 5)]:
            for place, word in [(3, "start"), (4, "goal"), (6, "need"), (10, "need")]:
                self.check_fault(place, changed(place, f"{word} {words}"), BadText(at))

    def test_names_that_are_unknown(self):
        for place, word in [(3, "start"), (4, "goal"), (6, "need")]:
            self.check_fault(place, changed(place, f"{word} lit and q"), UnknownName("q"))
            self.check_fault(place, changed(place, f"{word} not luck"), UnknownName("luck"))
            self.check_fault(place, changed(place, f"{word} z or move"), UnknownName("move"))
        self.check_fault(7, changed(7, "outcome q add"), UnknownName("q"))
        self.check_fault(8, changed(8, "outcome here take, move add"), UnknownName("move"))

    def test_names_that_were_used_already(self):
        self.check_fault(0, changed(0, "facts lit wet lit"), NameInUse("lit"))
        self.check_fault(1, changed(1, "piles here wet"), NameInUse("wet"))
        self.check_fault(1, changed(1, "piles here here"), NameInUse("here"))
        self.check_fault(2, changed(2, "reserves lit"), NameInUse("lit"))
        self.check_fault(2, changed(2, "reserves away"), NameInUse("away"))
        self.check_fault(2, changed(2, "reserves luck luck"), NameInUse("luck"))
        self.check_fault(9, changed(9, "action move"))
        self.check_fault(14, [*LINES, *LINES[5:9]])
        self.check_fault(7, changed(7, "outcome here take, here take"))
        self.check_fault(7, changed(7, "outcome here take, away add, here add"))
        self.check_fault(11, changed(11, "outcome lit yes, lit yes"))

    def test_changes_that_do_not_fit(self):
        for line, cause in [
            ("outcome lit add", BadChange("lit", "add")), ("outcome lit take", BadChange("lit", "take")),
            ("outcome lit empty", BadChange("lit", "empty")), ("outcome here yes", BadChange("here", True)),
            ("outcome here no", BadChange("here", False)), ("outcome luck empty", BadChange("luck", "empty")),
            ("outcome luck yes", BadChange("luck", True)), ("outcome luck no", BadChange("luck", False)),
            ("outcome away add, here no, lit yes", BadChange("here", False)),
        ]:
            for at in [7, 8, 12]:
                self.check_fault(at, changed(at, line), cause)

    def test_words_that_are_no_changes(self):
        for word in ["True", "true", "some", "all", "none", "Yes", "adds", "", "not", "+", "y"]:
            self.check_fault(7, changed(7, f"outcome lit {word}"))
            self.check_fault(8, changed(8, f"outcome here take, away {word}"))

    def test_the_first_line_counts(self):
        self.check_fault(3, changed(3, "start q", "goal Q", "action"))
        self.check_fault(0, ["facts A", "piles A", "x"])

    def test_an_action_all_of_whose_outcomes_take_from_a_reserve(self):
        taking = [*LINES[:7], "outcome luck take", "outcome here take, luck take"]
        cause = NoFreeOutcome("move")
        self.check_fault(8, taking, cause)
        self.check_fault(7, taking[:8], cause)
        self.check_fault(8, [*taking, *LINES[9:]], cause)

    def test_an_action_without_a_free_outcome_ahead_of_other_lines(self):
        taking = [*LINES[:7], "outcome luck take", "outcome here take, luck take"]
        for line in ["action", "action ", "action push", "action Push", "action move", "action a b", "action  x"]:
            self.check_fault(8, [*taking, line], NoFreeOutcome("move"))
        for line in ["", "need here", "outcome q add", "outcomes", "actions", "outcome ", "outcome here", "do", "Action push"]:
            self.check_fault(9, [*taking, line])
        self.assertIsInstance(read_task(text(*taking, "outcome")), Task)
        self.assertIsInstance(read_task(text(*taking, "outcome luck add", *LINES[9:])), Task)
        self.check_fault(10, [*taking, "outcome luck take", "", "action push"])

    def test_the_cause_is_none_for_a_line_of_another_form(self):
        for lines in [[""], LINES[:3], changed(5, "action"), changed(0, "piles lit")]:
            with self.assertRaises(BadLine) as caught:
                read_task(text(*lines))
            self.assertIsNone(caught.exception.__cause__)

    def test_other_line_ends(self):
        self.check_fault(0, ["facts lit\r", *LINES[1:]])
        self.assert_raises(BadLine(0), read_task, "\r".join(LINES))
        self.assert_raises(BadLine(0), read_task, "\u2028".join(LINES))


def fault_by_hand(written):
    """The line of the first fault of a text, by patterns; None if there is none."""
    lines = written.split("\n")
    known = {}
    for at, word in enumerate(["facts", "piles", "reserves"]):
        if at == len(lines):
            return at
        if not re.fullmatch(word + "( [a-z]{1,8})*", lines[at]):
            return at
        for name in lines[at].split()[1:]:
            if name in RESERVED or name in known:
                return at
            known[name] = word
    actions, due, free, changes = [], ["start", "goal"], True, 0
    for at in range(3, len(lines)):
        word, _, rest = lines[at].partition(" ")
        if not due and word == "action" and actions and not free:
            return at - 1
        if (due and word != due[0]) or (not due and word not in (["action", "outcome"] if actions else ["action"])):
            return at
        if word in ("start", "goal", "need"):
            try:
                if " " not in lines[at] or any(known.get(name) in (None, "reserves") for name in read_condition(rest).names()):
                    return at
            except BadText:
                return at
        elif word == "action":
            if not re.fullmatch("[a-z]{1,8}", rest) or rest in RESERVED or rest in actions:
                return at
            actions.append(rest)
            free = False
        else:
            if not re.fullmatch("outcome( [a-z]{1,8} (yes|no|add|take|empty)(, [a-z]{1,8} (yes|no|add|take|empty))*)?", lines[at]):
                return at
            pairs = [part.split(" ") for part in rest.split(", ")] if rest else []
            fitting = {"facts": ["yes", "no"], "piles": ["add", "take", "empty"], "reserves": ["add", "take"]}
            if len({name for name, _ in pairs}) < len(pairs):
                return at
            if any(change not in fitting.get(known.get(name), []) for name, change in pairs):
                return at
            free = free or not any(known[name] == "reserves" and change == "take" for name, change in pairs)
        due = {"start": ["goal"], "goal": [], "action": ["need"], "need": ["outcome"], "outcome": []}[word]
    if due:
        return len(lines)
    return len(lines) - 1 if actions and not free else None


class Mutated(TextCase):
    """Written texts with some change, held against another way to find the first fault."""

    WORDS = [
        "facts", "piles", "reserves", "start", "goal", "action", "need", "outcome", "yes", "no", "add", "take", "empty", "and", "not",
        "here", "lit", "luck", "q", "Lit", "act", ",", "", " ", "(", ")", "always",
    ]

    def change_text(self, chance, written):
        lines = written.split("\n")
        at = chance.randrange(len(lines))
        kind = chance.choice(["out", "double", "swap", "cut", "word", "drop", "replace", "feed", "space"])
        words = lines[at].split(" ")
        place = chance.randrange(len(words))
        if kind == "out":
            del lines[at]
        elif kind == "double":
            lines.insert(chance.randint(0, len(lines)), lines[at])
        elif kind == "swap":
            lines[at:at + 2] = lines[at:at + 2][::-1]
        elif kind == "cut":
            lines = lines[:at]
        elif kind == "feed":
            lines.append("")
        elif kind == "space":
            where = chance.randint(0, len(lines[at]))
            lines[at] = lines[at][:where] + " " + lines[at][where:]
        else:
            words[place:place + (kind != "word")] = [] if kind == "drop" else [chance.choice(self.WORDS)]
            lines[at] = " ".join(words)
        return text(*lines)

    def test_many_texts(self):
        chance = random.Random(43)
        found = {True: 0, False: 0}
        for seed in range(400):
            written = write_task(draw_task(seed))
            self.assertIsNone(fault_by_hand(written))
            for _ in range(15):
                other = written
                for _ in range(chance.choice([1, 1, 1, 2])):
                    other = self.change_text(chance, other)
                expected = fault_by_hand(other)
                try:
                    task = read_task(other)
                    self.assertIsNone(expected, other)
                    self.assert_same(read_task(write_task(task)), task)
                except BadLine as error:
                    self.assertEqual(error.index, expected, other)
                    self.assertTrue(error.__cause__ is None or isinstance(error.__cause__, PlanError))
                    self.assertNotIsInstance(error.__cause__, BadLine)
                found[expected is None] += 1
        self.assertGreater(min(found.values()), 500)


class Limits(TextCase):
    """[2]: texts at the limits are read within seconds."""

    def timed(self, call, *args):
        before = time.monotonic()
        try:
            found = call(*args)
        except PlanError as error:
            found = error
        self.assertLess(time.monotonic() - before, 5)
        return found

    def test_a_full_world(self):
        chance = random.Random(2)
        world = draw_world(chance, 1, 3, 0, 6, 4)
        for name in world.actions():
            world[name] = Action(world[name].need, [
                Outcome({"lit": True, "here": "take", "away": "add", "up": "empty"}) for _ in range(4)
            ])
        condition = LIT
        while len(str(condition)) < 220:
            condition = ~(condition & HERE) | ~~Condition.of("up")
        task = Task(world, condition, ~condition)
        written = self.timed(write_task, task)
        self.assert_same(self.timed(read_task, written), task)
        self.assertEqual(world.actions(), ACTIONS)

    def test_long_lines(self):
        names = [first + second for first in "abcdefghijklmnopqrstuvwxyz" for second in "abcdefghijklmnopqrstuvwxyz"]
        lines = [f"facts {' '.join(names[:900])}", "piles", "reserves"]
        self.assertEqual(self.timed(read_task, text(*lines)).index, 0)
        self.assertEqual(self.timed(read_task, text("facts", f"piles {'(' * 2900}")).index, 1)
        for words in ["(" * 2900, "not " * 700, "(" * 1400 + "here" + ")" * 1400, "here and " * 320 + "here", "a" * 2900, " " * 2900]:
            lines = ["facts", "piles here", "reserves", f"start {words}", "goal here"]
            self.timed(read_task, text(*lines))
        self.assertIsInstance(self.timed(read_task, text("facts", "piles here", "reserves", *[
            f"start {'(' * 30}here{')' * 30}", f"goal {'not ' * 30}here",
        ])), Task)


if __name__ == "__main__":
    unittest.main()
