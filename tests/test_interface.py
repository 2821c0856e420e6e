"""The interface: what each module defines, and the names of arguments."""

import importlib
import inspect
import unittest

# Modules with their classes, whose methods stand in the class itself, and their functions, with the arguments.
CLASSES = {
    "conditions.Condition": ["of(name)", "always()", "never()", "names()", "and", "or", "invert", "eq", "le", "lt", "str",
                             "call(names)", "contains"],
    "amounts.Some": ["radd", "rsub"],
    "amounts.All": ["rsub"],
    "outcomes.Outcome": ["init(changes)", "names()", "copy()", "getitem", "setitem", "len", "contains", "eq"],
    "actions.Action": ["init(need, outcomes)", "outcome(index)", "len", "eq"],
    "worlds.World": ["init(facts, piles, reserves)", "facts()", "piles()", "reserves()", "seen()", "counters()", "actions()",
                     "remove(name)", "copy()", "states()", "state_of(names)", "possible(state)", "results(state, action)",
                     "moves(state)", "shifts(state, action, index)", "getitem", "setitem", "len", "contains", "or", "eq",
                     "le"],
    "stocks.Stock": ["init(numbers)", "names()", "copy()", "getitem", "setitem", "add", "sub", "iadd", "isub", "eq", "le"],
    "runs.Run": ["init(world, facts, stock)", "state_now()", "stock_now()", "step(action, index, amounts)", "steps_done()",
                 "undo()"],
    "tasks.Task": ["init(world, start, goal)", "start", "goal", "set_start(condition)", "set_goal(condition)", "base()",
                   "starts()", "goals()"],
    "plans.Plan": ["init(world)", "rows()", "base()", "remove(state)", "copy()", "call(state)", "getitem", "setitem", "len",
                   "contains", "or", "and", "sub", "ior", "eq", "le"],
    "measures.Measure": ["init()", "rows()", "getitem", "setitem", "len", "contains"],
    "judging.BadRun": ["init(reason, state, stock, steps, back)"],
    "counterplays.Counterplay": ["init(rows)", "rows()", "state_at(position)", "floor_at(position, counter)",
                                 "reply_at(position, action)", "len"],
    "matches.Match": ["init(task, counterplay)", "answer(action)", "state_now()", "stock_now()", "position_now()",
                      "steps_done()"],
    "solving.Solution": ["won"],
    "solving.Won": ["init(plan, measure)"],
    "solving.Lost": ["init(counterplay)"],
    "programs.Program": ["skip()", "do(action)", "loop(condition, body)", "choose(condition, body, other)", "places()",
                         "entry(state)", "after(place, state)", "rshift", "mul", "rmul", "eq", "str"],
    "keepers.Keeper": ["init(task)", "put(name, action)", "drop(name)", "aim(start, goal)", "keep(plan)", "forget()", "undo()",
                       "redo()", "history()", "task_now()", "kept()", "stands()", "solution()", "won_now()", "attempt(edits)",
                       "trial()", "copy()", "eq"],
    "keepers.Trial": ["init(keeper)", "enter()", "exit(kind, value, trace)"],
}
FUNCTIONS = [
    "condition_texts.read_condition(text)", "measure_rows.is_row(value)", "measure_rows.falls(one, other, taken, added)",
    "measure_rows.row_value(row, stock)", "measures.measure_fault(task, plan, measure)",
    "judging.is_bad_run(task, plan, run)", "judging.judge(task, plan)",
    "counterplays.counterplay_fault(task, counterplay, *, without=())", "solving.solve(task, *, without=())",
    "solving.won_states(task, *, without=())", "program_texts.read_program(text)",
    "checking.program_fault(task, program, measure)", "checking.is_bad_program_run(task, program, run)",
    "checking.check(task, program)", "turning.program_of(task, plan)", "turning.plan_of(task, program)",
    "needs.least_actions(task)", "looks.parted(plan, names)", "looks.least_looks(plan)",
    "fairness.fair(world, action, index, reserve)", "task_texts.write_task(task)", "task_texts.read_task(text)",
    "plan_texts.write_plan(plan)", "plan_texts.read_plan(world, text)",
]
SIGNS = """add and call contains enter eq exit getitem iadd init invert ior isub le len lt mul or radd rmul rshift rsub setitem str
sub""".split()


def found_in(path):
    module, name = path.split(".")
    return getattr(importlib.import_module(f"noneorsome.{module}"), name)


def arguments_of(method):
    return ", ".join([name for name in inspect.signature(method).parameters if name != "self"])


class Interface(unittest.TestCase):
    def test_classes_and_their_methods(self):
        for path, listed in CLASSES.items():
            kind = found_in(path)
            self.assertEqual(kind.__module__, "noneorsome." + path.split(".")[0])
            for told in listed:
                name, bracket, arguments = told.partition("(")
                method = vars(kind)[f"__{name}__" if name in SIGNS else name]
                if bracket:
                    method = getattr(method, "__func__", method)
                    self.assertEqual(arguments_of(method), arguments.rstrip(")"), f"{path} {told}")

    def test_functions(self):
        for told in FUNCTIONS:
            path, _, arguments = told.partition("(")
            function = found_in(path)
            self.assertEqual(function.__module__, "noneorsome." + path.split(".")[0])
            self.assertEqual(str(inspect.signature(function)), "(" + arguments)

    def test_properties(self):
        for path, name in [("tasks.Task", "start"), ("tasks.Task", "goal"), ("solving.Solution", "won")]:
            self.assertIsInstance(vars(found_in(path))[name], property)


if __name__ == "__main__":
    unittest.main()
