"""A task that is edited, with a plan that is kept ([45], [46], [47])."""

from noneorsome.errors import BadEdit, NothingToRedo, NothingToUndo, PlanError
from noneorsome.judging import judge
from noneorsome.measures import Measure
from noneorsome.plans import Plan
from noneorsome.solving import solve, won_states
from noneorsome.tasks import Task, check_world

# The edits that may be done together, with the number of their arguments.
ARGUMENTS = {"put": 2, "drop": 1, "aim": 2, "keep": 1, "forget": 0, "undo": 0, "redo": 0}


def copy_of_task(task):
    return Task(task.base(), task.start, task.goal)


def fitting_plan(plan, world):
    """Return a plan for a changed world with those rows whose actions are possible there; None stays None."""
    if plan is None:
        return None
    twin = Plan(world)
    for state, action in plan.rows():
        if action in world.possible(state):
            twin[state] = action
    return twin


class Keeper:
    """A copy of a task and at most one plan, with edits that can be taken back."""

    def __init__(self, task):
        # A list of moments, and the index of the present one. A moment has the name of the edit that led to it, a
        # task and a plan or None. Nothing in here is ever changed, so that any number of keepers and trials may have
        # it: an edit puts a new list in its place.
        self._story = ([("", copy_of_task(task), None)], 0)

    def put(self, name, action):
        """Define an action of the world."""
        world = self._task().base()
        world[name] = action
        self._change_world("put", world)

    def drop(self, name):
        """Remove an action of the world."""
        world = self._task().base()
        world.remove(name)
        self._change_world("drop", world)

    def aim(self, start, goal):
        """Set both conditions of the task."""
        self._go_on("aim", Task(self._task().base(), start, goal), self._plan())

    def keep(self, plan):
        """Keep a copy of a plan."""
        check_world(self._task(), plan)
        self._go_on("keep", self._task(), plan.copy())

    def forget(self):
        """Keep no plan any more."""
        self._go_on("forget", self._task(), None)

    def undo(self):
        """Take back the last edit."""
        moments, at = self._story
        if at == 0:
            raise NothingToUndo()
        self._story = (moments, at - 1)

    def redo(self):
        """Do again the edit that was taken back last."""
        moments, at = self._story
        if at + 1 == len(moments):
            raise NothingToRedo()
        self._story = (moments, at + 1)

    def history(self):
        """Return the names of the edits that were done and not taken back."""
        moments, at = self._story
        return [edit for edit, _, _ in moments[1:at + 1]]

    def task_now(self):
        """Return a copy of the task."""
        return copy_of_task(self._task())

    def kept(self):
        """Return a copy of the plan that is kept, or None."""
        plan = self._plan()
        return None if plan is None else plan.copy()

    def stands(self):
        """Return whether a plan is kept and good for the task."""
        plan = self._plan()
        return plan is not None and isinstance(judge(self._task(), plan), Measure)

    def solution(self):
        """Return what the present task comes to."""
        return solve(self._task())

    def won_now(self):
        """Return the states from which there is a good plan."""
        return won_states(self._task())

    def attempt(self, edits):
        """Do several edits, or none of them if one cannot be done."""
        # They are done with a copy, so that this keeper is as it was, whatever goes wrong.
        twin = self.copy()
        for index, edit in enumerate(edits):
            if not is_edit(edit):
                raise BadEdit(index)
            try:
                do_edit(twin, *edit)
            except PlanError as why:
                raise BadEdit(index) from why
        self._story = twin._story

    def trial(self):
        """Return a Trial of this keeper, for a `with` statement."""
        return Trial(self)

    def copy(self):
        """Return an independent keeper with the same history and the same edits to redo."""
        twin = Keeper(self._task())
        twin._story = self._story
        return twin

    def __eq__(self, other):
        if not isinstance(other, Keeper):
            return False
        return are_alike(self._task(), other._task()) and self._plan() == other._plan()

    def _task(self):
        moments, at = self._story
        return moments[at][1]

    def _plan(self):
        moments, at = self._story
        return moments[at][2]

    def _change_world(self, edit, world):
        task = self._task()
        self._go_on(edit, Task(world, task.start, task.goal), fitting_plan(self._plan(), world))

    def _go_on(self, edit, task, plan):
        """Note an edit; the edits that were taken back are gone then."""
        moments, at = self._story
        self._story = ([*moments[:at + 1], (edit, task, plan)], at + 1)


class Trial:
    """Puts a keeper back to what it was when a block was entered, if an error leaves the block."""

    def __init__(self, keeper):
        self._keeper = keeper
        self._entered = None

    def __enter__(self):
        self._entered = Entered(self._keeper._story, self._entered)
        return self._keeper

    def __exit__(self, kind, value, trace):
        keeper = self._keeper
        if kind is not None:
            keeper._story = self._entered.story
        self._entered = self._entered.outer


class Entered:
    """What a keeper was when a block was entered, and the same of the block of this trial around it, or None."""

    def __init__(self, story, outer):
        self.story = story
        self.outer = outer


def are_alike(one, other):
    """Return whether two tasks have equal worlds and equal conditions."""
    return one.base() == other.base() and one.start == other.start and one.goal == other.goal


def is_edit(edit):
    """Return whether a tuple has the name of an edit and as many arguments as it takes."""
    return len(edit) > 0 and edit[0] in ARGUMENTS and len(edit) == ARGUMENTS[edit[0]] + 1


def do_edit(keeper, name, *given):
    """Do an edit that `is_edit` allows."""
    if name == "put":
        keeper.put(*given)
    elif name == "drop":
        keeper.drop(*given)
    elif name == "aim":
        keeper.aim(*given)
    elif name == "keep":
        keeper.keep(*given)
    elif name == "forget":
        keeper.forget()
    elif name == "undo":
        keeper.undo()
    else:
        keeper.redo()
