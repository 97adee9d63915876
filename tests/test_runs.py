"""Points 68, 69 and 71: plain and live runs."""

import copy
import random
import unittest

from livecopy.errors import BadPlan, BadPrice, BadTurn, UnknownPatch
from livecopy.keeper import Keeper
from livecopy.movers import Follow, Kept, Mover, Planned, Toggles
from livecopy.plans import best_plan, patch_bound
from livecopy.programs import Program
from livecopy.requests import plan_cost
from livecopy.runs import Run, run_live, run_plain
from tests.support import refused, same_arguments, snapshot
from tests.taskmodel import ModelWorld, random_parts

FAIL = ("fail",)


def example_program():
    """Two tasks that make the book of point 78 and a further patch, and read from it."""
    first = [
        ("put", "a", "base", [(0, 1)]), ("put", "b", "a", [(0, 2)]), ("put", "c", "base", [(0, 3)]),
        ("repeat", 3, [("read", "x", "b", 0)]), ("read", "y", "c", 0), ("read", "x", "b", 0), ("print", "x"), ("print", "y")]
    second = [("put", "a", "base", [(1, 7)]), ("read", "x", "a", 1), ("print", "x"), ("either", [FAIL], [("print", 0)])]
    return Program([0, 5], [], [first, second])


def fields(run):
    return run.outcomes, run.requests, snapshot(run.book), run.homes, run.cost


def random_program(seed):
    source = random.Random(seed)
    program = Program(*random_parts(source))
    turns = [source.randrange(len(program.tasks)) for _ in range(source.choice((0, 7, 60, 400)))]
    return program, turns, source


class Watched(Mover):
    """Passes everything to another mover, and keeps account by the words of point 71."""

    def __init__(self, inner):
        self.inner = inner
        self.homes, self.requests, self.toggled, self.calls = [], [], [], []

    def before(self, copy, version, index):
        self.copy = copy
        self.calls.append(("before", version, index))
        toggled = self.inner.before(copy, version, index)
        self.toggled += toggled
        self.homes.append(copy.home)
        self.requests.append((version, 1))
        return toggled

    def after(self, copy, version, index):
        self.calls.append(("after", version, index))
        toggled = self.inner.after(copy, version, index)
        self.toggled += toggled
        return toggled

    def cost(self, book, look, toggle):
        apart = [number for home, (version, _) in zip(self.homes, self.requests) for number in set(home) ^ set(version)]
        return sum(look * book.size_of(n) for n in apart) + sum(toggle * book.size_of(n) for n in self.toggled)


class PlainRunTest(unittest.TestCase):

    def test_a_run(self):
        run = same_arguments(self, run_plain, example_program())
        self.assertIs(run.__class__, Run)
        self.assertEqual(run.outcomes, [("done", [2, 3]), ("done", [7, 0])])
        self.assertEqual(run.requests, [((1, 2), 1)] * 3 + [((3,), 1), ((1, 2), 1), ((4,), 1)])
        self.assertEqual((run.homes, run.cost, len(run.book)), ([], 0, 4))
        self.assertEqual([run.book.writes_of(n) for n in run.book], [[(0, 1)], [(0, 2)], [(0, 3)], [(1, 7)]])
        self.assertEqual((run.book.base_row(), run.book.required(2), run.book.conflicting(3)), ([0, 5], (1,), (1, 2)))

    def test_turns(self):
        # The second task makes patch 2, and both are at their reads after nine turns.
        turns = [0, 1, 0, 0, 1, 1, 0, 0, 1]
        run = same_arguments(self, run_plain, example_program(), turns)
        self.assertEqual(run.requests, [((2,), 1)] + [((1, 3), 1)] * 3 + [((4,), 1), ((1, 3), 1)])
        self.assertEqual(run.outcomes, run_plain(example_program()).outcomes)
        self.assertEqual([run.book.writes_of(n) for n in run.book], [[(0, 1)], [(1, 7)], [(0, 2)], [(0, 3)]])

    def test_turns_of_a_task_that_has_ended(self):
        run = run_plain(example_program(), [1] * 50 + [0])
        self.assertEqual([request[0] for request in run.requests], [(1,)] + [(2, 3)] * 3 + [(4,), (2, 3)])

    def test_turns_may_be_the_empty_tuple_or_list(self):
        self.assertEqual(fields(run_plain(example_program(), ())), fields(run_plain(example_program(), [])))

    def test_bad_turns(self):
        for turns, index in (([2], 0), ([-1], 0), ([0, 1, 2, -1], 2), ([0, -3, 9], 1), ([1, 10 ** 30], 1)):
            refused(self, BadTurn, (index,), run_plain, example_program(), turns)
            refused(self, BadTurn, (index,), run_live, example_program(), Mover(), turns, look=0)
        refused(self, BadTurn, (0,), run_plain, Program([0], [], []), [0])

    def test_a_program_without_tasks(self):
        for run in (run_plain(Program([3], [], [])), run_live(Program([3], [], []), Follow())):
            self.assertEqual((run.outcomes, run.requests, run.homes, run.cost, len(run.book)), ([], [], [], 0, 0))
            self.assertEqual(run.book.base_row(), [3])

    def test_tasks_that_fail_or_stop(self):
        program = Program([0], [], [
            [("print", 1), FAIL], [("print", 2)] * 301, [], [("print", 3), ("either", [("print", 4)], []), FAIL]])
        run = run_plain(program)
        self.assertEqual(run.outcomes, [("failed", []), ("stopped", [2] * 300), ("done", []), ("failed", [])])

    def test_what_was_done_on_a_way_that_failed_stays(self):
        program = Program([0], [], [[
            ("either", [("put", "a", "base", [(0, 1)]), ("read", "x", "a", 0), FAIL], []), ("read", "x", "base", 0)]])
        run = run_plain(program)
        self.assertEqual((run.outcomes, run.requests, len(run.book)), ([("done", [])], [((1,), 1), ((), 1)], 1))

    def test_by_words(self):
        for seed in range(400, 650):
            program, turns, source = random_program(seed)
            world, run = ModelWorld(program, turns), run_plain(program, turns)
            self.assertEqual(fields(run), (world.outcomes, world.requests, snapshot(world.book), [], 0))
            self.assertEqual(run_plain(program).outcomes, run.outcomes)

    def test_runs_share_nothing(self):
        program = example_program()
        kept = copy.deepcopy((program.base, program.procedures, program.tasks))
        first = run_plain(program)
        first.outcomes[0][1].append(5)
        first.outcomes.clear()
        first.requests.clear()
        first.homes.append(())
        first.book.make_patch([(0, 9)])
        second = run_plain(program)
        self.assertEqual((len(second.book), second.outcomes[0]), (4, ("done", [2, 3])))
        self.assertEqual((program.base, program.procedures, program.tasks), kept)

    def test_values_are_those_of_point_15(self):
        program = Program([10 ** 60], [], [[
            ("put", "a", "base", [(0, 5)]), ("loose", "b", "a", [(0, 6)]), ("read", "x", "b", 0), ("print", "x"),
            ("read", "x", "a", 0), ("print", "x"), ("read", "x", "base", 0), ("print", "x")]])
        self.assertEqual(run_plain(program).outcomes, [("done", [6, 5, 10 ** 60])])
        self.assertEqual(run_live(program, Follow()).outcomes, [("done", [6, 5, 10 ** 60])])


class LiveRunTest(unittest.TestCase):

    def movers(self, source):
        lists = [[source.randrange(-1, 9) for _ in range(source.randrange(5))] for _ in range(40)]
        return [
            Mover(), Follow(), Kept(source.randrange(1, 5)), Planned([()] * source.randrange(9)), Toggles(lists),
            Kept(1, 5, 0)]

    def test_never_moved(self):
        run = run_live(example_program(), Mover(), look=3, toggle=100)
        self.assertEqual((run.homes, run.cost), ([()] * 6, 3 * (2 * 4 + 1 + 1)))

    def test_follow(self):
        run = run_live(example_program(), Follow(), look=100, toggle=3)
        self.assertEqual(run.homes, [request[0] for request in run.requests])
        self.assertEqual(run.cost, 3 * (2 + 3 + 3 + 3))

    def test_kept(self):
        run = run_live(example_program(), Kept(2, 7, 9), look=1, toggle=1)
        self.assertEqual(run.homes, [(), ()] + [(1, 2)] * 4)
        # 2 + 2 looks, 2 toggles, 0, 3, 0 and 3 looks.
        self.assertEqual(run.cost, 12)

    def test_toggles_behind_the_last_read_cost_too(self):
        program = Program([0], [], [[("put", "a", "base", [(0, 1)]), ("read", "x", "a", 0)]])
        run = run_live(program, Kept(1), look=10, toggle=3)
        self.assertEqual((run.homes, run.cost), ([()], 13))

    def test_a_patch_that_is_toggled_back_at_once(self):
        run = run_live(example_program(), Toggles([[1, 1, 1, 2, 2]]), look=1, toggle=5)
        self.assertEqual(run.homes, [(1,)] * 6)
        self.assertEqual(run.cost, 5 * 5 + (1 + 1 + 1 + 2 + 1 + 2))

    def test_planned(self):
        run = run_live(example_program(), Planned([(), (3,), (1,)]), look=10, toggle=1)
        self.assertEqual(run.homes, [(), (3,), (1,), (1,), (1,), (1,)])
        self.assertEqual(run.cost, 3 + 10 * (2 + 3 + 1 + 2 + 1 + 2))

    def test_entries_that_are_no_versions_at_the_moment(self):
        refused(self, BadPlan, (0,), run_live, example_program(), Planned([(5,)]))
        refused(self, BadPlan, (1,), run_live, example_program(), Planned([(3,), (1, 3)]))
        # Patch 4 is made by the second task, which is ahead of the reads or behind them.
        refused(self, BadPlan, (0,), run_live, example_program(), Planned([(4,)]))
        self.assertEqual(run_live(example_program(), Planned([(), (), (), (), (), (4,)])).homes[-1], (4,))

    def test_prices(self):
        for mover in (Mover(), Kept(2)):
            refused(self, BadPrice, (0,), run_live, example_program(), mover, look=0, toggle=-1)
            refused(self, BadPrice, (-1,), run_live, example_program(), mover, [0, 1], toggle=-1)
            # A call that is refused for its turns or prices is no run of the mover.
            refused(self, BadTurn, (1,), run_live, example_program(), mover, [0, 2])
            self.assertEqual(len(run_live(example_program(), mover, toggle=0).homes), 6)

    def test_errors_of_a_mover(self):
        class Wild(Mover):
            def after(self, copy, version, index):
                if index == 2:
                    raise UnknownPatch(77)
                return []

        refused(self, UnknownPatch, (77,), run_live, example_program(), Wild())

    def test_calls_of_the_mover(self):
        watched = Watched(Follow())
        run = run_live(example_program(), watched, [0, 1, 0, 0, 1])
        calls = [(name, request[0], index) for index, request in enumerate(run.requests) for name in ("before", "after")]
        self.assertEqual(watched.calls, calls)
        self.assertIs(watched.copy.book, run.book)
        self.assertEqual(watched.copy.pins, 0)

    def test_whatever_the_mover_does(self):
        for seed in range(650, 800):
            program, turns, source = random_program(seed)
            plain = run_plain(program, turns)
            look, toggle = source.randrange(1, 4), source.randrange(5)
            for mover in self.movers(source):
                watched = Watched(mover)
                run = run_live(program, watched, turns, look=look, toggle=toggle)
                self.assertEqual(fields(run)[:3], fields(plain)[:3])
                self.assertEqual((run.homes, run.requests), (watched.homes, watched.requests))
                self.assertEqual(run.cost, watched.cost(run.book, look, toggle))

    def test_the_best_plan(self):
        for seed in range(800, 900):
            program, turns, source = random_program(seed)
            plain = run_plain(program, turns)
            look, toggle = source.randrange(1, 4), source.randrange(5)
            homes = best_plan(plain.book, (), plain.requests, look=look, toggle=toggle)
            run = run_live(program, Planned(homes), turns, look=look, toggle=toggle)
            bound = patch_bound(plain.book, (), plain.requests, look=look, toggle=toggle)
            self.assertEqual((run.homes, run.cost), (homes, bound))
            self.assertEqual(plan_cost(run.book, (), run.requests, homes, look=look, toggle=toggle), bound)
            for mover in self.movers(source):
                self.assertLessEqual(bound, run_live(program, mover, turns, look=look, toggle=toggle).cost)

    def test_kept_pays_what_its_keeper_pays(self):
        for seed in range(900, 950):
            program, turns, source = random_program(seed)
            run = run_live(program, Kept(3), turns, look=2, toggle=5)
            keeper = Keeper(run.book, (), bound=3, look=2, toggle=5)
            homes = []
            for version, _ in run.requests:
                homes.append(keeper.home)
                keeper.request(version)
            self.assertEqual((run.homes, run.cost), (homes, keeper.cost))

    def test_the_longest_runs(self):
        body = [("put", "a", "a", [(0, "x")]), ("read", "x", "a", 0), ("sum", "x", "x", 1)]
        task = [("put", "a", "base", [(0, 1)]), *[("repeat", 9, [("repeat", 9, body)])] * 2]
        program = Program([0] * 400, [], [task] * 4)
        turns = [number % 4 for number in range(400)]
        plain = run_plain(program, turns)
        self.assertEqual([status for status, _ in plain.outcomes], ["stopped"] * 4)
        for mover in (Mover(), Follow(), Kept(2), Toggles([[1, 1]] * 1200)):
            run = run_live(program, mover, turns)
            self.assertEqual((run.outcomes, run.requests, len(run.book)), (plain.outcomes, plain.requests, len(plain.book)))


if __name__ == "__main__":
    unittest.main()
