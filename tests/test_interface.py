"""The interface: names, arguments, and the files in which they are defined."""

import ast
import inspect
import unittest
from importlib import import_module
from pathlib import Path

PACKAGE = Path(__file__).resolve().parent.parent / "relume"

FUNCTIONS = {
    "nets": {"check_net": ["net"], "check_state": ["net", "state"], "is_full": ["net", "state"]},
    "islands": {"islands_of": ["net", "state"], "is_lit": ["net", "state", "island"]},
    "simplex": {"solve": ["conditions", "count"]},
    "dispatch": {"conditions_of": ["net", "state", "island"],
                 "is_dispatch": ["net", "state", "island", "outputs", "potentials"],
                 "is_barrier": ["net", "state", "island", "integers"],
                 "run_island": ["net", "state", "island"],
                 "is_feasible": ["net", "state", "island"]},
    "moves": {"is_sound": ["net", "state"], "settled": ["net", "state"],
              "after_step": ["net", "state", "step"], "steps_of": ["net", "state"],
              "after_fault": ["net", "state", "fault"], "check_task": ["task"],
              "check_place": ["task", "place"], "answers": ["task", "place", "step"]},
    "game": {"is_guide": ["task", "place", "guide"], "is_trap": ["task", "place", "trap"],
             "decide": ["task", "place"]},
    "plays": {"decided_step": ["task", "place"], "play": ["task", "place", "choices"]},
    "costs": {"cost_of": ["net", "state", "island", "costs", "outputs"],
              "least_run": ["net", "state", "island", "costs"],
              "is_least": ["net", "state", "island", "costs", "answer"],
              "total_cost": ["net", "state", "costs"]},
    "losses": {"loss_of": ["net", "state", "fault"], "harmful_faults": ["task", "state"],
               "is_secure": ["task", "state"], "worst_losses": ["task", "state", "strikes"]},
}

CLASSES = {
    "errors": ["LightError", "BadNet", "BadState", "OutOfRange", "NotAllowed", "TooLong",
               "BadCommand"],
    "desk": ["Desk"],
}

METHODS = {("desk", "Desk"): {"__init__": ["self", "task", "strikes"], "ask": ["self", "command"]}}


def defined_names(file, kind):
    """Return the names that the file itself defines, not those that it imports."""
    rows = ast.parse((PACKAGE / f"{file}.py").read_text(encoding="ascii")).body
    return [row.name for row in rows if isinstance(row, kind)]


class InterfaceTest(unittest.TestCase):
    def test_functions(self):
        for file, functions in FUNCTIONS.items():
            module = import_module(f"relume.{file}")
            for name, parameters in functions.items():
                with self.subTest(file=file, name=name):
                    self.assertIn(name, defined_names(file, ast.FunctionDef))
                    signature = inspect.signature(getattr(module, name))
                    self.assertEqual(list(signature.parameters), parameters)

    def test_classes(self):
        for file, classes in CLASSES.items():
            for name in classes:
                with self.subTest(file=file, name=name):
                    self.assertIn(name, defined_names(file, ast.ClassDef))

    def test_methods(self):
        for (file, name), methods in METHODS.items():
            told = getattr(import_module(f"relume.{file}"), name)
            for method, parameters in methods.items():
                with self.subTest(file=file, name=name, method=method):
                    self.assertIn(method, vars(told))
                    self.assertEqual(list(inspect.signature(vars(told)[method]).parameters), parameters)

    def test_arguments_may_be_passed_by_name(self):
        nets = import_module("relume.nets")
        islands = import_module("relume.islands")
        net = (2, [(0, 1, 1, 1)], [(0, 0, 1, True)], [])
        state = ((0,), (0,), ())
        self.assertIsNone(nets.check_net(net=net))
        self.assertIsNone(nets.check_state(net=net, state=state))
        self.assertIs(nets.is_full(net=net, state=state), True)
        self.assertEqual(islands.islands_of(net=net, state=state), [[0, 1]])
        self.assertIs(islands.is_lit(net=net, state=state, island=[0, 1]), True)

    def test_arguments_of_dispatch_may_be_passed_by_name(self):
        simplex = import_module("relume.simplex")
        dispatch = import_module("relume.dispatch")
        net = (1, [], [(0, 1, 1, True)], [(0, 1)])
        state = ((), (0,), (0,))
        self.assertEqual(simplex.solve(conditions=[[-1]], count=0), ("no", [1]))
        conditions = dispatch.conditions_of(net=net, state=state, island=[0])
        self.assertEqual(conditions, [[-1, 1], [1, -1], [-1, 1], [1, -1]])
        self.assertEqual(dispatch.run_island(net=net, state=state, island=[0]),
                         ("yes", [(1, 1)], [(0, 1)]))
        self.assertIs(dispatch.is_feasible(net=net, state=state, island=[0]), True)
        self.assertIs(dispatch.is_dispatch(net=net, state=state, island=[0], outputs=[(1, 1)],
                                           potentials=[(0, 1)]), True)
        self.assertIs(dispatch.is_barrier(net=net, state=state, island=[0], integers=[0] * 4), False)

    def test_arguments_of_moves_may_be_passed_by_name(self):
        moves = import_module("relume.moves")
        net = (1, [], [(0, 0, 1, True)], [(0, 1)])
        state = ((), (0,), ())
        self.assertIs(moves.is_sound(net=net, state=state), True)
        self.assertEqual(moves.settled(net=net, state=state), state)
        self.assertEqual(moves.after_step(net=net, state=state, step=("feed", 0)), ((), (0,), (0,)))
        self.assertEqual(moves.steps_of(net=net, state=state), [("end", 0), ("feed", 0)])
        self.assertEqual(moves.after_fault(net=net, state=state, fault=("station", 0)), ((), (), ()))
        task = (net, [("station", 0)])
        self.assertIsNone(moves.check_task(task=task))
        self.assertIsNone(moves.check_place(task=task, place=(state, 1)))
        self.assertEqual(moves.answers(task=task, place=(state, 1), step=("end", 0)),
                         [(((), (), ()), 1)])

    def test_arguments_of_game_may_be_passed_by_name(self):
        game = import_module("relume.game")
        task = ((1, [], [], []), [])
        place = (((), (), ()), 0)
        self.assertEqual(game.decide(task=task, place=place), ("lit", 0, []))
        self.assertIs(game.is_guide(task=task, place=place, guide=[]), True)
        self.assertIs(game.is_trap(task=task, place=place, trap=[]), False)

    def test_arguments_of_plays_and_of_a_desk_may_be_passed_by_name(self):
        plays = import_module("relume.plays")
        desk = import_module("relume.desk")
        task = ((1, [], [(0, 0, 1, True)], [(0, 1)]), [])
        place = (((), (0,), ()), 0)
        self.assertEqual(plays.decided_step(task=task, place=place), ("feed", 0))
        self.assertEqual(plays.play(task=task, place=place, choices=[]), [place, (((), (0,), (0,)), 0)])
        self.assertEqual(desk.Desk(task=task, strikes=4).ask(command="state"), "- - - 4")

    def test_arguments_of_costs_and_losses_may_be_passed_by_name(self):
        costs = import_module("relume.costs")
        losses = import_module("relume.losses")
        net = (1, [], [(0, 1, 1, True)], [(0, 1)])
        state = ((), (0,), (0,))
        self.assertEqual(costs.cost_of(net=net, state=state, island=[0], costs=[3], outputs=[(1, 1)]), (3, 1))
        answer = costs.least_run(net=net, state=state, island=[0], costs=[3])
        self.assertEqual(answer[:4], ("least", (3, 1), [(1, 1)], [(0, 1)]))
        self.assertIs(costs.is_least(net=net, state=state, island=[0], costs=[3], answer=answer), True)
        self.assertEqual(costs.total_cost(net=net, state=state, costs=[3]), (3, 1))
        task = (net, [("station", 0)])
        self.assertEqual(losses.loss_of(net=net, state=state, fault=("station", 0)), ([], [0]))
        self.assertEqual(losses.harmful_faults(task=task, state=state), [("station", 0)])
        self.assertIs(losses.is_secure(task=task, state=state), False)
        self.assertEqual(losses.worst_losses(task=task, state=state, strikes=1), 1)


class PackageTest(unittest.TestCase):
    """Promise 2 over the whole program, as far as its text shows it."""

    def rows(self):
        """Return each statement and expression of the package, with the name of its file."""
        files = sorted(PACKAGE.glob("*.py"))
        self.assertGreater(len(files), 10)
        return [(file.name, row) for file in files for row in ast.walk(ast.parse(file.read_text(encoding="ascii")))]

    def test_only_the_package_and_integers_are_imported(self):
        # So there is no clock, no random source, no file and no network.
        for file, row in self.rows():
            self.assertNotIsInstance(row, ast.Import)
            if isinstance(row, ast.ImportFrom):
                with self.subTest(file=file, line=row.lineno):
                    names = {alias.name for alias in row.names}
                    self.assertTrue(row.module.startswith("relume.") or row.module == "math")
                    if row.module == "math":
                        self.assertLessEqual(names, {"gcd", "lcm"})

    def test_no_files_and_no_input(self):
        for file, row in self.rows():
            if isinstance(row, ast.Name):
                with self.subTest(file=file, line=row.lineno):
                    self.assertNotIn(row.id, ("open", "input", "print", "eval", "exec", "compile", "float", "complex"))

    def test_only_integers(self):
        for file, row in self.rows():
            self.assertNotIsInstance(row, ast.Div)
            if isinstance(row, ast.Constant):
                with self.subTest(file=file, line=row.lineno):
                    self.assertIn(type(row.value), (int, str, bool, type(None)))

    def test_only_the_classes_of_errors_are_raised(self):
        raised = set()
        for file, row in self.rows():
            if isinstance(row, ast.Raise):
                with self.subTest(file=file, line=row.lineno):
                    self.assertIn(row.exc.func.id, CLASSES["errors"][1:])
                    self.assertEqual(len(row.exc.args), 1)
                    raised.add(row.exc.func.id)
        self.assertEqual(raised, set(CLASSES["errors"][1:]))


if __name__ == "__main__":
    unittest.main()
