"""The form of the package: its interface, and the rules of the language that a reader can count."""

import ast
import builtins
import importlib
import inspect
import pathlib
import unittest

FOLDER = pathlib.Path(__file__).resolve().parent.parent / "doubtborne"
LIBRARY = ("heapq", "math", "itertools")
INTERFACE = {
    "sets": ("inside(first, second)", "common(first, second)", "maximal_of(sets)", "minimal_of(sets)"),
    "tables": (
        "is_table(table)", "is_belief(table, belief)", "may_touch(table, belief, command)",
        "readings_after(table, belief, command)", "after(table, belief, command, reading)",
        "ended(goals, belief)", "both_goals(first, second)"),
    "plans": (
        "parse_plan(text)", "plan_text(plan)", "doors_of(plan)", "cell_kind(plan, setting, cell)",
        "mark_of(plan, cell)", "next_cell(plan, cell, direction)"),
    "doors": ("keeps(rule, setting)", "settings(doors, rules)", "sure_doors(doors, rules)"),
    "rulesets": ("least_rules(doors, rules, literal)", "least_clash(doors, rules)"),
    "clauses": ("prime_clauses(doors, cases)", "kept_by(doors, clauses)"),
    "reached": ("distances(plan, setting, cell)", "passage_terms(plan, cases, cell, aim)"),
    "sensors": (
        "sensor_top(sensor)", "ahead(plan, setting, cell, direction)",
        "sensor_values(plan, setting, sensor, broken, cell, others, bumped)"),
    "readings": (
        "readings_at(plan, setting, sensors, broken, cell, others, bumped)",
        "fits_at(plan, setting, sensors, broken, cell, others, bumped, reading)"),
    "alike": (
        "places_that_fit(plan, cases, sensors, reading)", "alike_places(plan, cases, sensors)",
        "parting_sensors(plan, cases, sensors)"),
    "walking": ("walked(plan, setting, cell, direction, trail)",),
    "faults": ("strikes(faults, most, struck)", "broken_by(sensors, faults, struck)"),
    "commands": (
        "trails_of(plan, pushes, faults, struck, cell, command)",
        "ends_of(plan, setting, pushes, faults, struck, cell, command)",
        "sweeps(plan, setting, pushes, faults, struck, cell, command)",
        "starts_of(plan, setting, pushes, faults, struck, cell, command)"),
    "movers": ("may_go(mover, posts)", "posts_after(mover, posts, many)", "round_of(mover, posts)"),
    "meeting": ("meets(way, old, new)", "first_meeting(mover, posts, cell)", "least_wait(mover, posts, way)"),
    "tracking": (
        "tracked(width, mover, posts, sensor, cells, values)",
        "track(width, mover, posts, sensor, cells, values, post)"),
    "tasks": ("outcome(task, marks)", "rest(task, mark)", "status(task)"),
    "residuals": (
        "residuals(task, marks)", "parted(first, second, marks)", "find_alike(first, second, marks)",
        "judge_alike(first, second, marks, paper)"),
    "taskparsing": ("parse_task(text)",),
    "tasktexts": ("task_text(task)",),
    "books": ("check_book(book)",),
    "worlds": ("start_worlds(book)", "outcomes(book, world, command)"),
    "models": ("model_of(book)",),
    "modelgoals": (
        "task_goals(model)", "door_goals(model, door)", "cell_goals(model)", "map_goals(model)",
        "flags(model, fault)"),
    "modelfacts": ("map_known(model, belief)", "cells_known(model, belief)", "costs_of(book, model)"),
    "courses": ("judge_course(book, course)",),
    "filtering": ("filtered(table, start, history)", "past(table, start, history)"),
    "witnesses": (
        "witness(table, start, history, world)", "judge_run(table, start, history, run)",
        "doubted(table, start, history)"),
    "filters": ("Filter(table, start)",),
    "webs": ("web(table, goals, start)", "steps_of(table, goals, start)"),
    "policies": (
        "find_policy(table, goals, start)", "judge_policy(table, goals, start, m, policy)",
        "command_of(policy, belief)"),
    "refutations": (
        "find_refutation(table, goals, start, m)", "judge_refutation(table, goals, start, m, refutation)"),
    "safety": (
        "safe(table, goals, start)", "find_safe(table, goals, start)", "find_danger(table, goals, start)",
        "judge_safe(table, goals, start, paper)", "judge_danger(table, goals, start, paper)"),
    "blindness": ("blind(table, goals, start)",),
    "maximal": (
        "borne_table(table, goals)", "unborne_table(table, goals)", "safe_table(table, goals)",
        "whole_policy(table, goals)"),
    "seeing": ("seen_by(model, kept)", "sensor_sets(model, many, goals, steps)"),
    "doubtsets": ("door_sets(model, goals, steps, setting)",),
    "greatest": ("greatest_error(book, number, steps)", "greatest_most(book, steps)"),
    "tightening": ("tighter(book, other)", "carried(policy, model, second)"),
    "questions": (
        "asked(table, start, answers)", "answered_within(table, start, answers)", "unknowable_pairs(table)"),
    "noticing": (
        "noticed(table, first, second)", "find_unnoticed(table, first, second)",
        "judge_unnoticed(table, first, second, paper)"),
    "worth": ("price_of_doubt(table, goals, start, parts)", "doors_worth_knowing(model, goals)"),
    "twins": (
        "known_within(table, flags, start)", "find_ring(table, flags, start)",
        "judge_ring(table, flags, start, ring)"),
    "charging": (
        "charged(table, costs, room)", "charged_goals(goals, room)", "with_charge(belief, charge, room)",
        "lowest(belief, room)"),
    "leastcharge": ("least_charge(table, goals, costs, room, start)",),
    "legs": (
        "judge_leg(table, leg)", "judge_chain(table, goals, start, chain)", "joined(chain)",
        "cut(goals, start, m, policy, cuts)"),
    "solving": ("solved(table, goals, start)",),
    "changing": (
        "exposed(table, other, goals, start)", "changed_steps(table, other, goals, start)",
        "updated(triples, table, other, goals, start)"),
    "walls": ("with_wall(book, cell)",),
    "verdicts": (
        "verdict_of(table, goals, belief, n)", "hope(table, goals, belief, n)", "find_loss(table, goals, belief, n)",
        "judge_loss(table, goals, belief, n, paper)"),
    "robots": ("Robot(book, time, charge)",),
}
# The methods that stand in the body of a class of the interface, as they are called.
METHODS = {
    ("filters", "Filter"): (
        "go_on(command, reading)", "each_belief()", "resume(state)", "trial()", "tried(history)",
        "along(table, start, history)"),
    ("robots", "Robot"): (
        "possible()", "map_now()", "cells_now()", "next_command()", "tell_reading(reading)", "tell_rule(rule)",
        "tell_cell(cell)", "resume(state)", "trial()", "tried(readings)", "walk_through(readings)",
        "along(book, time, charge, log)"),
}
PROPERTIES = {
    ("filters", "Filter"): (("present", False), ("gone", False), ("state", True)),
    ("robots", "Robot"): (
        ("present", False), ("time_left", False), ("verdict", False), ("steps_left", False), ("log", False),
        ("state", True)),
}


def sources():
    """Each file of the package with its text."""
    return [(path, path.read_text("utf-8")) for path in sorted(FOLDER.glob("*.py"))]


class TestInterface(unittest.TestCase):

    def test_functions_are_defined_where_the_interface_lists_them(self):
        for name, signatures in INTERFACE.items():
            module = importlib.import_module("doubtborne." + name)
            for signature in signatures:
                function = getattr(module, signature.split("(")[0])
                self.assertEqual(function.__name__ + str(inspect.signature(function)), signature)
                self.assertEqual(function.__module__, module.__name__)

    def test_methods_stand_in_the_body_of_their_class(self):
        for (name, title), signatures in METHODS.items():
            made = getattr(importlib.import_module("doubtborne." + name), title)
            for signature in signatures:
                method = signature.split("(")[0]
                self.assertIn(method, vars(made))
                called = str(inspect.signature(getattr(made, method))).replace("(self, ", "(").replace("(self)", "()")
                self.assertEqual(method + called, signature)

    def test_properties_stand_in_the_body_of_their_class(self):
        for (name, title), properties in PROPERTIES.items():
            made = getattr(importlib.import_module("doubtborne." + name), title)
            for attribute, is_set in properties:
                self.assertIsInstance(vars(made)[attribute], property)
                self.assertEqual(vars(made)[attribute].fset is not None, is_set)


class TestForm(unittest.TestCase):

    def test_the_folder_has_only_python_files(self):
        for path in FOLDER.iterdir():
            self.assertTrue(path.suffix == ".py" or path.name == "__pycache__", path)

    def test_sizes_and_characters(self):
        for path, text in sources():
            lines = text.split("\n")
            self.assertLessEqual(len(lines), 400, path)
            self.assertLessEqual(max(len(line) for line in lines), 120, path)
            self.assertTrue(all(sign == "\n" or " " <= sign <= "~" for sign in text), path)

    def test_functions_have_at_most_40_lines(self):
        for path, text in sources():
            for node in ast.walk(ast.parse(text)):
                if isinstance(node, ast.FunctionDef):
                    self.assertLessEqual(node.end_lineno - node.lineno + 1, 40, (path, node.name))

    def test_imports(self):
        for path, text in sources():
            for node in ast.walk(ast.parse(text)):
                self.assertNotIsInstance(node, ast.Import, path)
                if isinstance(node, ast.ImportFrom):
                    self.assertEqual(node.level, 0, path)
                    self.assertTrue(node.module.startswith("doubtborne.") or node.module in LIBRARY, path)

    def test_no_name_of_a_builtin_is_given_another_meaning(self):
        for path, text in sources():
            for node in ast.walk(ast.parse(text)):
                self.assertFalse(set(names_bound_by(node)) & (set(dir(builtins)) - {"_"}), path)

    def test_strings_have_no_percent_sign(self):
        for path, text in sources():
            for node in ast.walk(ast.parse(text)):
                if isinstance(node, ast.Constant) and isinstance(node.value, str):
                    self.assertNotIn(chr(37), node.value, path)


def names_bound_by(node):
    """The names that this node of a tree binds."""
    if isinstance(node, (ast.FunctionDef, ast.ClassDef)):
        return [node.name]
    if isinstance(node, ast.arg):
        return [node.arg]
    if isinstance(node, ast.Name) and isinstance(node.ctx, ast.Store):
        return [node.id]
    return []


if __name__ == "__main__":
    unittest.main()
