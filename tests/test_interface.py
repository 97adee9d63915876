"""The interface: names, arguments, and where they are defined."""

import importlib
import inspect
import unittest

from livecopy.book import Book
from livecopy.certificates import Certificate
from livecopy.desk import Desk
from livecopy.keeper import Keeper
from livecopy.live import LiveCopy
from livecopy.machine import Machine
from livecopy.programs import Program
from livecopy.runs import run_plain
from livecopy.streams import Stream

MODULES = {
    "book": {
        "Book": {
            "__init__": "(self, base)",
            "make_patch": "(self, writes, *, requires=(), conflicts=(), size=0)",
            "base_row": "(self)", "writes_of": "(self, number)", "size_of": "(self, number)",
            "required": "(self, number)", "conflicting": "(self, number)",
            "relation": "(self, first, second)",
            "__len__": "(self)", "__iter__": "(self)", "__contains__": "(self, version)",
        },
    },
    "versions": {
        "version_of": "(book, patches)", "join": "(book, first, second)", "meet": "(book, first, second)",
        "without": "(book, version, patches)", "median": "(book, first, second, third)",
        "clamp": "(book, low, high, version)", "difference": "(first, second)",
        "all_versions": "(book, limit=64)",
    },
    "trees": {
        "independent_pair": "(book)", "tree_versions": "(book)", "tree_parent": "(book, number)",
    },
    "plain": {
        "writers": "(book, version, cell)", "value_at": "(book, version, cell)", "row_of": "(book, version)",
    },
    "live": {
        "LiveCopy": {
            "__init__": "(self, book, home=())",
            "toggle": "(self, number)", "lead": "(self, version)", "toggle_all": "(self, numbers)",
            "retrace": "(self, numbers)", "read": "(self, version, cell)", "read_row": "(self, version)",
            "read_many": "(self, version, cells)", "saved": "(self, number)", "hold": "(self)",
            "release": "(self)", "__len__": "(self)", "__iter__": "(self)", "__getitem__": "(self, at)",
        },
        "Pin": {"__init__": "(self, copy)", "__enter__": "(self)", "__exit__": "(self, kind, value, trace)"},
    },
    "ways": {
        "steps": "(book, start, goal)", "way": "(book, start, goal)", "is_way": "(book, versions)",
        "between": "(book, first, second, version)",
    },
    "subbook": {
        "sub_book": "(book, patches)", "translate": "(numbers, version)", "renumber": "(book, order)",
    },
    "collect": {
        "living_range": "(book, living)", "collect": "(book, living)", "collect_copy": "(copy, living)",
    },
    "requests": {
        "plan_cost": "(book, home, requests, plan, *, look=1, toggle=1)",
        "cost_parts": "(book, home, requests, plan)",
        "votes": "(book, requests, number, *, look=1)",
        "gather": "(requests)", "spell_out": "(requests, limit=400)",
    },
    "counters": {
        "row_cost": "(start, votes, toggle, row)", "forward": "(start, votes, toggle)",
        "backward": "(votes, toggle, *, last=0)", "solo_cost": "(start, votes, toggle)",
        "least_row": "(start, votes, toggle)", "greatest_row": "(start, votes, toggle)",
        "end_costs": "(start, votes, toggle)",
    },
    "wishes": {
        "close_wish": "(book, wanted, unwanted)", "wish_of": "(book, version, count)",
        "wish_cost": "(book, home, wishes, plan, *, look=1, toggle=1)",
        "best_wish_plan": "(book, home, wishes, *, look=1, toggle=1)",
    },
    "tables": {
        "stretch_plan": "(book, home, requests, stretch)", "price_table": "(book, home, requests)",
        "table_cost": "(table, *, look=1, toggle=1)",
    },
    "pricing": {
        "stretches": "(look, toggle)", "price_clash": "(book, *, look=1, toggle=1)",
    },
    "plans": {
        "patch_bound": "(book, home, requests, *, look=1, toggle=1)",
        "best_plan": "(book, home, requests, *, look=1, toggle=1)",
        "clash_requests": "(book, first, second, *, look=1, toggle=1)",
        "middle_plan": "(book, home, requests, *, look=1, toggle=1)",
        "two_price_cost": "(book, home, requests, plan, *, look=1, on=1, off=1)",
        "two_price_plan": "(book, home, requests, *, look=1, on=1, off=1)",
    },
    "exact": {
        "exact_cost": "(book, home, requests, *, look=1, toggle=1, limit=64)",
        "exact_plan": "(book, home, requests, *, look=1, toggle=1, limit=64)",
    },
    "certificates": {
        "counter_bound": "(start, votes, toggle, numbers)",
        "Certificate": {"__init__": "(self, plan, numbers)"},
        "certify": "(book, home, requests, plan, *, look=1, toggle=1)",
        "certificate": "(book, home, requests, *, look=1, toggle=1)",
        "check_certificate": "(book, home, requests, candidate, *, look=1, toggle=1)",
    },
    "ends": {
        "EndTable": {
            "__init__": "(self, book, home, *, look=1, toggle=1)",
            "request": "(self, version, count=1)", "cost_to": "(self, version)", "least": "(self)",
            "counters": "(self)", "ends": "(self)", "state": "(self)",
            "resumed": "(book, state, *, look=1, toggle=1)",
        },
    },
    "living": {
        "living_ranges": "(book, living, events)",
        "living_cost": "(book, home, living, events, plan, *, look=1, toggle=1)",
        "living_plan": "(book, home, living, events, *, look=1, toggle=1)",
    },
    "keeper": {
        "Keeper": {
            "__init__": "(self, book, home, *, bound=2, look=1, toggle=1)",
            "request": "(self, version, count=1)", "counters": "(self)", "state": "(self)",
            "resumed": "(book, state, *, bound=2, look=1, toggle=1)",
        },
        "bound_clash": "(book, bound)", "side_sets": "(book, home, requests, bound)",
        "bound_requests": "(book, first, second, bound)",
    },
    "rules": {
        "rule_sides": "(rule, asked)", "rule_cost": "(rule, asked, *, look=1, toggle=1)",
        "foe": "(rule, length)", "side_costs": "(rule, asked, *, look=1, toggle=1)",
    },
    "streams": {
        "Stream": {
            "__init__": "(self, book, home, *, look=1, toggle=1)",
            "request": "(self, version, count=1)", "close": "(self)", "told": "(self)", "doubt": "(self)",
        },
    },
    "orders": {
        "beyond": "(book, home, counts)",
        "order_cost": "(book, home, counts, *, look=1, toggle=1)",
        "best_order": "(book, home, counts, *, look=1, toggle=1)",
    },
    "stories": {
        "story_sides": "(book, home, looks, *, look=1, toggle=1)",
        "story_through": "(book, home, looks, index, version, *, look=1, toggle=1)",
    },
    "programs": {
        "Program": {"__init__": "(self, base, procedures, tasks)"},
    },
    "machine": {
        "Machine": {
            "__init__": "(self, program, number, book)", "next_read": "(self)", "step": "(self, value=0)",
        },
    },
    "movers": {
        "Mover": {"before": "(self, copy, version, index)", "after": "(self, copy, version, index)"},
        "Follow": {"before": "(self, copy, version, index)", "after": "(self, copy, version, index)"},
        "Kept": {
            "__init__": "(self, bound, look=1, toggle=1)",
            "before": "(self, copy, version, index)", "after": "(self, copy, version, index)",
        },
        "Planned": {
            "__init__": "(self, homes)",
            "before": "(self, copy, version, index)", "after": "(self, copy, version, index)",
        },
        "Toggles": {
            "__init__": "(self, lists)",
            "before": "(self, copy, version, index)", "after": "(self, copy, version, index)",
        },
    },
    "runs": {
        "Run": {},
        "run_plain": "(program, turns=())",
        "run_live": "(program, mover, turns=(), *, look=1, toggle=1)",
    },
    "programtext": {"program_text": "(program)", "parse_program": "(text)"},
    "texts": {
        "book_text": "(book)", "parse_book": "(text)", "requests_text": "(requests)", "parse_requests": "(text)",
        "certificate_text": "(certificate)", "parse_certificate": "(text)",
    },
    "desk": {
        "Desk": {
            "__init__": "(self, base, *, bound=2, look=1, toggle=1)",
            "do": "(self, deed)", "journal": "(self)", "undo": "(self)", "back_to": "(self, count)",
            "names": "(self)", "row": "(self, name)", "live_row": "(self)", "text": "(self)",
            "replay": "(base, deeds, *, bound=2, look=1, toggle=1)", "parse": "(text)",
        },
    },
}

STATIC = ("resumed", "replay", "parse")


class InterfaceTest(unittest.TestCase):

    def check_function(self, function, signature, module):
        self.assertTrue(inspect.isfunction(function))
        self.assertEqual(str(inspect.signature(function)), signature)
        self.assertEqual(function.__module__, module)

    def test_names_and_arguments(self):
        for name, listed in MODULES.items():
            module = importlib.import_module(f"livecopy.{name}")
            for entry, form in listed.items():
                with self.subTest(module=name, entry=entry):
                    found = getattr(module, entry)
                    if isinstance(form, str):
                        self.check_function(found, form, module.__name__)
                        continue
                    self.assertTrue(inspect.isclass(found))
                    self.assertEqual(found.__module__, module.__name__)
                    for method, signature in form.items():
                        defined = vars(found)[method]
                        if method in STATIC:
                            self.assertIsInstance(defined, staticmethod)
                            defined = defined.__func__
                        self.check_function(defined, signature, module.__name__)

    def test_fields(self):
        book = Book([0])
        program = Program([0], [], [[]])
        fields = (
            (book, "cells"), (LiveCopy(book), "book home pins"), (Certificate([], []), "plan numbers"),
            (Keeper(book, ()), "home cost"), (Stream(book, ()), "pending"), (program, "base procedures tasks"),
            (Machine(program, 0, book), "status printed"), (run_plain(program), "outcomes requests book homes cost"),
            (Desk([0]), "book home cost"))
        for thing, names in fields:
            for name in names.split():
                with self.subTest(thing=thing, name=name):
                    self.assertIn(name, vars(thing))

    def test_steps_is_a_generator(self):
        self.assertTrue(inspect.isgeneratorfunction(importlib.import_module("livecopy.ways").steps))


if __name__ == "__main__":
    unittest.main()
