"""The interface: names, arguments and files, as the document lists them."""

import importlib
import inspect
import unittest

FUNCTIONS = {
    "forms": """is_integer(thing) is_needs(thing) is_layout(needs, thing) is_right(needs, thing) is_task(thing)
        is_lot(many, thing) is_stretch(many, thing) is_plan(many, thing)""",
    "layouts": """standings(needs, layout) rooms(needs, layout) wrong_places(task) staying_places(task)
        free_places(task) open_places(task) places_of(stretch) can_be_done(layout, stretch) does(task, plan)
        led(layout, stretch) led_by(layout, plan) writes_of(plan)""",
    "texts": "show_task(task) show_plan(plan)",
    "reader": "read_task(text) read_plan(many, text)",
    "parts": """arrows_of(task) parts_of(task) closed_parts(task) open_parts(task) values_in(task, part)
        places_with_room(task) counts_of(task) rounds_of(task, part) is_even(task) spare_many(task)""",
    "changes": """renamed(task, values, places) beside(one, other) turned(task) with_spare(task, many)
        without_part(task, index)""",
    "views": """going_on(store) whole_places(store) lost_places(store) readers(store, value) untold(store)
        left_to_write(store) shown(store) lost_of(store, value)""",
    "judge": """left_standings(needs, layout, stretch) is_safe(needs, layout, stretch) is_safe_plan(task, thing)
        first_unsafe(task, plan) borne_losses(task, plan)""",
    "lookalikes": """lookalike(needs, layout, stretch) first_lookalike(task, plan)
        is_lookalike(needs, layout, stretch, thing)""",
    "rows": """is_row(needs, layout, thing) is_whole_run(needs, layout, row, begin, end)
        is_row_paper(needs, layout, row, thing) cut_row(needs, layout, row) row_paper(needs, layout, row)""",
    "writes": "has_plan(task) needs_one_more(task) fewest_writes(task)",
    "fewest": "fewest_plan(task) can_begin(task)",
    "asides": "asides_of(task, plan) aside_paper(task, plan) is_aside_paper(task, plan, thing)",
    "groups": """places_taken(task, group, k) grouping_writes(task, grouping, k) fits_within(task, grouping, k)
        is_grouping(task, thing) best_grouping(task, k)""",
    "fronts": "writes_within(task, k) fewest_stretches(task) front(task)",
    "groupplans": "plan_within(task, k) token_rows(task, plan) is_token_rows(task, plan, thing)",
    "once": "over_tails(task) can_once(task) once_plan(task)",
    "charging": """fills_of(task) bearing(task, fill) charging(task) is_charging(task, thing) can_twice(task)
        twice_plan(task)""",
    "bars": "bar_of(task, fill) is_bar(task, fill, thing) bars_of(task)",
    "sides": "least_stretches(task) short_plan(task) is_met(task)",
    "ranks": """rank_of(prime, forms) factors_for(prime, forms, form) tells_all(prime, many, layout, lot)
        is_linear_task(thing) led_forms(prime, layout, stretch) wrong_forms(task)""",
    "sumplans": """own_form(many, value) forms_of(many, layout) sum_form(prime, many, layout, some)
        led_by_sums(prime, many, layout, plan) as_sums(plan) is_sums(prime, places, thing)
        is_reading(prime, many, layout, lot, r, thing) is_sum_plan(prime, task, r, thing)
        reading(prime, many, layout, lot, r)""",
    "fewsums": "fewest_sum_writes(task, r) sum_plan(prime, task, r)",
    "openings": """asides(task, plan) openings(task, plan) opened_rows(prime, task, r, plan)
        is_opened_rows(prime, task, r, plan, thing)""",
    "twolots": "parting_lots(task) barring_lot(task) two_plan(task) is_parting(task, thing) is_barring(task, thing)",
    "fullplans": """is_linear_plan(task, most, thing) fewest_linear(task, most) linear_plan(task, most)
        linear_front(task)""",
    "losses": "borne(prime, many, layout, lot) breaking_lot(prime, many, layout, lot)",
    "prices": """price_of(plan, prices) least_price(task, prices) price_parts(task, prices)
        cheapest_plan(task, prices)""",
    "wear": """wear_of(plan) least_wear(task) even_plan(task) fits(sizes, layout) can_come(task, sizes)
        lacking_size(task, sizes)""",
    "anew": """can_change(needs, layout, value) is_fit(needs, layout, value, thing) changed(needs, layout, value)
        changed_one_by_one(needs, layout, values)""",
    "fromhere": """layout_at(task, plan, index) writes_left(task, plan) places_to_spare(task)
        lost_amid(task, plan, index) task_from(task, plan, index) back_plan(task, plan, index)
        lost_task(task, place)""",
}
CLASSES = {
    ("store", "Store"): """__init__(task, plan) __eq__(other) write(place) spoil(place) cut() lose(place) mark() turn()
        undo() twin()""",
    ("book", "Book"): """__init__(task) __eq__(other) add_place() set_wish(place, item) set_need(value, need)
        go_on(stretch) promise(thing) undo() free(index) task() promises() twin()""",
}

ORDER = (
    "errors forms layouts texts reader parts changes store views judge lookalikes rows writes fewest asides groups "
    "fronts groupplans once charging bars sides ranks sumplans fewsums openings twolots fullplans losses prices wear "
    "anew fromhere book"
).split()


def split(listed):
    """The tuples of a name and the names of its arguments."""
    rows = [row.split("(") for row in " ".join(listed.split()).split(")")[:-1]]
    return [(name.strip(), [word for word in given.split(", ") if word]) for name, given in rows]


class Interface(unittest.TestCase):
    def test_functions(self):
        for module, listed in FUNCTIONS.items():
            for name, given in split(listed):
                found = getattr(importlib.import_module("whilemoved." + module), name)
                self.assertEqual(found.__module__, "whilemoved." + module)
                self.assertEqual(list(inspect.signature(found).parameters), given, name)

    def test_a_module_uses_those_above_it(self):
        for at, module in enumerate(ORDER):
            found = importlib.import_module("whilemoved." + module)
            for thing in vars(found).values():
                if inspect.isfunction(thing) or inspect.isclass(thing):
                    words = thing.__module__.split(".")
                    if words[0] == "whilemoved":
                        self.assertIn(words[1], ORDER[:at + 1], (module, thing.__name__))

    def test_all_modules_are_listed(self):
        told = sorted(set(FUNCTIONS) | {module for module, _ in CLASSES} | {"errors"})
        self.assertEqual(told, sorted(ORDER))

    def test_classes(self):
        for (module, name), listed in CLASSES.items():
            found = getattr(importlib.import_module("whilemoved." + module), name)
            self.assertEqual(found.__module__, "whilemoved." + module)
            for method, given in split(listed):
                self.assertIn(method, vars(found))
                self.assertEqual(list(inspect.signature(vars(found)[method]).parameters), ["self"] + given, method)


if __name__ == "__main__":
    unittest.main()
