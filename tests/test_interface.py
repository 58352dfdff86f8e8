"""The interface by its names: where each function and class is defined, and how its arguments are called."""

import importlib
import inspect
import unittest

FUNCTIONS = {
    "deeds": """
        is_name(value); is_deed(value); is_alter(deed); key_of(deed); in_order(deed)
    """,
    "plain": """
        columns_at(past, t); row_at(past, key, t); rows_at(past, t); ask(past, key, name, t)
    """,
    "stories": """
        idle(past); story(past); map_at(past, t); stored_at(past, key, t); cells_at(past, key, t)
    """,
    "changes": """
        is_change(past, value); changed(past, change); opposite(past, change); touched(past, change)
        shown(past, change); are_apart(past, one, other)
    """,
    "deciders": """
        deciders(past, t); deciders_of(past, key, t); are_enough(past, key, t, value)
        answer_paper(past, key, name, t); accepts_answer(past, paper)
    """,
    "votes": """
        is_votes(value); is_write_lot(votes, need, lot); is_enough(votes, need, unruly, lot)
        enough_lots(votes, need, unruly); write_lots(votes, need); missed_paper(votes, need, unruly, lot)
        accepts_missed(votes, need, unruly, paper); chances(votes, need, unruly, ups)
        best_counts(count, unruly, up, share); best_votes(ups, unruly, share)
    """,
    "views": """
        unfinished(copies, votes, need); needs_yet(copies, votes, need, number); heard(copies, votes, need, unruly)
        may_see(copies, votes, need, unruly, moment); answers_of(copies, votes, need, unruly, key, name, t)
        is_settled(copies, votes, need, unruly, key, name, t)
    """,
    "walks": """
        distance(pages, begin, page); is_let(pages, rule, begin, page, moves); sights(pages, rule, begin, page, moves)
        walk_paper(pages, rule); accepts_walk(pages, rule, value); least_moves(pages, begins, page)
        most_missed(pages, begins, places, count)
    """,
    "walked": """
        is_safe(count, reads, writes, unruly, pages=2); lost_case(count, reads, writes, unruly, pages=2)
        unruly_case(count, reads, writes, unruly, pages=2); are_safe(writes, reads, unruly)
        least_bars(writes, reads, unruly); bars_by_count(count, reads, writes, unruly)
    """,
    "conditions": """
        is_condition(value); tests_of(condition); names_of(condition); paths(condition); run(condition, past, key, t)
        asked(condition, past, key, t); is_arrangement(condition, value); how_many_orders(condition)
    """,
    "pictures": """
        cuts_of(condition); region(cuts, value); witness(cuts, region); pictures(condition)
        picture_of(condition, past, key, t); past_of(condition, picture); outcome(condition, picture)
        first_with(condition, word); unlike(one, other); unlike_past(one, other)
    """,
    "plans": """
        guards(condition); is_guarded(condition); meaning(condition, past, key, t); mean(condition, costs, shares)
        cheapest(condition, costs, shares)
    """,
    "choosing": """
        unlike_tests(condition); first_knowing(condition); closed(condition, knowing); sure_value(condition, knowing)
        let_tests(condition, knowing); least_mean(condition, costs, shares); least_plan(condition, costs, shares)
        plan_mean(condition, costs, shares, plan); is_plan(condition, value); chosen(condition, plan, past, key, t)
        accepts_bound(condition, costs, shares, value); told_bound(condition, costs, shares)
    """,
    "overkeys": """
        run_over(condition, past, count, t); asked_over(condition, past, count, t)
        mean_over(condition, costs, shares, count); cheapest_over(condition, costs, shares, count)
    """,
    "parted": """
        mixed_outcome(condition, one, other, count); parted(condition); parted_paper(condition)
        accepts_parted(condition, paper); parted_over(condition)
    """,
    "rules": """
        invented(rules, past, t, *, most=2000); numbered(rules, past, t, keys, *, most=2000); depth(value)
        one_row(rules, values, *, most=2000)
    """,
    "ends": """
        reached(rules); arrows(rules); ends(rules); numbers(rules); greatest_depth(rules); ends_paper(rules)
        accepts_ends(rules, paper); most_rows(rules, count, *, most=2000)
    """,
    "support": """
        support(rules, past, t, *, most=2000); brought(rules, past, change, t, *, most=2000)
        inner(rules, present, *, most=2000); album(rules, present, known); surely(rules, present, known, question)
        sure_paper(rules, present, known, question); accepts_sure(rules, paper)
    """,
    "wishes": """
        is_so(past, wish); least_changes(past, wish); does(past, wish, changes)
    """,
    "settings": """
        verdict(setting); is_plain(setting); varying(rules)
    """,
    "texts": """
        write(live); read(text); is_written(text); rows_of(live, word)
    """,
}
METHODS = {
    ("pasts", "Past"): "__init__ deeds __getitem__ __contains__ __len__ __iter__ listed __eq__ with_deed without",
    ("copies", "Copies"): "__init__ many edit past edits records seen lacks undo redo line __len__ twin __eq__",
    ("rules", "Rules"): "__init__ all_rules names tables column_names border __len__ __iter__ listed __eq__",
    ("settings", "Setting"): """
        __init__ many reads writes unruly pages condition plan reading making rules __eq__ twin
    """,
    ("live", "Live"): """
        __init__ setting past edits line records seen lacks page_of ask run invented edit undo redo move walk step drop
        walks back again __len__ trial trying twin __eq__
    """,
    ("console", "Console"): "__init__ run",
}
SIGNATURES = {
    ("rules", "Rules"): "__init__(self, rules=()); border(self, name)",
    ("settings", "Setting"): """
        __init__(self, count=3, reads=2, writes=2, unruly=0, pages=1, *, condition=('row',), plan=None, reading='one',
        making='content', rules=None); twin(self)
    """,
    ("live", "Live"): """
        __init__(self, setting, past=None); records(self, copy); seen(self, lot); lacks(self, lot);
        page_of(self, copy, moment, number); ask(self, key, name, t); run(self, key, t); invented(self, t);
        edit(self, lot, change); undo(self, lot); redo(self, lot); move(self, copy, moment, number, page);
        walk(self, copy, page, rule); step(self, walk); drop(self, walk); trial(self);
        trying(self, guest, *, kept=False); twin(self)
    """,
    ("console", "Console"): "__init__(self); run(self, line)",
}


class Interface(unittest.TestCase):
    def test_functions(self):
        for module, text in FUNCTIONS.items():
            found = importlib.import_module("plainstore." + module)
            for row in text.replace("\n", ";").split(";"):
                if row.strip():
                    name = row.strip().partition("(")[0]
                    function = getattr(found, name)
                    self.assertEqual(function.__module__, found.__name__)
                    self.assertEqual(name + str(inspect.signature(function)), row.strip())

    def test_methods_stand_in_the_class_itself(self):
        for (module, name), methods in METHODS.items():
            found = getattr(importlib.import_module("plainstore." + module), name)
            self.assertEqual(found.__module__, "plainstore." + module)
            for method in methods.split():
                self.assertIn(method, vars(found))

    def test_arguments_of_methods(self):
        for (module, name), text in SIGNATURES.items():
            found = getattr(importlib.import_module("plainstore." + module), name)
            for row in " ".join(text.split()).split("; "):
                method = row.partition("(")[0]
                self.assertEqual(method + str(inspect.signature(vars(found)[method])), row)


if __name__ == "__main__":
    unittest.main()
