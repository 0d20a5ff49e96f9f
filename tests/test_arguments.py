"""Point 1: what may be passed, which error is raised, new lists, arguments that stay as they are."""

import copy
import unittest
from itertools import combinations

from laytogether import (
    backward, compares, counts, crowds, drawn, draws, fixed, fronts, games, lays, laytexts, levels, papers, parts,
    plans, seats, stairs, sums, tables, twos,
)
from laytogether.errors import LayError, NotTwo
from tests.inputs import KINDS, ODD, TOLD

# The kinds of the arguments of each function, by module.
FUNCTIONS = {
    tables: {
        "people": ("table",), "goods": ("table",), "count_at_odds": ("table",), "place": ("table", "row"),
        "heaps": ("table", "good"), "totals": ("table",), "more_of": ("table", "person", "other person"),
        "highest_tower": ("table",), "widest_odds": ("table",), "is_over": ("table", "person", "other person"),
        "is_tower": ("table",), "fits": ("table", "row"), "at_odds": ("table",), "tops": ("table",),
        "bottoms": ("table",), "free": ("table",), "odds_with": ("table", "person"), "quarrelsome": ("table",),
        "same_rows": ("table",),
    },
    crowds: {
        "crowd": ("table",), "tower": ("table",), "next_crowds": ("table",), "all_met": ("table",),
        "come_together": ("table", "table"), "is_deed": ("table", "table"), "can_come": ("table", "table"),
        "shows_way": ("table", "table", "value"), "count_met": ("table",), "count_ways": ("table", "table"),
        "count_by_odds": ("table",), "least_deeds": ("table", "table"), "most_deeds": ("table", "table"),
        "way": ("table", "table"),
    },
    lays: {
        "lay": ("table", "person", "other person"), "lay_all": ("table", "lays"), "in_order": ("table", "order"),
        "rounds": ("table", "turns"), "changing": ("table", "lays"), "helpers": ("table", "person"),
        "lays_for": ("table", "order"), "shows_lays": ("table", "order", "value"), "least_lays": ("table", "order"),
        "count_laid": ("table",), "count_orders_met": ("table",), "lays_to_top": ("table", "person"),
        "lays_to_bottom": ("table", "person"), "least_rounds": ("table",), "easiest_order": ("table",),
    },
    fixed: {
        "brings_all": ("many", "lays"), "shows_fixed": ("few", "value"), "left_over": ("many", "lays"),
        "count_left": ("many", "lays"), "count_states": ("many", "lays"), "idle": ("many", "lays"),
        "plain_lays": ("many",), "fewest_lays": ("few",),
    },
    backward: {
        "splits": ("table", "row", "lower row"), "count_splits": ("table", "row", "lower row"),
        "count_befores": ("table",), "befores": ("table",), "all_befores": ("table",), "sources": ("table",),
        "between": ("table", "table"), "meetings": ("table", "table"), "is_source": ("table",),
        "farthest_before": ("table",),
    },
    counts: {
        name: ("heaps",) for name in (
            "count_tables", "count_crowds", "count_sources", "count_deeds", "longest_row", "all_tables", "all_crowds",
            "count_by_odds", "crowds_by_odds", "most_quarrels", "odds_chance", "mean_odds", "top_chance",
            "tower_chance", "meet_chance",
        )
    },
    draws: {
        "come_chance": ("table", "table"), "mean_deeds": ("table",), "mean_draws": ("table",),
        "mean_pairs_met": ("table",), "after": ("table", "turns"), "deeds_chances": ("table",),
        "likeliest_last": ("table",),
    },
    sums: {
        "squares": ("table",), "most_squares": ("table",), "left_to_rise": ("table",), "climb": ("table",),
        "rise": ("table", "person", "other person"), "rise_by_goods": ("table", "person", "other person"),
        "bond": ("table", "good", "other good"), "most_bond": ("table", "good", "other good"),
        "least_bond": ("table", "good", "other good"), "greatest_rise": ("table",), "least_rise": ("table",),
        "hang_together": ("table", "good", "other good"), "goods_apart": ("table",), "share": ("table", "person"),
        "middle_good": ("table",), "spans": ("heaps",),
    },
    levels: {
        "cut": ("table", "levels"), "squeezed": ("table",), "counts_at": ("table", "levels"),
        "both_at": ("table", "levels"), "tower_at": ("table", "levels"), "alike_at": ("table", "table", "levels"),
        "is_tower_by_levels": ("table",), "is_squeezed": ("table",), "quarrel_levels": ("table",),
    },
    parts: {
        "without_person": ("table", "person"), "without_good": ("table", "good"), "with_person": ("table", "row"),
        "beside": ("table", "table"), "below": ("table", "table"), "people_in_order": ("table", "order"),
        "goods_in_order": ("table", "goods order"), "kept_odds": ("table", "good"), "needless_goods": ("table",),
        "fewest_goods": ("table",), "fewest_to_go": ("table",), "middle_rows": ("table",), "gaps": ("table", "row"),
        "quarrels_with": ("table", "row"),
    },
    fronts: {
        "fronts": ("table",), "count_fronts": ("table",), "front_of": ("table", "person"), "count_strict": ("table",),
        "fewest_towers": ("table",), "sizes": ("table",), "line_down": ("table", "person"),
        "shows_line": ("table", "person", "value"), "steps_over": ("table", "person", "person"),
    },
    twos: {
        "order": ("table",), "from_order": ("told order",), "next_orders": ("table",), "rings": ("table",),
        "least_by_rings": ("table",), "most_by_odds": ("table",), "count_below": ("table",),
        "can_come_by_counts": ("table", "table"), "count_orders_by_odds": ("many",),
        "count_orders_by_rings": ("many",),
    },
    games: {
        "worth": ("table",), "game_length": ("table",), "first_wins": ("table",), "both_games": ("table", "table"),
        "shows_play": ("table", "value"), "deeds_left": ("table", "most"), "winning_next": ("table",),
        "best_play": ("table",), "first_chance": ("table",),
    },
    seats: {
        "side_odds": ("table",), "is_quiet": ("table",), "row_nexts": ("table",), "quiet_ends": ("table",),
        "count_row": ("table",), "least_quiet": ("table",), "least_even_odd": ("table",), "swept": ("table", "turns"),
        "even_odd": ("table", "turns"), "passed_round": ("table", "turns"), "where_top": ("table", "turns"),
    },
    drawn: {
        "two_at_odds": ("goods", "heap"), "mean_drawn_odds": ("people", "goods", "heap"),
        "over_all": ("people", "goods", "heap"), "tower_drawn": ("people", "goods", "heap"),
        "count_towers": ("people", "goods", "heap"), "count_tower_tables": ("people", "goods", "heap"),
        "count_rows_over": ("free row", "greatest heap"), "count_rows_under": ("free row", "greatest heap"),
        "count_rows_at_odds": ("free row", "greatest heap"),
    },
    papers: {
        "to_tower": ("table",), "over_and_back": ("table", "table"), "shows_to_tower": ("table", "value"),
        "shows_over_and_back": ("table", "table", "value"), "pairs_written": ("table",), "first_wrong": ("any",),
        "more_counts": ("table",),
    },
    compares: {
        "same_heaps": ("table", "table"), "unlike_people": ("table", "table"), "same_odds": ("table", "table"),
        "is_crowd_of": ("table", "table"), "over_all_of": ("table", "table"), "names_for": ("table", "table"),
        "greater": ("table", "table"), "lesser": ("table", "table"), "moved": ("table", "table"),
        "to_order": ("table", "any order"), "cheapest_order": ("table",), "agreeing_orders": ("table",),
        "count_agreeing": ("table",),
    },
    laytexts: {
        "write_table": ("table",), "write_lays": ("table", "lays"), "read_table": ("text of table",),
        "read_lays": ("table", "text of lays"),
    },
    stairs: {
        "steps": ("tower",), "bumped": ("tower", "row"), "is_tower_step": ("tower", "row"),
        "tower_below": ("table", "table"), "goes_through": ("tower", "row"), "pushed_in": ("tower", "row"),
        "count_deeds_in": ("tower", "row"), "built": ("table",), "best_pair": ("table",),
    },
    plans: {
        "met": ("table", "lays"), "all_meet": ("table",), "host": ("table", "person"), "deeds_done": ("table", "lays"),
        "meetings_needed": ("table",), "ends_at_tower": ("table", "lays"), "host_has_top": ("table", "person"),
        "reach": ("table", "any lot"),
    },
}

LISTS = {
    "at_odds", "tops", "bottoms", "free", "odds_with", "same_rows", "next_crowds", "all_met", "left_over", "splits",
    "befores", "all_befores", "sources", "between", "meetings", "all_tables", "all_crowds", "after", "climb",
    "goods_apart", "kept_odds", "needless_goods", "quarrels_with", "fronts", "next_orders", "rings", "winning_next",
    "side_odds", "row_nexts", "quiet_ends", "agreeing_orders", "goes_through", "built",
}
TRUTHS = {
    "is_over", "is_tower", "fits", "come_together", "is_deed", "can_come", "shows_way", "shows_lays", "brings_all",
    "shows_fixed", "is_source", "hang_together", "alike_at", "is_tower_by_levels", "is_squeezed", "shows_line",
    "can_come_by_counts", "first_wins", "both_games", "shows_play", "deeds_left", "is_quiet", "shows_to_tower",
    "shows_over_and_back", "same_odds", "is_crowd_of", "over_all_of", "is_tower_step", "tower_below", "ends_at_tower",
    "host_has_top",
}
NUMBERS = {
    "people", "goods", "count_at_odds", "place", "count_met", "count_ways", "least_deeds", "most_deeds", "least_lays",
    "count_laid", "count_orders_met", "lays_to_top", "lays_to_bottom", "least_rounds", "count_left", "count_states",
    "count_splits", "count_befores", "count_tables", "count_crowds", "count_sources", "count_deeds", "longest_row",
    "squares", "most_squares", "left_to_rise", "rise", "rise_by_goods", "bond", "most_bond", "least_bond",
    "least_rise", "both_at", "count_fronts", "front_of", "count_strict", "fewest_towers", "steps_over",
    "least_by_rings", "most_by_odds", "count_below", "worth", "game_length", "count_row", "least_quiet",
    "least_even_odd", "count_towers", "count_tower_tables", "count_rows_over", "count_rows_under",
    "count_rows_at_odds", "first_wrong", "moved", "to_order", "count_agreeing", "count_deeds_in", "deeds_done",
    "meetings_needed",
}
TEXTS = {"write_table", "write_lays"}
# Of the usual arguments.
NONES = {"where_top"}


def functions():
    """Each function with its name and the kinds of its arguments."""
    return [(name, getattr(module, name), kinds) for module, told in FUNCTIONS.items() for name, kinds in told.items()]


def usual(kinds):
    return [KINDS[kind][0] for kind in kinds]


class WrongArguments(unittest.TestCase):

    def check(self, function, given, error, fields):
        before = copy.deepcopy(given)
        try:
            function(*given)
        except LayError as caught:
            self.assertIs(type(caught), error, given)
            self.assertEqual(vars(caught), fields, given)
        else:
            self.fail(f"no error for {given}")
        self.assertEqual(repr(given), repr(before))

    def test_one_wrong_argument(self):
        for name, function, kinds in functions():
            with self.subTest(name):
                for at, kind in enumerate(kinds):
                    for value, error, fields in KINDS[kind][1]:
                        given = usual(kinds)
                        given[at] = value
                        self.check(function, given, error, fields)

    def test_of_several_wrong_arguments_the_leftmost_one_counts(self):
        for name, function, kinds in functions():
            with self.subTest(name):
                for one, other in combinations(range(len(kinds)), 2):
                    for value, error, fields in KINDS[kinds[one]][1]:
                        for later in [row[0] for row in KINDS[kinds[other]][1]][::7] or ODD:
                            given = usual(kinds)
                            given[one], given[other] = value, later
                            self.check(function, given, error, fields)

    def test_one_person_or_good_told_twice_comes_behind_all_others(self):
        for function in (tables.is_over, tables.more_of, lays.lay, sums.rise, sums.rise_by_goods):
            self.check_told_twice(function, ("table", "person", "other person"), range(3))
        for function in (sums.bond, sums.most_bond, sums.least_bond, sums.hang_together):
            self.check_told_twice(function, ("table", "good", "other good"), range(2))

    def check_told_twice(self, function, kinds, things):
        for thing in things:
            self.check(function, [TOLD, thing, thing], NotTwo, {})
        for at, kind in enumerate(kinds):
            for value, error, fields in KINDS[kind][1]:
                given = [TOLD, 1, 1]
                given[at] = value
                self.check(function, given, error, fields)
        for value, error, fields in KINDS[kinds[1]][1]:
            self.check(function, [TOLD, value, value], error, fields)


class RightArguments(unittest.TestCase):

    def test_kinds_of_answers(self):
        for name, function, kinds in functions():
            with self.subTest(name):
                answer = function(*usual(kinds))
                if name in LISTS:
                    self.assertIs(type(answer), list)
                elif name in TRUTHS:
                    self.assertIs(type(answer), bool)
                elif name in NUMBERS:
                    self.assertIs(type(answer), int)
                elif name in TEXTS:
                    self.assertIs(type(answer), str)
                elif name in NONES:
                    self.assertIsNone(answer)
                else:
                    self.assertIs(type(answer), tuple)

    def test_equal_arguments_have_equal_answers_in_new_lists(self):
        for name, function, kinds in functions():
            with self.subTest(name):
                answer = function(*usual(kinds))
                kept = copy.deepcopy(answer)
                self.assertEqual(function(*usual(kinds)), kept)
                if name in LISTS:
                    self.assertIsNot(function(*usual(kinds)), answer)
                    answer.append("more")
                    del answer[:1]
                    self.assertEqual(function(*usual(kinds)), kept)

    def test_arguments_stay_as_they_are(self):
        for name, function, kinds in functions():
            with self.subTest(name):
                given = usual(kinds)
                before = copy.deepcopy(given)
                function(*given)
                self.assertEqual(given, before)

    def test_values_of_all_kinds_are_shown_or_not(self):
        for name, function, kinds in functions():
            if kinds[-1] != "value":
                continue
            wrong = [row[0] for kind in KINDS for row in KINDS[kind][1]]
            for value in ODD + wrong + [told[0] for told in KINDS.values()]:
                before = copy.deepcopy(value)
                self.assertIs(type(function(*usual(kinds)[:-1], value)), bool, (name, value))
                self.assertEqual(repr(value), repr(before))

    def test_no_value_is_an_error_where_any_one_may_be_passed(self):
        for name, function, kinds in functions():
            if not kinds[-1].startswith("any"):
                continue
            wrong = [row[0] for kind in KINDS for row in KINDS[kind][1]]
            for value in ODD + wrong + [told[0] for told in KINDS.values()]:
                before = copy.deepcopy(value)
                self.assertIn(type(function(*usual(kinds)[:-1], value)), (int, tuple, type(None)), (name, value))
                self.assertEqual(repr(value), repr(before))

    def test_names_of_arguments(self):
        one = TOLD
        self.assertEqual(tables.heaps(table=one, good=0), (3, 1, 0))
        self.assertIs(tables.is_over(table=one, one=0, other=1), False)
        self.assertEqual(tables.place(table=one, row=(0, 1)), 0)
        self.assertEqual(tables.odds_with(table=one, person=0), [1, 2])
        self.assertIs(crowds.shows_way(one=one, other=one, value=(one,)), True)
        self.assertEqual(lays.lay_all(table=one, lays=()), one)
        self.assertEqual(lays.rounds(table=one, turns=0), one)
        self.assertIs(lays.shows_lays(table=one, order=(0, 1, 2), value=()), False)
        self.assertIs(fixed.brings_all(many=2, lays=((0, 1),)), True)
        self.assertIs(fixed.shows_fixed(many=2, value=((0, 1),)), True)
        self.assertEqual(backward.splits(table=one, one=(1, 1), other=(0, 0)), [((1, 0), (0, 1))])
        self.assertEqual(counts.count_tables(heaps=((1,),)), 1)
        self.assertEqual(draws.after(table=one, deeds=0), [(one, (1, 1))])
        self.assertEqual(sums.bond(table=one, one=0, other=1), 5)
        self.assertEqual(levels.cut(table=one, levels=(9, 9)), ((0, 0),) * 3)
        self.assertEqual(parts.without_person(table=one, person=0), one[1:])
        self.assertEqual(fronts.steps_over(table=one, one=0, other=0), 0)
        self.assertEqual(twos.from_order(told=(0,)), ((0, 0),))
        self.assertIs(games.deeds_left(table=one, most=0), False)
        self.assertEqual(seats.even_odd(table=one, turns=0), one)
        self.assertEqual(drawn.over_all(people=1, goods=1, most=1), (1, 1))
        self.assertEqual(drawn.count_rows_over(row=(1,), most=1), 2)
        self.assertIs(papers.shows_over_and_back(one=one, other=one, value=(one,)), True)
        self.assertEqual(papers.first_wrong(value=()), 0)
        self.assertEqual(compares.moved(one=one, other=one), 0)
        self.assertIsNone(compares.to_order(table=one, order=()))
        self.assertEqual(laytexts.read_table(text="1"), ((1,),))
        self.assertEqual(laytexts.read_lays(table=one, text="0>1"), ((0, 1),))
        self.assertIs(stairs.is_tower_step(table=one[:1], row=(3, 1)), True)
        self.assertIs(stairs.tower_below(one=one, other=one), True)
        self.assertEqual(plans.met(table=one, pairs=()), one)
        self.assertEqual(plans.host(table=one[:1], person=0), one[:1])
        self.assertIsNone(plans.reach(table=one, lot=()))


if __name__ == "__main__":
    unittest.main()
