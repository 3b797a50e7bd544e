"""The examples of the interface, and where its names are defined."""

import inspect
import unittest

from claimclasses import (alike, changing, desk, fairness, makers, means, memory, orders, pairs, policies, reporting,
                          scales, seen)
from claimclasses.alike import alike_in, least, least_from, needless_columns, parting_row
from claimclasses.changing import (Houses, cheapest, cheapest_paper, gain, gain_potentials, is_cheapest_paper,
                                   is_gain_potentials, no_change_gains)
from claimclasses.desk import Desk
from claimclasses.fairness import fair_pairs, is_fair_pairs, order_ring, ranks, unfair_sum, unfair_year, worse
from claimclasses.makers import both, by_steps, delayed, protected, renumbered
from claimclasses.means import greatest_mean, is_mean_potentials, least_mean, long_run, mean_potentials, offset
from claimclasses.memory import (always_forgotten, classes_after, forgotten, kept_apart, kept_ring, never_meeting,
                                 uniting_row)
from claimclasses.orders import (alike_behind, best_spread, cheapest_order, dearest_order, never_dearer, places_cost)
from claimclasses.pairs import by_years, difference, excess, is_potentials, never_more, potentials
from claimclasses.policies import Policy
from claimclasses.reporting import never_worth, report, report_paper, surely_worth, worth, worth_ever
from claimclasses.scales import Scale
from claimclasses.seen import Seen


def ladder():
    return Scale([100, 140, 200], [[0, 1, 2], [0, 2, 2], [1, 2, 2]])


def mild():
    return Scale([100, 130, 160], [[0, 1], [0, 2], [1, 2]])


def harsh():
    return Scale([90, 200], [[0, 1], [0, 1]])


def both_houses():
    return Houses([mild(), harsh()], {(0, 1): ([0, 0, 1], 5), (1, 0): ([0, 2], 5)})


class ExamplesTest(unittest.TestCase):

    def test_first_example_of_scales(self):
        scale = ladder()
        told = [scale(0, 1), scale(2, 7), scale.classes(1, [1, 0, 0]), scale.bills(1, [1, 0, 0]),
                scale.paid(1, [1, 0, 0])]
        self.assertEqual(repr(told), "[1, 2, [1, 2, 1, 0], [140, 200, 140], 480]")

    def test_second_example_of_scales(self):
        scale = ladder()
        told = [len(scale), scale.columns, 3 in scale, scale.reached(0), scale.way(0, 2), (scale + 5).premium(1),
                scale.limited(2)(0, 2)]
        self.assertEqual(repr(told), "[3, 3, False, [0, 1, 2], [2], 145, 1]")

    def test_first_example_of_makers(self):
        short = by_steps([50, 80], 1, [1])
        told = [short.table(), protected(short, 1).table(), delayed(short).table()]
        self.assertEqual(repr(told), "[[[0, 1], [0, 1]], [[1, 2, 2], [1, 0, 2], [1, 2, 2], [1, 0, 2]], "
                                     "[[0, 1], [2, 3], [0, 1], [2, 3]]]")

    def test_second_example_of_makers(self):
        short = by_steps([50, 80], 1, [1])
        told = [both(short, ladder()).premiums(), renumbered(ladder(), [2, 0, 1]).table()]
        self.assertEqual(repr(told), "[[150, 190, 250, 180, 220, 280], [[2, 0, 0], [1, 2, 0], [1, 0, 0]]]")

    def test_first_example_of_pairs(self):
        told = [pairs.pairs(mild(), 0, harsh(), 0), difference(mild(), 0, harsh(), 0, [1, 0]),
                excess(mild(), 0, harsh(), 0)[0], never_more(harsh(), 1, mild(), 2)]
        self.assertEqual(repr(told), "[[(0, 0), (1, 0), (1, 1), (2, 1)], -60, 'endless', False]")

    def test_second_example_of_pairs(self):
        found = excess(mild(), 2, harsh() + 10, 0)
        told = [found[0], found[1],
                is_potentials(mild(), 2, harsh() + 10, 0, potentials(mild(), 2, harsh() + 10, 0))]
        self.assertEqual(repr(told), "['most', 90, True]")

    def test_third_example_of_pairs(self):
        self.assertEqual(repr(by_years(mild(), 0, harsh(), 0, 2)), "[(0, 0), (10, 10), (-60, 20)]")

    def test_first_example_of_means(self):
        told = [greatest_mean(mild(), 0, harsh(), 0)[0], least_mean(mild(), 0, harsh(), 0)[0], long_run(mild(), 1),
                offset(mild(), 2, harsh(), 0)]
        self.assertEqual(repr(told), "[(10, 1), (-40, 1), ((100, 1), (160, 1)), (90, 1)]")

    def test_second_example_of_means(self):
        amounts = mean_potentials(mild(), 0, harsh(), 0)
        told = [is_mean_potentials(mild(), 0, harsh(), 0, (10, 1), amounts),
                is_mean_potentials(mild(), 0, harsh(), 0, (9, 1), amounts)]
        self.assertEqual(repr(told), "[True, False]")

    def test_examples_of_alike(self):
        twin = Scale([10, 10, 20], [[1, 2, 2], [0, 2, 2], [0, 2, 2]])
        smaller, led = least(twin)
        told = [smaller.premiums(), smaller.table(), led, alike_in(twin, twin), needless_columns(twin)]
        self.assertEqual(repr(told), "[[10, 20], [[0, 1, 1], [0, 1, 1]], [0, 0, 1], [[0, 1], [0, 1], [2]], 1]")
        told = [least_from(twin, 2).premiums(), len(parting_row(twin, 0, Scale([10, 20], [[0, 1], [0, 0]]), 0)),
                parting_row(twin, 0, twin, 1)]
        self.assertEqual(repr(told), "[[20, 10], 2, None]")

    def test_examples_of_memory(self):
        turned = Scale([1, 2, 3], [[1, 0], [0, 1], [2, 2]])
        told = [forgotten(mild()), forgotten(mild(), 1), forgotten(turned), kept_apart(turned, 1)[2],
                classes_after(mild(), [1, 0])]
        self.assertEqual(repr(told), "[(2, 0), (2, 2), None, 1, [0, 1]]")
        told = [len(uniting_row(harsh())), always_forgotten(harsh()), always_forgotten(mild()),
                len(kept_ring(mild())[2]) > 0, never_meeting(mild()), len(never_meeting(turned)) > 0]
        self.assertEqual(repr(told), "[1, 1, None, True, None, True]")

    def test_first_example_of_fairness(self):
        told = [unfair_year(mild()), is_fair_pairs(mild(), fair_pairs(mild())), unfair_sum(mild()), worse(mild()),
                ranks(mild())]
        self.assertEqual(repr(told), "[None, True, None, [(1, 0), (2, 0), (2, 1)], [0, 1, 2]]")

    def test_second_example_of_fairness(self):
        odd = Scale([50, 90, 40], [[0, 1], [0, 2], [0, 2]])
        told = [unfair_year(odd)[1:], unfair_sum(odd)[:2], unfair_sum(odd)[2][:2], order_ring(odd)]
        self.assertEqual(repr(told), "[(0, []), (0, 0), ('most', 10), None]")

    def test_examples_of_orders(self):
        told = [cheapest_order(mild(), 0, [1, 0, 1])[0], dearest_order(mild(), 0, [1, 0, 1], 2)[0],
                places_cost(mild(), 0, 1, 3)]
        self.assertEqual(repr(told), "[330, 620, [330, 330, 300]]")
        told = [never_dearer(mild(), [0, 1], [1, 0])[0], best_spread(mild(), 1, 1), best_spread(harsh(), 1, 1),
                alike_behind(mild(), [0, 5], [1, 5])]
        self.assertEqual(repr(told), "[0, [], [3], (0, [])]")

    def test_first_example_of_reporting(self):
        told = [report(mild(), 0, [[20, 500], [35]]), report(mild(), 0, [[20], [35]], 10, 3),
                report_paper(harsh(), [[50, 120]], 0, 1)]
        self.assertEqual(repr(told), "[(230, [2, 1]), (555, [0, 0]), [[290, 400], [90, 200]]]")

    def test_second_example_of_reporting(self):
        told = [worth(mild(), 0, 0, 2), worth(harsh(), 0, 0, 1), worth_ever(harsh(), 1, 0)[:2],
                surely_worth(harsh(), 0, 0, 110), never_worth(mild(), 0, 0, 30, 1)]
        self.assertEqual(repr(told), "[(30, 60), (110, 110), ('most', 110), True, True]")

    def test_examples_of_changing(self):
        houses = both_houses()
        told = [houses.cost((0, 0), [1, 0], [0, 0]), houses.cost((0, 0), [1, 0], [1, 0]),
                cheapest(houses, (0, 1), [0, 0])]
        self.assertEqual(repr(told), "[230, 260, (185, [1, 1])]")
        told = [is_cheapest_paper(houses, (0, 1), [0, 0], 185, cheapest_paper(houses, (0, 1), [0, 0])),
                gain(houses, (0, 0))[0], no_change_gains(Houses([mild()], {}), (0, 2))]
        self.assertEqual(repr(told), "[True, 'endless', True]")

    def test_examples_of_seen(self):
        known = Seen(mild(), 2)
        known[0] = 0
        known.paid(2, 160)
        told = [known.stories(), known.fewest(), known.possible(1), known[1], known.columns_in(0), known.best_year()]
        self.assertEqual(repr(told), "[1, (0, [1, 1]), [1], [0, 1, 2], [1], (0, 1)]")
        told = [known.tried(lambda held: held.only(1, [0, 2])), known.clash()]
        self.assertEqual(repr(told), "[None, None]")
        known[1] = 0
        self.assertEqual(repr([known.stories(), known.clash()]), "[0, (1, 2)]")

    def test_examples_of_policies(self):
        policy = Policy(both_houses(), (0, 0))
        self.assertEqual(repr([policy.bill(1), policy.place_in(1), policy.cost(0)]), "[200, (0, 0), 100]")
        policy[0] = 1
        told = [policy.place_in(1), policy.owed(), policy.bill(2), policy.correction(2), policy.back_worth(0, 2)]
        self.assertEqual(repr(told), "[(0, 1), 30, 130, 30, 30]")
        policy.change(1, 1)
        told = [policy.place_in(1), policy.total(2), policy.tried(lambda held: held.stay(1)), policy.place_in(1),
                policy.bills_sent()]
        self.assertEqual(repr(told), "[(1, 0), 195, None, (1, 0), [(1, 200), (2, 130)]]")

    def test_examples_of_desk(self):
        office = Desk(both_houses())
        told = [office.take_in("ann", (0, 0)), office.take_in("bo", (1, 1)),
                office.news([("ann", 0, 1), ("bo", 3, 2)]), office.total(2)]
        self.assertEqual(repr(told), "[None, None, None, 520]")
        told = [office.move("bo", 1, 0), office.taken(2), sorted(office.bill(0).items()), office.deeds(),
                office.undo(), office.policy("bo").bills_sent()]
        self.assertEqual(repr(told), "[None, [335, 200], [('ann', 100), ('bo', 200)], 5, None, []]")


class NamesTest(unittest.TestCase):

    def test_methods_stand_in_the_class_itself(self):
        methods = {
            Scale: (scales, "__init__ __call__ __len__ __contains__ __add__ __mul__ premium premiums table classes bills "
                            "paid reached way limited same"),
            Houses: (changing, "__init__ __len__ scale_of choices cost"),
            Seen: (seen, "__init__ __getitem__ __setitem__ only paid possible stories fewest most columns_in clash "
                         "best_year trial tried"),
            Policy: (policies, "__init__ __getitem__ __setitem__ change stay place_in cost total bill bills_sent "
                               "correction owed back_worth trial tried twin"),
            Desk: (desk, "__init__ __contains__ __len__ take_in drop policy names news move bill total taken undo deeds "
                         "trial tried"),
        }
        for kept, (module, names) in methods.items():
            for name in names.split():
                self.assertTrue(inspect.isfunction(vars(kept)[name]), name)
            self.assertEqual(kept.__module__, module.__name__)
        self.assertIsInstance(vars(Scale)["columns"], property)

    def test_functions_stand_in_their_file(self):
        names = {
            makers: "by_steps protected both delayed renumbered",
            pairs: "pairs difference excess never_more potentials is_potentials by_years",
            means: "greatest_mean least_mean mean_potentials is_mean_potentials offset long_run",
            alike: "parting_row alike_in least least_from needless_columns",
            memory: "forgotten kept_apart uniting_row meeting_row never_meeting is_never_meeting always_forgotten "
                    "kept_ring classes_after",
            fairness: "unfair_year fair_pairs is_fair_pairs unfair_sum worse order_ring ranks",
            orders: "cheapest_order dearest_order places_cost never_dearer best_spread alike_behind",
            reporting: "report report_paper worth worth_ever surely_worth never_worth",
            changing: "cheapest cheapest_paper is_cheapest_paper gain no_change_gains gain_potentials "
                      "is_gain_potentials",
        }
        for module, told in names.items():
            for name in told.split():
                function = getattr(module, name)
                self.assertTrue(inspect.isfunction(function), name)
                self.assertEqual((function.__module__, function.__name__), (module.__name__, name))

    def test_arguments_have_their_names(self):
        arguments = {
            Scale: ["premiums", "table"],
            Scale.__call__: ["self", "at", "claims"],
            Scale.premium: ["self", "at"],
            Scale.premiums: ["self"],
            Scale.table: ["self"],
            Scale.classes: ["self", "start", "row"],
            Scale.bills: ["self", "start", "row"],
            Scale.paid: ["self", "start", "row"],
            Scale.reached: ["self", "start"],
            Scale.way: ["self", "start", "goal"],
            Scale.limited: ["self", "columns"],
            Scale.same: ["self", "other"],
            by_steps: ["premiums", "down", "ups"],
            protected: ["scale", "years"],
            both: ["one", "other"],
            delayed: ["scale"],
            renumbered: ["scale", "order"],
            difference: ["one", "start", "other", "begin", "row"],
            is_potentials: ["one", "start", "other", "begin", "amounts"],
            by_years: ["one", "start", "other", "begin", "years"],
            is_mean_potentials: ["one", "start", "other", "begin", "mean", "amounts"],
            long_run: ["scale", "start"],
            parting_row: ["one", "start", "other", "begin"],
            alike_in: ["one", "other"],
            least: ["scale"],
            least_from: ["scale", "start"],
            needless_columns: ["scale"],
            memory.meeting_row: ["scale", "at", "by"],
            memory.is_never_meeting: ["scale", "pairs"],
            classes_after: ["scale", "row"],
            is_fair_pairs: ["scale", "pairs"],
            places_cost: ["scale", "start", "claims", "years"],
            best_spread: ["scale", "first", "second"],
            report: ["scale", "start", "damages", "own", "after"],
            report_paper: ["scale", "damages", "own", "after"],
            worth: ["scale", "at", "claims", "years"],
            worth_ever: ["scale", "at", "claims"],
            surely_worth: ["scale", "at", "claims", "saved"],
            never_worth: ["scale", "at", "claims", "saved", "years"],
            Houses: ["scales", "ways"],
            Houses.scale_of: ["self", "house"],
            Houses.choices: ["self", "place"],
            Houses.cost: ["self", "place", "row", "plan"],
            cheapest: ["houses", "place", "row"],
            cheapest_paper: ["houses", "place", "row"],
            is_cheapest_paper: ["houses", "place", "row", "cost", "amounts"],
            gain: ["houses", "place"],
            no_change_gains: ["houses", "place"],
            gain_potentials: ["houses", "place"],
            is_gain_potentials: ["houses", "place", "amounts"],
            Seen: ["scale", "many"],
            Seen.only: ["self", "year", "classes"],
            Seen.paid: ["self", "year", "amount"],
            Policy: ["houses", "place"],
            Policy.change: ["self", "year", "house"],
            Policy.total: ["self", "years"],
            Policy.back_worth: ["self", "year", "years"],
            Desk: ["houses"],
            Desk.take_in: ["self", "name", "place"],
            Desk.drop: ["self", "name"],
            Desk.policy: ["self", "name"],
            Desk.news: ["self", "rows"],
            Desk.move: ["self", "name", "year", "house"],
            Desk.bill: ["self", "year"],
            Desk.total: ["self", "years"],
            Desk.taken: ["self", "years"],
        }
        for function in (pairs.pairs, excess, never_more, potentials, greatest_mean, least_mean, mean_potentials,
                         offset):
            arguments[function] = ["one", "start", "other", "begin"]
        for function in (uniting_row, never_meeting, always_forgotten, kept_ring, unfair_year, fair_pairs, unfair_sum,
                         worse, order_ring, ranks):
            arguments[function] = ["scale"]
        for function in (never_dearer, alike_behind):
            arguments[function] = ["scale", "row", "other"]
        for function in (cheapest_order, dearest_order):
            arguments[function] = ["scale", "start", "years", "after"]
            self.assertEqual(function.__defaults__, (0,))
        for function in (report, report_paper):
            self.assertEqual(function.__defaults__, (0, 0))
        for function in (forgotten, kept_apart):
            arguments[function] = ["scale", "claims"]
            self.assertEqual(function.__defaults__, (0,))
        for method in (Seen.possible, Seen.columns_in, Policy.stay, Policy.place_in, Policy.cost, Policy.bill,
                       Policy.correction):
            arguments[method] = ["self", "year"]
        for kept in (Seen, Policy, Desk):
            arguments[kept.tried] = ["self", "deed"]
            arguments[kept.trial] = ["self"]
        for method in (Seen.stories, Seen.fewest, Seen.most, Seen.clash, Seen.best_year, Policy.bills_sent, Policy.owed,
                       Policy.twin, Desk.names, Desk.undo, Desk.deeds):
            arguments[method] = ["self"]
        for thing, names in arguments.items():
            self.assertEqual(list(inspect.signature(thing).parameters), names, thing)


if __name__ == "__main__":
    unittest.main()
