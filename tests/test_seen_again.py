"""Points 3, 4 and 56 to 60 once more: questions that are asked again, in between, and about many years."""

import copy
import random
import time
import unittest

from claimclasses.scales import Scale
from claimclasses.seen import Seen
from tests.helpers import (MILD, answered, containers, led, long_ladders, raised, random_scale, seen_told,
                           story_classes)


def questions(many):
    """All questions about so many years, each as a function of what is asked."""
    deeds = [Seen.stories, Seen.fewest, Seen.most, Seen.clash, Seen.best_year]
    for year in range(many + 1):
        deeds.append(lambda seen, year=year: seen[year])
        deeds.append(lambda seen, year=year: seen.possible(year))
    for year in range(many):
        deeds.append(lambda seen, year=year: seen.columns_in(year))
    return deeds


def random_news(source, scale, many):
    """Something that can be taken in: the kind, a year, and what is known of it."""
    year = source.randint(0, many)
    kind = source.choice(["class", "only", "only", "paid"])
    if kind == "class":
        return kind, year, source.randrange(len(scale))
    if kind == "paid":
        return kind, year, source.choice([*scale.premiums(), 77])
    return kind, year, [at for at in range(len(scale)) if source.random() < 0.7]


def take(seen, news):
    kind, year, known = news
    if kind == "class":
        seen[year] = known
    elif kind == "only":
        seen.only(year, known)
    else:
        seen.paid(year, known)


def anew(scale, many, told):
    """Another one that was told the same and was asked nothing yet."""
    seen = Seen(scale, many)
    for news in told:
        take(seen, news)
    return seen


def spoil(value):
    """Changes all lists of what was returned."""
    for part in containers(value):
        part.reverse()
        part.append(7)
        del part[0]


def layers_left(scale, left, first):
    """For each year from `first` on, the classes to which some story of what is left from there on comes."""
    held = {*left[first]}
    found = [held]
    for classes in left[first + 1:]:
        held = {led(scale, at, column) for at in held for column in range(scale.columns)} & {*classes}
        found.append(held)
    return found


def possible_by_walks(scale, left):
    """The classes of the years, and the columns, of the stories that fit, by a walk there and a walk back."""
    found = layers_left(scale, left, 0)
    columns = []
    for year in reversed(range(len(left) - 1)):
        ways = [(at, column) for at in found[year] for column in range(scale.columns)
                if led(scale, at, column) in found[year + 1]]
        found[year] = {at for at, _ in ways}
        columns.append(sorted({column for _, column in ways}))
    return [sorted(classes) for classes in found], columns[::-1]


def clash_by_walks(scale, left):
    """Point 59 by a walk from each year on."""
    found = []
    for first in range(len(left)):
        held = layers_left(scale, left, first)
        if set() in held:
            found.append((held.index(set()), first))
    return (min(found)[1], sum(min(found))) if found else None


class AskedAgain(unittest.TestCase):

    def assert_told(self, seen, scale, many, told):
        """All questions are answered as by another one that was told the same."""
        self.assertEqual(seen_told(seen, many), seen_told(anew(scale, many, told), many), told)


class AskedTwiceTest(AskedAgain):

    def check(self, scale, many, told):
        seen = anew(scale, many, told)
        for ask in questions(many):
            found = ask(seen)
            before = copy.deepcopy(found)
            spoil(found)
            self.assertEqual(ask(seen), before)
            self.assertEqual(answered(ask, seen), before)
        self.assert_told(seen, scale, many, told)

    def test_what_was_returned_is_changed_in_between(self):
        source = random.Random(591)
        for _ in range(100):
            scale = random_scale(source, source.randint(1, 5), source.randint(1, 3), source.choice([0, 1, 3]))
            many = source.randint(0, 5)
            self.check(scale, many, [random_news(source, scale, many) for _ in range(source.randint(0, 3))])

    def test_what_was_returned_is_changed_before_all_other_questions(self):
        source = random.Random(592)
        for told in ([], [("class", 1, 0)], [("only", 2, [0, 2]), ("paid", 3, 130)], [("only", 2, [])]):
            for _ in range(5):
                seen = anew(MILD, 4, told)
                for ask in source.sample(questions(4), len(questions(4))):
                    spoil(ask(seen))
                    spoil(ask(seen))
                self.assert_told(seen, MILD, 4, told)

    def test_sixty_years(self):
        self.check(long_ladders()[0], 60, [])
        self.check(long_ladders()[1], 60, [("class", 7, 3), ("only", 30, [0, 5, 11]), ("class", 60, 11)])

    def test_lists_that_were_passed(self):
        seen = Seen(MILD, 3)
        classes = [0, 1]
        for ask in questions(3):
            ask(seen)
        seen.only(1, classes)
        classes.append(2)
        self.assert_told(seen, MILD, 3, [("only", 1, [0, 1])])
        classes.clear()
        self.assert_told(seen, MILD, 3, [("only", 1, [0, 1])])

    def test_answers_stay_as_they_were_told(self):
        seen = Seen(MILD, 3)
        found = seen_told(seen, 3)
        before = copy.deepcopy(found)
        seen[1] = 0
        with seen.trial():
            seen.only(2, [1])
            seen_told(seen, 3)
        seen_told(seen, 3)
        self.assertEqual(found, before)


class AskedInBetweenTest(AskedAgain):

    def setUp(self):
        self.told = [("only", 1, [0, 1]), ("paid", 4, 130)]
        self.seen = anew(MILD, 4, self.told)
        self.before = seen_told(self.seen, 4)

    def assert_as_before(self):
        self.assertEqual(seen_told(self.seen, 4), self.before)
        self.assert_told(self.seen, MILD, 4, self.told)

    def test_each_kind_of_news(self):
        for news in (("class", 0, 2), ("only", 2, [0, 2]), ("paid", 3, 160), ("paid", 3, 77), ("only", 4, [])):
            seen = anew(MILD, 4, self.told)
            self.assertEqual(seen_told(seen, 4), self.before)
            take(seen, news)
            self.assertNotEqual(seen_told(seen, 4), self.before)
            self.assert_told(seen, MILD, 4, [*self.told, news])

    def test_each_question_before_and_behind_each_kind_of_news(self):
        for news in (("class", 0, 2), ("only", 2, [0, 2]), ("paid", 3, 160), ("only", 4, [])):
            for ask in questions(4):
                seen = anew(MILD, 4, self.told)
                self.assertEqual(ask(seen), ask(anew(MILD, 4, self.told)))
                take(seen, news)
                self.assertEqual(ask(seen), ask(anew(MILD, 4, [*self.told, news])))

    def test_one_piece_of_news_after_the_other(self):
        source = random.Random(593)
        for _ in range(60):
            scale = random_scale(source, source.randint(1, 6), source.randint(1, 4), source.choice([1, 3]))
            many = source.randint(0, 6)
            seen, told = Seen(scale, many), []
            for _ in range(6):
                self.assert_told(seen, scale, many, told)
                told.append(random_news(source, scale, many))
                take(seen, told[-1])
            self.assert_told(seen, scale, many, told)

    def test_errors_between_two_questions(self):
        for deed, values, error in ((self.seen.only, (2, [0, 3]), ("NoClass", 3)),
                                    (self.seen.only, (5, [0]), ("BadYears", 5)),
                                    (self.seen.__setitem__, (2, -1), ("NoClass", -1)),
                                    (self.seen.__setitem__, (-1, 0), ("BadYears", -1)),
                                    (self.seen.paid, (True, 100), ("BadYears", True)),
                                    (self.seen.possible, (5,), ("BadYears", 5)),
                                    (self.seen.columns_in, (4,), ("BadYears", 4))):
            # The years are looked at before the answers that are known, too.
            self.assertEqual(raised(deed, *values), error)
            self.assert_as_before()

    def test_each_question_before_in_and_behind_a_block(self):
        news = ("class", 0, 2)
        for ask in questions(4):
            seen = anew(MILD, 4, self.told)
            before, inside = ask(anew(MILD, 4, self.told)), ask(anew(MILD, 4, [*self.told, news]))
            self.assertEqual(ask(seen), before)
            with seen.trial() as held:
                self.assertEqual(ask(held), before)
                take(held, news)
                self.assertEqual((ask(held), ask(seen)), (inside, inside))
            self.assertEqual(ask(seen), before)

    def test_questions_only_in_a_block(self):
        # What is counted in the block for what is known there is no answer behind it.
        for ask in questions(4):
            seen = anew(MILD, 4, self.told)
            with seen.trial():
                seen.only(2, [])
                ask(seen)
            self.assertEqual(ask(seen), ask(anew(MILD, 4, self.told)))
            self.assertIsNone(seen.tried(lambda held: held.only(2, [])))
            self.assertEqual(ask(seen), ask(anew(MILD, 4, self.told)))

    def test_news_behind_a_block(self):
        with self.seen.trial() as held:
            held[0] = 2
            seen_told(held, 4)
        take(self.seen, ("only", 3, [0, 2]))
        self.assert_told(self.seen, MILD, 4, [*self.told, ("only", 3, [0, 2])])

    def test_news_between_a_trial_and_its_block(self):
        trial = self.seen.trial()
        take(self.seen, ("class", 2, 0))
        self.told.append(("class", 2, 0))
        self.before = seen_told(self.seen, 4)
        with trial:
            self.seen[0] = 2
            self.assert_told(self.seen, MILD, 4, [*self.told, ("class", 0, 2)])
        self.assert_as_before()

    def test_blocks_in_blocks(self):
        outer, inner = ("class", 0, 1), ("only", 3, [])
        with self.seen.trial() as held:
            take(held, outer)
            with held.trial() as further:
                take(further, inner)
                self.assert_told(further, MILD, 4, [*self.told, outer, inner])
            self.assert_told(held, MILD, 4, [*self.told, outer])
            self.assertEqual(held.tried(lambda further: take(further, inner) or further.clash()), (3, 3))
            self.assert_told(held, MILD, 4, [*self.told, outer])
        self.assert_as_before()

    def test_errors_that_leave_blocks(self):
        with self.assertRaises(KeyError):
            with self.seen.trial() as held:
                take(held, ("class", 0, 1))
                seen_told(held, 4)
                with held.trial():
                    take(held, ("only", 3, []))
                    seen_told(held, 4)
                    raise KeyError("told")
        self.assert_as_before()
        with self.seen.trial() as held:
            take(held, ("class", 0, 1))
            with self.assertRaises(ZeroDivisionError):
                with held.trial():
                    take(held, ("only", 3, []))
                    seen_told(held, 4)
                    raise ZeroDivisionError("told")
            self.assert_told(held, MILD, 4, [*self.told, ("class", 0, 1)])
        self.assert_as_before()

    def test_errors_that_leave_deeds(self):
        def deed(held):
            held[0] = 2
            seen_told(held, 4)
            held.tried(further)

        def further(held):
            held.only(3, [])
            seen_told(held, 4)
            held[2] = 3

        self.assertEqual(raised(self.seen.tried, deed), ("NoClass", 3))
        self.assert_as_before()
        with self.seen.trial():
            take(self.seen, ("class", 0, 1))
            self.assertEqual(raised(self.seen.tried, deed), ("NoClass", 3))
            self.assert_told(self.seen, MILD, 4, [*self.told, ("class", 0, 1)])
        self.assert_as_before()


class WanderingTest(AskedAgain):
    """News, questions, blocks and errors in any order."""

    def wander(self, seen, told, depth):
        for _ in range(self.source.randint(1, 5)):
            kind = self.source.randrange(6)
            if kind < 2:
                told.append(random_news(self.source, self.scale, self.many))
                take(seen, told[-1])
            elif kind < 4 or depth == 3:
                ask = self.source.choice(questions(self.many))
                found = ask(seen)
                self.assertEqual(found, ask(anew(self.scale, self.many, told)), told)
                spoil(found)
            elif kind == 4:
                self.wander_in_block(seen, told, depth)
            else:
                seen.tried(lambda held: self.wander(held, list(told), depth + 1))
        self.assert_told(seen, self.scale, self.many, told)

    def wander_in_block(self, seen, told, depth):
        fails = self.source.random() < 0.5
        try:
            with seen.trial() as held:
                self.wander(held, list(told), depth + 1)
                if fails:
                    raise ZeroDivisionError("told")
        except ZeroDivisionError:
            self.assertTrue(fails)

    def test_any_order(self):
        for seed in range(120):
            self.source = random.Random(seed)
            self.scale = random_scale(self.source, self.source.randint(1, 5), self.source.randint(1, 3), 3)
            self.many = self.source.randint(0, 5)
            self.wander(Seen(self.scale, self.many), [], 0)


class ManyYearsTest(AskedAgain):

    def scales(self):
        source = random.Random(594)
        return [*long_ladders(), random_scale(source, 12, 5), random_scale(source, 12, 5, 2)]

    def knowledge(self, source, scale):
        """Nothing, a little that some story fits, and more and more that may fit none."""
        story = (source.randrange(12), [source.randrange(5) for _ in range(60)])
        classes = story_classes(scale, story)
        seen_years = [[], [source.randrange(61)], source.sample(range(61), 6), source.sample(range(61), 30)]
        known = [[("class", year, classes[year]) for year in years] for years in seen_years]
        return known + [[random_news(source, scale, 60) for _ in range(many)] for many in (1, 3, 8)]

    def cases(self):
        source = random.Random(595)
        return [(scale, told) for scale in self.scales() for told in self.knowledge(source, scale)]

    def test_all_years_as_by_new_ones(self):
        for scale, told in self.cases():
            seen = anew(scale, 60, told)
            for ask in questions(60):
                self.assertEqual(ask(seen), ask(anew(scale, 60, told)), told)

    def test_all_years_by_walks(self):
        clashes = 0
        for scale, told in self.cases():
            seen = anew(scale, 60, told)
            left = self.left(scale, told)
            possible, columns = possible_by_walks(scale, left)
            self.assertEqual([seen.possible(year) for year in range(61)], possible)
            self.assertEqual([seen.columns_in(year) for year in range(60)], columns)
            self.assertEqual(seen.clash(), clash_by_walks(scale, left))
            self.assertEqual(seen.clash() is None, seen.stories() > 0)
            clashes += seen.clash() is not None
        self.assertGreater(clashes, 2)

    def test_the_best_year_by_trials(self):
        for scale, told in self.cases():
            seen = anew(scale, 60, told)
            counts = [[seen.tried(lambda held: take(held, ("class", year, at)) or held.stories()) for at in range(12)]
                      for year in range(0, 61, 6)]
            # Each year sorts all stories by its classes.
            self.assertEqual({sum(counted) for counted in counts}, {seen.stories()})
            if seen.stories() > 0:
                year, worst = seen.best_year()
                self.assertLessEqual(worst, min(max(counted) for counted in counts))
                told_then = [anew(scale, 60, [*told, ("class", year, at)]) for at in range(12)]
                self.assertEqual(max(further.stories() for further in told_then), worst)
            else:
                self.assertIsNone(seen.best_year())

    def test_the_stories_of_the_least_and_the_greatest_sum(self):
        for scale, told in self.cases():
            seen = anew(scale, 60, told)
            for deed, best in ((seen.fewest, min), (seen.most, max)):
                story = deed()
                self.assertEqual(story is None, seen.stories() == 0)
                if story is not None:
                    self.assertTrue(all(at in seen[year] for year, at in enumerate(story_classes(scale, story))))
                    self.assertEqual(sum(story[1]), self.sum_by_walks(scale, seen, best))

    def sum_by_walks(self, scale, seen, best):
        """The least or the greatest sum of the columns, year by year."""
        sums = {at: 0 for at in seen[0]}
        for year in range(1, 61):
            steps = [(led(scale, at, column), amount + column) for at, amount in sums.items() for column in range(5)]
            sums = {to: best(amount for other, amount in steps if other == to) for to in seen[year]
                    if to in {other for other, _ in steps}}
        return best(sums.values())

    def test_clashes_of_all_widths(self):
        # A year leads at most one class up or down.
        scale = Scale([0] * 12, [[max(at - 1, 0), at, min(at + 1, 11)] for at in range(12)])

        def far_apart(first, years):
            return [("class", first, 0), ("class", first + years, years + 1)]

        for years in range(1, 11):
            self.assertEqual(anew(scale, 60, far_apart(25, years)).clash(), (25, 25 + years))
            # Of several clashes of one width, the first one is told, whatever was taken in first.
            for told in (far_apart(3, years) + far_apart(25, years), far_apart(25, years) + far_apart(3, years)):
                self.assertEqual(anew(scale, 60, told).clash(), (3, 3 + years))
            # A narrower one is told rather than a wider one, wherever it lies.
            if years > 1:
                for told in (far_apart(3, years) + far_apart(25, years - 1),
                             far_apart(47, years) + far_apart(25, years - 1)):
                    self.assertEqual(anew(scale, 60, told).clash(), (25, 24 + years))
        self.assertIsNone(anew(scale, 60, [("class", 25, 0), ("class", 36, 11)]).clash())

    def left(self, scale, told):
        seen = anew(scale, 60, told)
        return [seen[year] for year in range(61)]


class SoonTest(unittest.TestCase):

    def best_time(self, deed, prepare):
        """The least time of some calls: whatever else the machine does can only make it longer."""
        times = []
        for _ in range(10):
            seen = prepare()
            began = time.perf_counter()
            deed(seen)
            times.append(time.perf_counter() - began)
        return min(times)

    def prepared(self):
        """What makes questions take long: nothing known, one class known, and a clash of the first and last year."""
        scales = [*long_ladders(), random_scale(random.Random(597), 12, 5)]
        knowledge = ([], [("class", 30, 5)], [("only", 0, []), ("only", 60, [])])
        told = [(scale, news) for scale in scales for news in knowledge]
        slow = Scale([0] * 12, [[at, at, at, at, min(at + 1, 11)] for at in range(12)])
        told.append((slow, [("class", 0, 0), ("class", 30, 8), ("class", 60, 2)]))
        return [lambda scale=scale, news=news: anew(scale, 60, news) for scale, news in told]

    def test_all_years(self):
        def ask(seen):
            for year in range(60):
                seen.possible(year)
                seen.columns_in(year)
            seen.possible(60)

        for prepare in self.prepared():
            self.assertLess(self.best_time(ask, prepare), 0.1)

    def test_clashes(self):
        for prepare in self.prepared():
            self.assertLess(self.best_time(Seen.clash, prepare), 0.01)

    def test_what_is_asked_once(self):
        for prepare in self.prepared():
            for ask in (Seen.stories, Seen.fewest, Seen.most, Seen.best_year,
                        lambda seen: seen.possible(30), lambda seen: seen.columns_in(30)):
                self.assertLess(self.best_time(ask, prepare), 0.004)

    def test_questions_behind_each_piece_of_news(self):
        def ask(seen):
            for year in range(60):
                seen.only(year, [at for at in range(12) if at != year % 12])
                seen.possible(60 - year)
                with seen.trial():
                    seen[year] = 5
                    seen.columns_in(year)

        self.assertLess(self.best_time(ask, lambda: Seen(long_ladders()[0], 60)), 0.4)


if __name__ == "__main__":
    unittest.main()
