"""[14], with (g) of [1], [2] and [3]: alike.py."""

import copy
import itertools
import random
import unittest

from lesserhall.alike import are_alike, lesser, lists_of, told_small, told_wide
from lesserhall.beats import history, rest_by_beats
from lesserhall.errors import NotAlike, NotLike
from lesserhall.halls import Hall
from lesserhall.lines import all_hall, line_hall
from lesserhall.rows import row_hall
from lesserhall.turns import is_rest
from tests.helper import ODD, deep, naive_seen, naive_turned, small_halls, some_halls


def naive_alike(hall, lists):
    """Whether lists, which are right ones, are alike, straight from the words of the document."""
    for mine in lists:
        for one, other in itertools.combinations([hall.rules()[person] for person in mine], 2):
            if one[0] != other[0]:
                return False
            if one[0] in ("held", "sum", "cap", "kinds") and one[1] != other[1]:
                return False
            if one[0] == "cap" and one[3] != other[3]:
                return False
            for theirs in lists:
                if theirs == mine:
                    continue
                if one[0] in ("sum", "cap"):
                    if sum(w for p, w in one[2] if p in theirs) != sum(w for p, w in other[2] if p in theirs):
                        return False
                elif bool(naive_seen(one) & set(theirs)) != bool(naive_seen(other) & set(theirs)):
                    return False
    return True


def all_lists(many):
    """All ways to part so many persons into lists."""
    ways = [[]]
    for person in range(many):
        ways = [grown for way in ways for grown in one_more(way, person)]
    return ways


def one_more(way, person):
    """The ways in which one more person stands in one of the lists, or by itself."""
    for at in range(len(way)):
        yield way[:at] + [way[at] + [person]] + way[at + 1:]
    yield way + [[person]]


def alike_halls(seed, times):
    """Triples (chance, hall, standing) of halls in which many persons are alike; at most 8 persons."""
    chance = random.Random(seed)
    for _ in range(times):
        lists = chance.randint(1, 3)
        many = chance.randint(lists, 8)
        of = [chance.randrange(lists) for _ in range(many)]
        members = [[person for person in range(many) if of[person] == at] for at in range(lists)]
        made = []
        for at in range(lists):
            word = chance.choice(("held", "sum", "cap", "kinds", "next", "free"))
            made.append((word, chance.randint(0, 2), chance.randint(0, 4), [chance.randint(0, 3) for _ in range(lists)]))
        rules = []
        for person in range(many):
            word, own, most, weights = made[of[person]]
            weight_of = {}
            for at in range(lists):
                for _ in range(weights[at]):
                    if members[at]:
                        other = chance.choice(members[at])
                        weight_of[other] = weight_of.get(other, 0) + 1
            ties = tuple(sorted(weight_of.items()))
            seen = tuple(sorted(weight_of))
            rules.append({"held": ("held", own), "sum": ("sum", own, ties), "cap": ("cap", own, ties, most),
                          "kinds": ("kinds", own, seen), "next": ("next", seen), "free": ("free", seen)}[word])
        shown = [chance.randint(0, 3) for _ in range(lists)]
        yield chance, Hall(rules), tuple(shown[of[person]] for person in range(many))


def unlike_halls(seed):
    """Halls of all sorts, of few persons."""
    return itertools.chain(small_halls(seed, 120, 5), ((None, hall, standing) for _, hall, standing in
                                                       alike_halls(seed, 120) if len(hall) <= 5))


# 0 and 1 weigh 2 together for 2, and for 3; 2 and 3 see each other or themselves.
PAIRS = Hall([("sum", 1, ()), ("sum", 1, ((0, 7), (1, 3))), ("sum", 0, ((0, 2), (3, 5))), ("sum", 0, ((0, 1), (1, 1)))])


class AreAlikeTest(unittest.TestCase):
    def no(self, hall, thing):
        self.assertIs(are_alike(hall, thing), False, thing)

    def test_weights_together(self):
        self.assertIs(are_alike(PAIRS, [[0, 1], [2, 3]]), True)
        # Without the list of 0 and 1 their weights aren't together.
        self.no(PAIRS, [[0], [1], [2, 3]])
        self.no(PAIRS, [[0, 1, 2, 3]])
        self.no(PAIRS, [[0, 2], [1, 3]])

    def test_each_by_itself_is_always_alike(self):
        for _, hall, _ in some_halls(1401, 100):
            self.assertIs(are_alike(hall, [[person] for person in range(len(hall))]), True)

    def test_all_in_one(self):
        self.assertIs(are_alike(all_hall(60), [list(range(60))]), True)
        self.assertIs(are_alike(line_hall(60, ring=True), [list(range(60))]), True)
        # Whom somebody sees of its own list is no matter.
        self.assertIs(are_alike(line_hall(60), [list(range(60))]), True)
        self.assertIs(are_alike(row_hall(5), [[0, 1, 2, 3, 4]]), True)
        self.no(row_hall(5), [[0, 1, 2], [3, 4], []])
        self.no(row_hall(3), [[0], [1, 2], [3]])
        self.no(row_hall(3), [[0, 1], [2, 3]])
        self.assertIs(are_alike(row_hall(3), [[0], [1, 2]]), True)
        self.assertIs(are_alike(row_hall(3), [[0, 2], [1]]), False)

    def test_words_and_numbers(self):
        rules = [("held", 2), ("sum", 2, ()), ("cap", 2, (), 9), ("kinds", 2, ()), ("next", ()), ("free", ())]
        for one, other in itertools.combinations_with_replacement(rules, 2):
            self.assertIs(are_alike(Hall([one, other]), [[0, 1]]), one == other)
        for one, other in ((("held", 2), ("held", 3)), (("sum", 2, ()), ("sum", 3, ())),
                           (("cap", 2, (), 9), ("cap", 3, (), 9)), (("cap", 2, (), 9), ("cap", 2, (), 8)),
                           (("kinds", 2, ()), ("kinds", 3, ()))):
            self.no(Hall([one, other]), [[0, 1]])

    def test_somebody_or_nobody(self):
        for word in ("kinds", "next", "free"):
            ahead = (word, 1) if word == "kinds" else (word,)

            def hall(one, other):
                return Hall([("held", 3), ("held", 3), ahead + (one,), ahead + (other,)])
            for one, other in itertools.product([(), (0,), (1,), (0, 1)], repeat=2):
                self.assertIs(are_alike(hall(one, other), [[0, 1], [2, 3]]), bool(one) == bool(other))
                self.assertIs(are_alike(hall(one, other), [[0], [1], [2, 3]]), one == other)
            # Itself or others of its own list: no matter.
            for one, other in itertools.product([(), (2,), (3,), (2, 3)], repeat=2):
                self.assertIs(are_alike(hall(one, other), [[0, 1], [2, 3]]), True)

    def test_own_list_is_no_matter_of_sums(self):
        hall = Hall([("sum", 0, ((0, 5), (2, 3))), ("cap", 0, ((1, 1), (2, 3)), 7), ("held", 0)])
        self.no(hall, [[0, 1], [2]])
        hall = Hall([("cap", 0, ((0, 5), (1, 2), (2, 3)), 7), ("cap", 0, ((2, 3),), 7), ("held", 0)])
        self.assertIs(are_alike(hall, [[0, 1], [2]]), True)
        hall = Hall([("cap", 0, ((0, 5), (1, 2), (2, 3)), 7), ("cap", 0, ((2, 4),), 7), ("held", 0)])
        self.no(hall, [[0, 1], [2]])

    def test_as_the_document_says(self):
        found = 0
        for _, hall, _ in unlike_halls(1402):
            for lists in all_lists(len(hall)):
                wanted = naive_alike(hall, lists)
                self.assertIs(are_alike(hall, lists), wanted)
                found += wanted and len(lists) < len(hall)
        self.assertGreater(found, 200)

    def test_wrong_things(self):
        hall = all_hall(3)
        self.assertIs(are_alike(hall, [[0, 1, 2]]), True)
        self.assertIs(are_alike(hall, [[0, 2], [1]]), True)
        for thing in ([], [[]], [[], [0, 1, 2]], [[0, 1, 2], []], [(0, 1, 2)], ([0, 1, 2],), ((0, 1, 2),),
                      [(0,), [1], [2]], [0, 1, 2], [[1], [0], [2]], [[1, 2], [0]], [[1, 0], [2]], [[0, 0], [1], [2]],
                      [[0, 1], [1, 2]], [[0], [0], [1, 2]], [[0], [1]], [[0, 1]], [[0, 1], [3]], [[0, 1, 2, 3]],
                      [[0, 1, 2], [3]], [[-1, 0, 1, 2]], [[-1, 0, 1]], [[-3], [-2], [-1]], [[0, True, 2]],
                      [[False], [True], [2]], [[False, 1, 2]], [["0"], ["1"], ["2"]], ["012"], "012", ["0", "1", "2"],
                      [[0, 1, None]], [[0], [1], None], [[0], [1], [[2]]], [[0], [1], [(2,)]], [[0, 1, [2]]],
                      [[0, 1, "2"]], [[[0, 1, 2]]], [[0, 1, 2], 0], [[0, 1, 2], None], [[0, 1, 2], True],
                      [[0, 1, 10 ** 5000]], 0, 1, 3, None, True, False, ""):
            self.no(hall, thing)
        for odd in ODD:
            self.no(hall, odd)
            self.no(hall, [odd])
            self.no(hall, [[odd]])
            self.no(hall, [[0, 1, odd]])
            self.no(hall, [[0, 1], odd])
            self.no(hall, [odd, [0, 1, 2]])
        self.no(Hall([("held", 0)]), [[False]])
        self.no(Hall([("held", 0), ("held", 0)]), [[0, True]])

    def test_deep_and_great_things(self):
        hall = all_hall(2)
        for made in (list, tuple):
            self.no(hall, deep(made, 12))
            self.no(hall, [deep(made, 11)])
            self.no(hall, [[0, deep(made, 10)]])
        self.no(hall, [[0, 1]] * 1300)
        self.no(hall, [list(range(3998))])
        self.no(hall, [0] * 3999)

    def test_names_and_the_thing_stays(self):
        thing = [[0, 1], [2, 3]]
        self.assertIs(are_alike(hall=PAIRS, thing=thing), True)
        self.assertEqual(thing, [[0, 1], [2, 3]])
        odd = [[1, 0], [(2,), 3]]
        before = copy.deepcopy(odd)
        self.no(PAIRS, odd)
        self.assertEqual(odd, before)


class ListsOfTest(unittest.TestCase):
    def test_small(self):
        self.assertEqual(lists_of(PAIRS, (0, 0, 0, 0)), [[0, 1], [2, 3]])
        self.assertEqual(lists_of(PAIRS, (0, 1, 0, 0)), [[0], [1], [2], [3]])
        self.assertEqual(lists_of(PAIRS, (0, 0, 0, 1)), [[0, 1], [2], [3]])
        self.assertEqual(lists_of(Hall([("held", 4)]), (9,)), [[0]])

    def test_by_what_they_show(self):
        self.assertEqual(lists_of(all_hall(5), (3, 1, 3, 1, 0)), [[0, 2], [1, 3], [4]])
        self.assertEqual(lists_of(all_hall(60), (7,) * 60), [list(range(60))])
        self.assertEqual(lists_of(all_hall(60), tuple(range(60))), [[person] for person in range(60)])

    def test_parted_from_the_end_on(self):
        # In a line whose last one shows another number each one is as far from it as no other one.
        self.assertEqual(lists_of(line_hall(60), (0,) * 59 + (1,)), [[person] for person in range(60)])
        self.assertEqual(lists_of(line_hall(60), (0,) * 60), [list(range(60))])
        self.assertEqual(lists_of(line_hall(6, ring=True), (0, 1) * 3), [[0, 2, 4], [1, 3, 5]])

    def test_the_fewest(self):
        parted = 0
        for _, hall, standing in unlike_halls(1411):
            standing = tuple(shown % 3 for shown in standing)
            right = [lists for lists in all_lists(len(hall)) if naive_alike(hall, lists)
                     and all(len({standing[person] for person in persons}) == 1 for persons in lists)]
            fewest = min(map(len, right))
            self.assertEqual([lists for lists in right if len(lists) == fewest], [lists_of(hall, standing)])
            parted += len(set(standing)) < fewest < len(hall)
        self.assertGreater(parted, 10)

    def test_of_halls_that_were_told(self):
        hall = lesser(row_hall(60), [[person] for person in range(60)])
        self.assertEqual(lists_of(hall, (0,) * 60), [list(range(60))])
        self.assertEqual(lists_of(hall, tuple(range(60))), [[person] for person in range(60)])

    def test_names_kinds_and_the_askers_own(self):
        told = lists_of(hall=PAIRS, standing=(0, 0, 0, 0))
        self.assertIs(type(told), list)
        self.assertTrue(all(type(persons) is list for persons in told))
        told[0].append(9)
        told.pop()
        self.assertEqual(lists_of(PAIRS, (0, 0, 0, 0)), [[0, 1], [2, 3]])

    def test_no_two_are_one(self):
        told = lists_of(all_hall(3), (0, 1, 2)) + lists_of(all_hall(3), (0, 1, 2))
        self.assertEqual(len({id(one) for one in told}), 6)


class LesserTest(unittest.TestCase):
    def test_rules_likewise(self):
        self.assertEqual(lesser(PAIRS, [[0, 1], [2, 3]]), Hall([("sum", 1, ()), ("sum", 0, ((0, 2),))]))
        self.assertEqual(lesser(all_hall(5), [[0, 2], [1, 3], [4]]),
                         Hall([("sum", 0, ((1, 2), (2, 1))), ("sum", 0, ((0, 2), (2, 1))),
                               ("sum", 0, ((0, 2), (1, 2)))]))
        self.assertEqual(lesser(line_hall(6, ring=True), [[0, 1, 2, 3, 4, 5]]), Hall([("sum", 0, ())]))

    def test_each_word(self):
        hall = Hall([("held", 5), ("held", 5), ("cap", 3, ((0, 1), (1, 1), (2, 9)), 4), ("cap", 3, ((1, 2),), 4),
                     ("kinds", 2, (0, 4)), ("kinds", 2, (0, 1)), ("next", (4, 6)), ("next", (5,)), ("free", (2, 7, 8)),
                     ("free", (3, 6))])
        lists = [[0, 1], [2, 3], [4, 5], [6, 7], [8, 9]]
        self.assertEqual(lesser(hall, lists), Hall([("held", 5), ("cap", 3, ((0, 2),), 4), ("kinds", 2, (0,)),
                                                    ("next", (2,)), ("free", (1, 3))]))

    def test_each_by_itself(self):
        # The hall itself, but nobody sees itself.
        for _, hall, _ in some_halls(1421, 60):
            told = lesser(hall, [[person] for person in range(len(hall))])
            for person in range(len(hall)):
                self.assertEqual(told.sees(person), [other for other in hall.sees(person) if other != person])
                self.assertEqual(told.rule(person)[0], hall.rule(person)[0])
        row = row_hall(12)
        self.assertEqual(lesser(row, [[person] for person in range(12)]), row)

    def test_lists_may_be_tuples(self):
        wanted = lesser(PAIRS, [[0, 1], [2, 3]])
        for lists in (((0, 1), (2, 3)), [(0, 1), (2, 3)], ([0, 1], [2, 3]), [[0, 1], (2, 3)]):
            self.assertEqual(lesser(PAIRS, lists), wanted)

    def test_not_alike(self):
        hall = all_hall(3)
        for lists in ([], [[]], [[0, 1, 2], []], [[], [0], [1], [2]], [[1], [0], [2]], [[1, 0], [2]], [[0, 0], [1], [2]],
                      [[0, 1], [1, 2]], [[0], [1]], [[0, 1], [3]], [[0, 1, 2, 3]], [[0, 1, 2], [3]], [[0], [0], [1, 2]],
                      [[2, 1, 0]], [[7]], [[10 ** 30]], [[0, 1, 10 ** 5000]]):
            self.assertRaises(NotAlike, lesser, hall, lists)
            self.assertRaises(NotAlike, lesser, hall, tuple(map(tuple, lists)))
        for lists in ([[0, 1, 2, 3]], [[0], [1], [2, 3]], [[0, 2], [1, 3]], [[0, 3], [1], [2]]):
            self.assertRaises(NotAlike, lesser, PAIRS, lists)

    def test_refused_wherever_they_are_not_alike(self):
        for _, hall, _ in unlike_halls(1422):
            for lists in all_lists(len(hall)):
                if naive_alike(hall, lists):
                    self.assertEqual(len(lesser(hall, lists)), len(lists))
                else:
                    self.assertRaises(NotAlike, lesser, hall, lists)

    def test_names_and_what_is_handed_in_stays(self):
        lists = [[0, 1], [2, 3]]
        told = lesser(hall=PAIRS, lists=lists)
        self.assertIs(type(told), Hall)
        self.assertEqual(lists, [[0, 1], [2, 3]])
        lists[0].append(5)
        lists.clear()
        self.assertEqual(told.rules(), (("sum", 1, ()), ("sum", 0, ((0, 2),))))


class ToldTest(unittest.TestCase):
    def test_small(self):
        self.assertEqual(told_small((4, 4, 7, 7), [[0, 1], [2, 3]]), (4, 7))
        self.assertEqual(told_small((4, 7, 4, 7, 7), [[0, 2], [1, 3, 4]]), (4, 7))
        self.assertEqual(told_small((4, 4, 4), [[0], [1], [2]]), (4, 4, 4))
        self.assertEqual(told_small((4, 4, 4), [[0, 1, 2]]), (4,))
        self.assertEqual(told_small((9,), [[0]]), (9,))

    def test_wide(self):
        self.assertEqual(told_wide((4, 7), [[0, 1], [2, 3]]), (4, 4, 7, 7))
        self.assertEqual(told_wide((4, 7), [[0, 2], [1, 3, 4]]), (4, 7, 4, 7, 7))
        self.assertEqual(told_wide((4,), [[0, 1, 2]]), (4, 4, 4))
        self.assertEqual(told_wide((1, 2, 3), [[0], [1], [2]]), (1, 2, 3))

    def test_not_like(self):
        for standing, at in (((4, 5, 7, 7), 0), ((4, 4, 7, 8), 1), ((4, 5, 7, 8), 0), ((0, 10 ** 6, 7, 7), 0)):
            with self.assertRaises(NotLike) as caught:
                told_small(standing, [[0, 1], [2, 3]])
            self.assertEqual(caught.exception.at, at)
        for standing, at in (((1, 1, 2, 3, 4), 1), ((0, 1, 2, 2, 2), 2), ((0, 1, 2, 3, 2), 1)):
            with self.assertRaises(NotLike) as caught:
                told_small(standing, [[0], [2, 3], [1, 4]] if at == 1 else [[0], [3, 4], [1, 2]])
            self.assertEqual(caught.exception.at, at)

    def test_each_way(self):
        for chance, hall, standing in alike_halls(1431, 60):
            lists = lists_of(hall, standing)
            small = told_small(standing, lists)
            self.assertEqual(len(small), len(lists))
            self.assertEqual(told_wide(small, lists), standing)
            other = tuple(chance.randint(0, 10 ** 6) for _ in lists)
            self.assertEqual(told_small(told_wide(other, lists), lists), other)

    def test_names_kinds_and_tuples(self):
        for lists in ([[0, 2], [1]], ((0, 2), (1,)), [(0, 2), [1]]):
            before = copy.deepcopy(lists)
            self.assertEqual(told_small(standing=(4, 7, 4), lists=lists), (4, 7))
            self.assertEqual(told_wide(standing=(4, 7), lists=lists), (4, 7, 4))
            self.assertEqual(lists, before)
        self.assertIs(type(told_small((4, 7, 4), [[0, 2], [1]])), tuple)
        self.assertIs(type(told_wide((4, 7), [[0, 2], [1]])), tuple)


class GoAlikeTest(unittest.TestCase):
    """(g) of [1]: persons who are alike, told as one, leave all else as it goes."""

    def test_by_beats(self):
        shorter = 0
        for chance, hall, standing in alike_halls(1441, 200):
            lists = lists_of(hall, standing)
            shorter += len(lists) < len(hall)
            small = lesser(hall, lists)
            for first in (told_small(standing, lists), tuple(chance.randint(0, 6) for _ in lists)):
                wide = told_wide(first, lists)
                self.assertEqual([told_wide(one, lists) for one in history(small, first, 12)], history(hall, wide, 12))
                rest, beats = rest_by_beats(small, first)
                self.assertEqual(rest_by_beats(hall, wide), (told_wide(rest, lists), beats))
                self.assertTrue(is_rest(hall, told_wide(rest, lists)))
        self.assertGreater(shorter, 100)

    def test_any_lists_that_are_alike(self):
        for _, hall, standing in unlike_halls(1442):
            for lists in all_lists(len(hall)):
                if naive_alike(hall, lists):
                    first = standing[:len(lists)]
                    behind = history(lesser(hall, lists), first, 1)[1]
                    self.assertEqual(told_wide(behind, lists),
                                     naive_turned(hall, told_wide(first, lists), range(len(hall))))


if __name__ == "__main__":
    unittest.main()
