"""[16], with (h) of [1], [2] and [3]: house.py."""

import copy
import unittest

from lesserhall.errors import BadDeed, BadRule, Held, NoPerson, NotHeld
from lesserhall.firm import firm_of, waterline
from lesserhall.halls import Hall
from lesserhall.house import House
from lesserhall.lines import line_hall
from lesserhall.rows import row_hall
from tests.helper import ODD, deep, small_halls, small_rule, some_halls, some_rule
from tests.naive_house import NaiveHouse

# Each of two sees the other one; from (9, 8) beats lead to (5, 0), single turns may lead to (0, 7).
BOTH = Hall([("sum", 0, ((1, 5),)), ("sum", 0, ((0, 7),))])
THREE = Hall([("held", 4), ("sum", 1, ((0, 2), (2, 3))), ("next", (0, 1))])
FAR = (-1, -2, -3, -4, 3, 4, 10 ** 40, -10 ** 40)
# Things that are no deeds, whatever is done to a house of two or more persons.
NO_DEEDS = (
    (), [], None, True, 0, "turn", "rest", "", ["rest"], ["turn", [0]], [("rest",)], (("rest",),), ("fly",), ("Rest",),
    ("rest ",), ("",), ("undo",), ("do", []), ("do", [("rest",)]), ("twin",), ("standing",), ("deeds",), ("log",),
    ("beat",), ("beat", 1, 1), ("rest", 0), ("rest", None), ("turn",), ("turn", [0], [1]), ("turn", 0, 1), ("show",),
    ("show", 0), ("show", 0, 1, 2), ("hold",), ("hold", 0, 1), ("loose",), ("loose", 0, 1), ("rule",), ("rule", 0),
    ("rule", 0, ("held", 1), 1), (None,), (0,), (True, 0), ([], 0), (["turn"], [0]), ((), 0), ({}, 0), (b"rest",),
    {"rest": 1}, {"rest"}, 1.5)


def told_by(house):
    """All that a house tells, its log aside."""
    return (house.hall(), house.standing(), house.held(), house.turns(), house.firm(), house.line(), house.deeds(),
            len(house))


class DeedTest(unittest.TestCase):
    def test_turn(self):
        house = House(BOTH, (9, 8))
        self.assertEqual(house.turn([1]), [1])
        self.assertEqual(house.standing(), (9, 0))
        self.assertEqual(house.turn([0]), [0])
        self.assertEqual(house.turn([0]), [])
        self.assertEqual(house.standing(), (5, 0))

    def test_turn_at_once(self):
        house = House(BOTH, (9, 8))
        self.assertEqual(house.turn([1, 0]), [0, 1])
        self.assertEqual(house.standing(), (5, 0))
        house = House(THREE, (9, 9, 9))
        self.assertEqual(house.turn((2, 1)), [1, 2])
        self.assertEqual(house.standing(), (9, 1, 0))

    def test_turn_of_nobody_and_of_one_twice(self):
        house = House(BOTH, (9, 8))
        for bare in ([], ()):
            self.assertEqual(house.turn(bare), [])
        self.assertEqual((house.standing(), house.turns(), house.deeds()), ((9, 8), 0, 2))
        self.assertEqual(house.turn([0, 0]), [0])
        # A second turn would have told 0 from 5.
        self.assertEqual((house.standing(), house.turns(), house.deeds()), ((5, 8), 1, 3))

    def test_beat(self):
        house = House(BOTH, (9, 8))
        self.assertEqual(house.beat(0), (9, 8))
        self.assertEqual(house.deeds(), 1)
        self.assertEqual(house.beat(), (5, 0))
        self.assertEqual(house.beat(400), (5, 0))
        self.assertEqual((house.turns(), house.deeds()), (2, 3))
        house = House(line_hall(4), (9, 9, 9, 9))
        self.assertEqual(house.beat(2), (0, 0, 0, 0))
        house = House(row_hall(4), (1, 2, 0, 1))
        self.assertEqual(house.beat(2), (0, 1, 0, 2))
        self.assertEqual(house.beat(many=1), (0, 1, 0, 3))
        self.assertEqual(house.turns(), 2 + 1 + 1)

    def test_rest(self):
        house = House(row_hall(4), (1, 2, 0, 1))
        self.assertEqual(house.rest(), 3)
        self.assertEqual(house.standing(), (0, 1, 0, 3))
        self.assertEqual(house.rest(), 0)
        self.assertEqual((house.standing(), house.turns(), house.deeds()), ((0, 1, 0, 3), 4, 2))

    def test_show(self):
        house = House(BOTH, (9, 8))
        self.assertIsNone(house.show(0, 10 ** 6))
        self.assertEqual((house.standing(), house.turns()), ((10 ** 6, 8), 0))
        self.assertIsNone(house.show(person=1, number=0))
        self.assertEqual(house.standing(), (10 ** 6, 0))
        house.show(1, 0)
        self.assertEqual((house.standing(), house.turns(), house.deeds()), ((10 ** 6, 0), 0, 3))
        self.assertEqual(house.hall(), BOTH)

    def test_hold_at_what_is_shown_then(self):
        house = House(BOTH, (9, 8))
        self.assertIsNone(house.hold(0))
        self.assertEqual(house.hall(), Hall([("held", 9), BOTH.rule(1)]))
        self.assertEqual((house.held(), house.standing()), ([0], (9, 8)))
        self.assertEqual(house.beat(3), (9, 0))
        house.show(1, 6)
        house.hold(person=1)
        self.assertEqual(house.hall(), Hall([("held", 9), ("held", 6)]))
        self.assertEqual(house.held(), [0, 1])
        self.assertEqual(house.beat(3), (9, 6))

    def test_held_ones_rise(self):
        house = House(row_hall(4), (0, 0, 0, 0))
        for person in (2, 0, 3, 1):
            house.hold(person)
        self.assertEqual(house.held(), [0, 1, 2, 3])
        house.loose(2)
        self.assertEqual(house.held(), [0, 1, 3])

    def test_a_show_of_who_is_held_lasts_till_its_next_turn(self):
        house = House(BOTH, (9, 8))
        house.hold(0)
        house.show(0, 2)
        self.assertEqual((house.standing(), house.hall().rule(0)), ((2, 8), ("held", 9)))
        self.assertEqual(house.turn([1]), [1])
        self.assertEqual(house.standing(), (2, 7))
        self.assertEqual(house.turn([0]), [0])
        self.assertEqual((house.standing(), house.turns()), ((9, 7), 2))

    def test_loose(self):
        house = House(BOTH, (9, 8))
        house.hold(0)
        house.beat()
        self.assertIsNone(house.loose(person=0))
        self.assertEqual((house.held(), house.hall(), house.standing()), ([], BOTH, (9, 0)))
        self.assertEqual(house.turn([0]), [0])
        house.hold(0)
        self.assertEqual(house.hall().rule(0), ("held", 5))

    def test_rule(self):
        house = House(BOTH, (9, 8))
        self.assertIsNone(house.rule(1, ("free", (0, 1))))
        self.assertEqual(house.hall(), Hall([BOTH.rule(0), ("free", (0, 1))]))
        self.assertEqual((house.standing(), house.held()), ((9, 8), []))
        house.rule(person=0, rule=("held", 3))
        self.assertEqual(house.beat(), (3, 0))
        self.assertEqual(house.held(), [])

    def test_a_rule_told_to_who_is_held(self):
        house = House(BOTH, (9, 8))
        house.hold(0)
        house.rule(0, ("kinds", 4, (0,)))
        self.assertEqual(house.hall().rule(0), ("held", 9))
        self.assertEqual(house.beat(), (9, 0))
        house.loose(0)
        self.assertEqual(house.hall().rule(0), ("kinds", 4, (0,)))
        self.assertEqual(house.beat(), (4, 0))

    def test_an_own_rule_of_the_word_held(self):
        house = House(THREE, (9, 9, 9))
        self.assertEqual(house.held(), [])
        with self.assertRaises(NotHeld):
            house.loose(0)
        house.hold(0)
        self.assertEqual((house.held(), house.hall().rule(0)), ([0], ("held", 9)))
        self.assertEqual(house.turn([0]), [])
        with self.assertRaises(Held):
            house.hold(0)
        house.loose(0)
        self.assertEqual((house.held(), house.hall()), ([], THREE))
        self.assertEqual(house.turn([0]), [0])
        self.assertEqual(house.standing()[0], 4)
        house.rule(1, ("held", 2))
        house.hold(1)
        self.assertEqual(house.held(), [1])


class RefusedTest(unittest.TestCase):
    def setUp(self):
        self.house = House(THREE, (9, 8, 7))
        self.house.hold(1)
        self.house.beat()

    def refused(self, kind, word, *things, field=None, **named):
        """Refused so, by the deed itself and amid a do; nothing changed."""
        house = self.house
        for whole in (None, True, False):
            before, logged, handed = told_by(house), house.log(), copy.deepcopy(things)
            twin = house.twin()
            with self.assertRaises(kind) as caught:
                if whole is None:
                    getattr(house, word)(*things, **named)
                else:
                    house.do([(word, *things, *named.values())], whole=whole)
            self.assertIs(type(caught.exception), kind)
            if field is not None:
                self.assertEqual(caught.exception.person, field)
            self.assertEqual(told_by(house), before)
            self.assertEqual(house, twin)
            self.assertEqual(house.log(), logged + ([] if whole is None else [("in", 1), ("out", 0)]))
            self.assertEqual(things, handed)

    def test_no_person(self):
        for person in FAR:
            self.refused(NoPerson, "turn", [person], field=person)
            self.refused(NoPerson, "show", person, 3, field=person)
            self.refused(NoPerson, "hold", person, field=person)
            self.refused(NoPerson, "loose", person, field=person)
            self.refused(NoPerson, "rule", person, ("held", 1), field=person)

    def test_the_first_of_several_persons(self):
        for persons, first in (([0, 3, -1], 3), ([0, -1, 3], -1), ([7, 5], 7), ((2, 1, 0, 9), 9), ([0, 0, -3, -3], -3)):
            self.refused(NoPerson, "turn", persons, field=first)

    def test_no_person_ahead_of_bad_rule(self):
        for thing in (None, (), ("held", -1), ("fly",)):
            self.refused(NoPerson, "rule", 3, thing, field=3)
            self.refused(NoPerson, "rule", -1, thing, field=-1)

    def test_held(self):
        self.refused(Held, "hold", 1, field=1)
        self.house.hold(2)
        self.refused(Held, "hold", 1, field=1)
        self.refused(Held, "hold", 2, field=2)
        self.house.show(2, 77)
        self.refused(Held, "hold", 2, field=2)

    def test_not_held(self):
        self.refused(NotHeld, "loose", 0, field=0)
        self.refused(NotHeld, "loose", 2, field=2)
        self.house.loose(1)
        self.refused(NotHeld, "loose", 1, field=1)

    def test_bad_rule(self):
        for thing in (*ODD, ("sum", 0, ((3, 1),)), ("sum", 0, ((-1, 1),)), ("sum", 0, ((0, 0),)), ("next", (2, 1)),
                      ("free", (0, 0)), ("next", [0]), ["held", 1], ("held", True), ("held", 1, 2), ("held",),
                      ("cap", 0, ()), ("kinds", 0, (3,)), ("hold", 1), ([], 1), ("sum", 0, [(0, 1)]),
                      ("sum", 0, ([0, 1],)), deep(list, 12), deep(tuple, 12), [0] * 3999):
            self.refused(BadRule, "rule", 0, thing)
            self.refused(BadRule, "rule", 1, thing)
        self.refused(BadRule, "rule", 0, rule=None)


class UndoTest(unittest.TestCase):
    def test_each_deed(self):
        deeds = [("turn", [0]), ("turn", []), ("beat", 0), ("beat", 2), ("rest",), ("rest",), ("show", 1, 5),
                 ("show", 1, 5), ("hold", 1), ("show", 1, 2), ("rule", 1, ("free", (0,))), ("turn", [0, 1]), ("hold", 2),
                 ("loose", 1), ("rule", 0, ("sum", 2, ((1, 1),))), ("rest",), ("loose", 2), ("rule", 2, ("held", 0))]
        house = House(THREE, (9, 8, 7))
        told, twins = [told_by(house)], [house.twin()]
        for deed in deeds:
            house.do([deed])
            told.append(told_by(house))
            twins.append(house.twin())
        self.assertEqual(house.deeds(), len(deeds))
        for one, twin in zip(told[-2::-1], twins[-2::-1]):
            self.assertIs(house.undo(), True)
            self.assertEqual(told_by(house), one)
            self.assertEqual(house, twin)

    def test_where_there_is_none(self):
        house = House(BOTH, (9, 8))
        self.assertIs(house.undo(), False)
        house.beat()
        self.assertIs(house.undo(), True)
        self.assertIs(house.undo(), False)
        self.assertIs(house.undo(), False)
        self.assertEqual((house.standing(), house.deeds(), house.turns()), ((9, 8), 0, 0))

    def test_of_a_deed_that_changed_nothing(self):
        house = House(BOTH, (5, 0))
        house.show(0, 6)
        for word, *things in (("turn", []), ("beat", 0), ("show", 0, 6), ("rule", 1, BOTH.rule(1))):
            getattr(house, word)(*things)
            self.assertEqual((house.standing(), house.deeds()), ((6, 0), 2))
            self.assertIs(house.undo(), True)
            self.assertEqual((house.standing(), house.deeds()), ((6, 0), 1))

    def test_a_refused_deed_is_none(self):
        house = House(BOTH, (9, 8))
        house.show(0, 3)
        self.assertRaises(NotHeld, house.loose, 0)
        self.assertRaises(NoPerson, house.show, 2, 0)
        self.assertEqual(house.deeds(), 1)
        house.undo()
        self.assertEqual(house.standing(), (9, 8))

    def test_turns_behind_an_undo(self):
        house = House(row_hall(4), (1, 2, 0, 1))
        house.beat()
        self.assertEqual(house.turns(), 2)
        house.rest()
        self.assertEqual(house.turns(), 4)
        house.undo()
        self.assertEqual(house.turns(), 2)
        house.show(0, 99)
        self.assertEqual(house.turns(), 2)
        house.turn([0])
        self.assertEqual(house.turns(), 3)
        house.undo()
        house.undo()
        house.undo()
        self.assertEqual(house.turns(), 0)

    def test_other_deeds_behind_an_undo(self):
        house = House(BOTH, (9, 8))
        house.turn([0])
        house.undo()
        house.turn([1])
        house.rest()
        self.assertEqual((house.standing(), house.turns(), house.deeds()), ((5, 0), 2, 2))

    def test_sixty_deeds(self):
        house = House(row_hall(12), tuple(range(12)))
        standings = [house.standing()]
        for number in range(60):
            house.show(number % 12, 1000 + number)
            standings.append(house.standing())
        self.assertEqual(house.deeds(), 60)
        while house.undo():
            standings.pop()
            self.assertEqual(house.standing(), standings[-1])
        self.assertEqual(len(standings), 1)


class DoTest(unittest.TestCase):
    def test_told(self):
        house = House(BOTH, (9, 8))
        told = house.do([("turn", [1]), ("beat", 2), ("rest",), ("show", 0, 9), ("hold", 1), ("rule", 1, ("held", 6)),
                         ("loose", 1), ("turn", (0, 1))])
        self.assertEqual(told, [[1], (5, 0), 0, None, None, None, None, [0, 1]])
        self.assertIs(type(told), list)
        self.assertEqual(house.standing(), (5, 6))
        self.assertEqual(house.deeds(), 8)
        self.assertEqual(house.log(), [("in", 8), ("out", 8)])

    def test_no_deeds(self):
        house = House(BOTH, (9, 8))
        for deeds, whole in (([], True), ((), True), ([], False)):
            self.assertEqual(house.do(deeds, whole=whole), [])
        self.assertEqual(house.deeds(), 0)
        self.assertEqual(house.log(), [("in", 0), ("out", 0)] * 3)

    def test_deeds_undone_one_by_one(self):
        house = House(BOTH, (9, 8))
        house.show(0, 10)
        house.do([("turn", [1]), ("beat", 0), ("rest",), ("turn", [])])
        standings = []
        while house.undo():
            standings.append((house.standing(), house.turns(), house.deeds()))
        self.assertEqual(standings, [((5, 0), 2, 4), ((10, 0), 1, 3), ((10, 0), 1, 2), ((10, 8), 0, 1), ((9, 8), 0, 0)])

    def test_one_refused_amid_whole(self):
        for named in ({}, {"whole": True}):
            house = House(BOTH, (9, 8))
            house.beat(0)
            before = told_by(house)
            with self.assertRaises(Held) as caught:
                house.do([("show", 0, 1), ("hold", 1), ("turn", [0]), ("hold", 1), ("rest",)], **named)
            self.assertEqual(caught.exception.person, 1)
            self.assertEqual(told_by(house), before)
            # How many went ahead, though they are taken back.
            self.assertEqual(house.log(), [("in", 5), ("out", 3)])
            house.undo()
            self.assertEqual(house.deeds(), 0)

    def test_one_refused_amid_not_whole(self):
        house = House(BOTH, (9, 8))
        with self.assertRaises(NoPerson) as caught:
            house.do([("turn", [1]), ("hold", 0), ("beat", 0), ("turn", [0, 2, 3]), ("show", 0, 1)], whole=False)
        self.assertEqual(caught.exception.person, 2)
        self.assertEqual((house.standing(), house.held(), house.deeds(), house.turns()), ((9, 0), [0], 3, 1))
        self.assertEqual(house.log(), [("in", 5), ("out", 3)])
        house.undo()
        house.undo()
        self.assertEqual((house.held(), house.standing()), ([], (9, 0)))

    def test_each_refusal_and_where(self):
        refused = [(NoPerson, ("turn", [5])), (NoPerson, ("show", -1, 2)), (NoPerson, ("hold", 9)), (Held, ("hold", 2)),
                   (NotHeld, ("loose", 1)), (BadRule, ("rule", 0, None)), (BadRule, ("rule", 0, ["held", 1])),
                   (NoPerson, ("rule", 5, None))]
        ahead = [("hold", 2), ("show", 1, 1), ("rest",), ("beat", 0)]
        for kind, deed in refused:
            for at in range(1, 5):
                for whole in (True, False):
                    house = House(THREE, (9, 8, 7))
                    self.assertRaises(kind, house.do, ahead[:at] + [deed] + ahead[at:], whole=whole)
                    other = House(THREE, (9, 8, 7))
                    other.do([] if whole else ahead[:at])
                    self.assertEqual(told_by(house), told_by(other))
                    self.assertEqual(house.log(), [("in", 5), ("out", at)])

    def test_the_first_refusal_goes(self):
        for whole in (True, False):
            house = House(THREE, (9, 8, 7))
            self.assertRaises(NotHeld, house.do, [("rest",), ("loose", 1), ("hold", 9)], whole=whole)
            self.assertRaises(NoPerson, house.do, [("rest",), ("hold", 9), ("loose", 1)], whole=whole)

    def test_refused_only_by_a_deed_ahead(self):
        house = House(BOTH, (9, 8))
        house.hold(0)
        self.assertEqual(house.do([("loose", 0), ("hold", 0), ("loose", 0)]), [None] * 3)
        self.assertRaises(NotHeld, house.do, [("hold", 0), ("loose", 0), ("loose", 0)])
        self.assertEqual((house.held(), house.deeds()), ([], 4))

    def test_bad_deed(self):
        good = [("rest",), ("show", 0, 1), ("beat", 0)]
        for thing in NO_DEEDS:
            for at in range(4):
                for whole in (True, False):
                    house = House(BOTH, (9, 8))
                    house.beat(0)
                    before = told_by(house)
                    with self.assertRaises(BadDeed) as caught:
                        house.do(good[:at] + [thing] + good[at:], whole=whole)
                    self.assertEqual(caught.exception.number, at, thing)
                    self.assertEqual((told_by(house), house.log()), (before, []))

    def test_bad_deed_ahead_of_all(self):
        for deed in (("hold", 9), ("loose", 0), ("rule", 0, None), ("turn", [-1])):
            for whole in (True, False):
                house = House(BOTH, (9, 8))
                with self.assertRaises(BadDeed) as caught:
                    house.do([("show", 0, 1), deed, ("beat",), ("fly",)], whole=whole)
                self.assertEqual(caught.exception.number, 2)
                self.assertEqual((house.standing(), house.deeds(), house.log()), ((9, 8), 0, []))

    def test_tuples_names_and_what_is_handed_in_stays(self):
        house = House(hall=BOTH, standing=(9, 8))
        deeds = [("turn", [1, 0]), ("rule", 0, ("free", (1,))), ("show", 1, 4)]
        before = copy.deepcopy(deeds)
        told = house.do(deeds=deeds, whole=False)
        self.assertEqual(deeds, before)
        deeds[0][1].append(7)
        deeds.clear()
        told[0].append(7)
        told.clear()
        self.assertEqual((house.standing(), house.deeds(), house.log()), ((5, 4), 3, [("in", 3), ("out", 3)]))
        self.assertEqual(House(BOTH, (9, 8)).do((("turn", (1, 0)),)), [[0, 1]])
        self.assertRaises(TypeError, house.do, [], True)


class LogTest(unittest.TestCase):
    def test_each_case(self):
        house = House(BOTH, (9, 8))
        self.assertEqual(house.log(), [])
        house.beat()
        house.do([("rest",), ("hold", 0)])
        self.assertRaises(Held, house.do, [("rest",), ("hold", 1), ("hold", 0)])
        self.assertRaises(Held, house.do, [("hold", 0)], whole=False)
        self.assertRaises(BadDeed, house.do, [("rest",), ("beat",)])
        house.do([])
        while house.undo():
            pass
        self.assertRaises(NotHeld, house.loose, 0)
        wanted = [("in", 2), ("out", 2), ("in", 3), ("out", 2), ("in", 1), ("out", 0), ("in", 0), ("out", 0)]
        self.assertEqual(house.log(), wanted)
        self.assertTrue(all(type(one) is tuple for one in house.log()))

    def test_is_no_matter_of_equality(self):
        one, other = House(BOTH, (9, 8)), House(BOTH, (9, 8))
        one.do([])
        self.assertEqual(one, other)


class AskedTest(unittest.TestCase):
    def test_kinds(self):
        house = House(THREE, (9, 8, 7))
        house.hold(2)
        self.assertIs(type(house.hall()), Hall)
        self.assertIs(type(house.standing()), tuple)
        self.assertIs(type(house.beat()), tuple)
        for told in (house.held(), house.firm(), house.log(), house.turn([0])):
            self.assertIs(type(told), list)
        for told in (house.turns(), house.deeds(), house.rest(), len(house)):
            self.assertIs(type(told), int)
        self.assertEqual(len(house), 3)
        self.assertEqual(len(House(row_hall(60), (0,) * 60)), 60)

    def test_firm_and_line(self):
        house = House(THREE, (4, 9, 9))
        self.assertEqual((house.firm(), house.line()), (firm_of(THREE, (4, 9, 9)), waterline(THREE, (4, 9, 9))))
        for _, hall, standing in some_halls(1601, 60):
            house = House(hall, standing)
            self.assertEqual((house.firm(), house.line()), (firm_of(hall, standing), waterline(hall, standing)))
            house.hold(0)
            house.rest()
            self.assertEqual((house.firm(), house.line()), (list(range(len(hall))), None))

    def test_with_who_is_held(self):
        # By its own rule 1 would be told 1; held, it's as firm as 0 below the line.
        house = House(Hall([("held", 4), ("sum", 1, ((0, 2), (2, 3))), ("held", 9)]), (4, 2, 8))
        self.assertEqual((house.line(), house.firm()), (1, []))
        house.hold(1)
        self.assertEqual((house.line(), house.firm()), (8, [0, 1]))

    def test_told_lists_are_the_askers_own(self):
        house = House(THREE, (4, 9, 9))
        house.do([("hold", 2), ("turn", [0, 1])])
        before = told_by(house), house.log()
        for told in (house.held(), house.firm(), house.log(), house.turn([])):
            told.append(99)
            told.clear()
        house.undo()
        self.assertEqual((told_by(house), house.log()), before)
        lists = [house.held(), house.held(), house.log(), house.log(), house.firm(), house.firm()]
        self.assertEqual(len({id(one) for one in lists}), 6)

    def test_persons_handed_in_stay(self):
        house = House(BOTH, (9, 8))
        persons = [1, 0, 1]
        told = house.turn(persons)
        self.assertEqual(persons, [1, 0, 1])
        persons.append(5)
        told.append(5)
        self.assertEqual((house.standing(), house.undo(), house.standing()), ((5, 0), True, (9, 8)))

    def test_asking_changes_nothing(self):
        house = House(THREE, (4, 9, 9))
        house.do([("hold", 2), ("beat", 1)])
        for _ in range(3):
            self.assertEqual(told_by(house), told_by(house))
            self.assertEqual(house.deeds(), 2)

    def test_hall_handed_in_stays(self):
        rules = [("held", 4), ("sum", 1, ((0, 2),))]
        hall = Hall(rules)
        house, other = House(hall, (1, 2)), House(hall, (1, 2))
        house.do([("hold", 0), ("rule", 1, ("held", 0)), ("rest",)])
        self.assertEqual(hall, Hall(rules))
        self.assertEqual(told_by(other), told_by(House(Hall(rules), (1, 2))))


class TwinTest(unittest.TestCase):
    def test_the_same_its_log_empty(self):
        house = House(THREE, (9, 8, 7))
        house.do([("hold", 1), ("show", 1, 3), ("rest",), ("rule", 1, ("free", ()))])
        twin = house.twin()
        self.assertIs(type(twin), House)
        self.assertEqual(twin, house)
        self.assertEqual(told_by(twin), told_by(house))
        self.assertEqual((twin.log(), house.log()), ([], [("in", 4), ("out", 4)]))

    def test_amid_deeds_undone_on_either_side(self):
        for first in (0, 1):
            house = House(THREE, (9, 8, 7))
            house.do([("hold", 1), ("beat", 1), ("show", 0, 50)])
            twin = house.twin()
            one, other = (house, twin) if first == 0 else (twin, house)
            before = told_by(other)
            one.loose(1)
            one.rule(1, ("held", 77))
            one.rest()
            one.do([("show", 2, 1)])
            while one.undo():
                pass
            self.assertEqual(told_by(one), told_by(House(THREE, (9, 8, 7))))
            self.assertEqual(told_by(other), before)
            steps = []
            while other.undo():
                steps.append((other.standing(), other.held()))
            self.assertEqual(steps, [((4, 8, 0), [1]), ((9, 8, 7), [1]), ((9, 8, 7), [])])

    def test_logs_apart(self):
        house = House(BOTH, (9, 8))
        house.do([("rest",)])
        twin = house.twin()
        twin.do([])
        house.do([("beat", 1), ("beat", 1)])
        self.assertEqual(twin.log(), [("in", 0), ("out", 0)])
        self.assertEqual(house.log(), [("in", 1), ("out", 1), ("in", 2), ("out", 2)])
        self.assertEqual(twin.twin().log(), [])


class EqualTest(unittest.TestCase):
    def house(self, *deeds, hall=BOTH, standing=(9, 8)):
        house = House(hall, standing)
        house.do(list(deeds))
        return house

    def test_equal(self):
        self.assertTrue(self.house() == self.house())
        self.assertFalse(self.house() != self.house())
        self.assertEqual(self.house(("beat", 1)), House(BOTH, (5, 0)))
        self.assertEqual(self.house(("hold", 0), ("hold", 1)), self.house(("hold", 1), ("hold", 0)))
        self.assertEqual(self.house(("hold", 0), ("loose", 0)), self.house())
        self.assertEqual(self.house(("rule", 0, ("held", 1))), House(Hall([("held", 1), BOTH.rule(1)]), (9, 8)))

    def test_unlike(self):
        self.assertNotEqual(self.house(), self.house(standing=(9, 7)))
        self.assertNotEqual(self.house(), self.house(("rule", 0, ("held", 9))))
        self.assertNotEqual(House(row_hall(1), (0,)), House(row_hall(2), (0, 0)))

    def test_but_for_who_is_held(self):
        self.assertNotEqual(self.house(), self.house(("hold", 0)))
        self.assertNotEqual(self.house(("hold", 1)), self.house(("hold", 0)))
        # The halls told are the same: an own rule of the word held, at what it is held at.
        held = Hall([("held", 9), BOTH.rule(1)])
        one, other = self.house(hall=held), self.house(("hold", 0), hall=held)
        self.assertEqual(one.hall(), other.hall())
        self.assertNotEqual(one, other)

    def test_but_for_at_what(self):
        one = self.house(("hold", 0))
        other = self.house(("show", 0, 5), ("hold", 0), ("show", 0, 9))
        self.assertEqual((one.standing(), one.held()), (other.standing(), other.held()))
        self.assertNotEqual(one, other)

    def test_but_for_an_own_rule_behind_a_hold(self):
        one = self.house(("hold", 0))
        other = self.house(("hold", 0), ("rule", 0, ("free", ())))
        self.assertEqual((one.hall(), one.standing(), one.held()), (other.hall(), other.standing(), other.held()))
        self.assertNotEqual(one, other)
        other.rule(0, BOTH.rule(0))
        self.assertEqual(one, other)

    def test_to_nothing_else(self):
        for thing in (None, 0, (), BOTH, (9, 8), "house", [BOTH, (9, 8)]):
            self.assertFalse(self.house() == thing)
            self.assertTrue(self.house() != thing)


class AnewTest(unittest.TestCase):
    """(h) of [1]: behind any deeds, a house tells what one made anew of those that stand tells."""

    def some_deed(self, chance, many, rule):
        person = chance.randrange(many) if chance.random() < 0.9 else chance.choice((-1, many, many + 3))
        return chance.choice((
            ("turn", [chance.randrange(many) for _ in range(chance.randint(0, 3))]), ("turn", [person]),
            ("beat", chance.randint(0, 3)), ("rest",), ("show", person, chance.randint(0, 9)), ("hold", person),
            ("hold", person), ("loose", person), ("loose", person), ("rule", person, rule(chance, many)),
            ("rule", person, chance.choice(ODD))))

    def same(self, house, naive):
        rules, pins, shown, changes, _ = naive.made_anew()
        anew = House(Hall(naive.first[0]), naive.first[1])
        for deed in naive.stand:
            getattr(anew, deed[0])(*deed[1:])
        self.assertEqual(told_by(house), told_by(anew))
        self.assertEqual(house, anew)
        self.assertEqual(house.hall(), naive.hall())
        self.assertEqual((house.held(), house.standing(), house.turns()), (sorted(pins), shown, changes))
        self.assertEqual((house.deeds(), house.log()), (len(naive.stand), naive.logged))
        self.assertEqual((house.firm(), house.line()), (firm_of(naive.hall(), shown), waterline(naive.hall(), shown)))

    def caught(self, call, *things, **named):
        try:
            return call(*things, **named), None
        except (NoPerson, Held, NotHeld, BadRule) as refusal:
            return None, refusal

    def both(self, told, wanted):
        self.assertEqual(told[0], wanted[0])
        self.assertIs(type(told[1]), type(wanted[1]))
        self.assertEqual(getattr(told[1], "person", None), getattr(wanted[1], "person", None))

    def driven(self, chance, hall, standing, rule):
        house, naive = House(hall, standing), NaiveHouse(hall, standing)
        for _ in range(14):
            choice = chance.random()
            if choice < 0.2:
                self.assertIs(house.undo(), naive.undo())
            elif choice < 0.5:
                deeds = [self.some_deed(chance, len(hall), rule) for _ in range(chance.randint(0, 4))]
                whole = chance.random() < 0.5
                self.both(self.caught(house.do, deeds, whole=whole), naive.do(deeds, whole))
            elif choice < 0.6:
                # A twin that goes on by itself leaves no trace; or it takes the other's place.
                twin = house.twin()
                self.caught(twin.do, [self.some_deed(chance, len(hall), rule) for _ in range(3)], whole=False)
                twin.undo()
            elif choice < 0.65:
                house, naive.logged = house.twin(), []
            else:
                deed = self.some_deed(chance, len(hall), rule)
                self.both(self.caught(getattr(house, deed[0]), *deed[1:]), naive.deed(deed))
            self.same(house, naive)

    def test_small(self):
        for chance, hall, standing in small_halls(1611, 120, 4):
            self.driven(chance, hall, standing, small_rule)

    def test_halls_of_all_sorts(self):
        for chance, hall, standing in some_halls(1612, 40):
            self.driven(chance, hall, standing, some_rule)

    def test_halls_that_were_told(self):
        house = House(row_hall(60), tuple(range(60, 0, -1)))
        house.do([("hold", 59), ("turn", list(range(60))), ("rest",), ("loose", 59), ("rest",)])
        anew = House(house.hall(), house.standing())
        self.assertEqual((anew.standing(), anew.line()), (house.standing(), None))
        while house.undo():
            pass
        self.assertEqual(house.standing(), tuple(range(60, 0, -1)))


if __name__ == "__main__":
    unittest.main()
