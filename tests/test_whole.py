"""[1]: what is promised over the whole program, asked of houses in which persons are held, loosed and told rules."""

import itertools
import unittest

from lesserhall.alike import lesser, lists_of, told_small, told_wide
from lesserhall.beats import rest_by_beats
from lesserhall.desk import answers
from lesserhall.errors import TooMany
from lesserhall.firm import is_line
from lesserhall.house import House
from lesserhall.levels import is_sound, plain_rest, rests_of, tower_of
from lesserhall.lines import all_hall, line_hall
from lesserhall.orders import rest_by, rest_by_lots
from lesserhall.over import beside, called, held_at, scaled
from lesserhall.rows import row_falls, row_hall, row_number, row_rest, row_swept
from lesserhall.sweeps import rests_on, swept
from lesserhall.texts import hall_in, hall_text
from lesserhall.turns import is_rest
from lesserhall.waycheck import shows_never
from lesserhall.ways import come_to, least_turns, rests_come_to
from lesserhall.webs import late_of, round_in, seen_first
from tests.helper import naive_is_rest, small_halls, small_rule, some_halls, some_webs


def lived_in(chance, hall, standing, rule=small_rule):
    """A house of them in which some were held, shown, told rules."""
    house = House(hall, standing)
    for _ in range(chance.randint(0, 4)):
        person = chance.randrange(len(hall))
        deed = chance.choice((("show", person, chance.randint(0, 9)), ("turn", [person]), ("hold", person),
                              ("rule", person, rule(chance, len(hall)))))
        if deed[0] != "hold" or person not in house.held():
            house.do([deed])
    return house


class AllComeToRestTest(unittest.TestCase):
    """(a)"""

    def test_whatever_order(self):
        for chance, hall, standing in itertools.chain(small_halls(1901, 80, 6), some_halls(1902, 40)):
            house = lived_in(chance, hall, standing)
            hall, standing, many = house.hall(), house.standing(), len(hall)
            order = chance.sample(range(many), many) + [chance.randrange(many) for _ in range(3)]
            lots = [chance.sample(range(many), chance.randint(0, many)) for _ in range(3)] + [order]
            for rest in (rest_by_beats(hall, standing)[0], rest_by(hall, standing, order)[0],
                         rest_by_lots(hall, standing, lots)[0]):
                self.assertTrue(naive_is_rest(hall, rest))
            house.rest()
            self.assertTrue(naive_is_rest(hall, house.standing()))
            self.assertEqual((house.line(), house.firm(), house.rest()), (None, list(range(many)), 0))

    def test_a_house_by_turns(self):
        for chance, hall, standing in small_halls(1903, 60, 5):
            house = lived_in(chance, hall, standing)
            had = 0
            while house.line() is not None:
                order = chance.sample(range(len(hall)), len(hall))
                while order:
                    at = chance.randint(1, len(order))
                    house.turn(order[:at])
                    order = order[at:]
                had += 1
                self.assertLess(had, 200)
            self.assertTrue(naive_is_rest(house.hall(), house.standing()))


class RestsTest(unittest.TestCase):
    """(b)"""

    def test_told_from_below(self):
        for chance, hall, standing in small_halls(1911, 80, 5):
            house = lived_in(chance, hall, standing)
            hall = house.hall()
            self.assertTrue(naive_is_rest(hall, plain_rest(hall)))
            house.rest()
            rests = rests_of(hall)
            self.assertIn(house.standing(), rests)
            self.assertIn(plain_rest(hall), rests)
            self.assertEqual(rests, sorted(set(rests)))
            for rest in rests:
                self.assertTrue(is_sound(hall, tower_of(rest)))


class FirmTest(unittest.TestCase):
    """(c)"""

    def test_the_waterline_never_falls(self):
        for chance, hall, standing in small_halls(1921, 120, 5):
            house = lived_in(chance, hall, standing)
            line, firm, shown = house.line(), house.firm(), house.standing()
            for _ in range(8):
                if line is None:
                    break
                person = chance.randrange(len(hall))
                if person not in firm and chance.random() < 0.4:
                    house.show(person, line + chance.randint(0, 5))
                else:
                    house.turn(chance.sample(range(len(hall)), chance.randint(1, len(hall))))
                self.assertEqual([house.standing()[one] for one in firm], [shown[one] for one in firm])
                self.assertTrue(is_line(house.hall(), house.standing(), line))
                self.assertTrue(house.line() is None or house.line() >= line)
                line, firm, shown = house.line(), house.firm(), house.standing()


class NoRoundsTest(unittest.TestCase):
    """(d)"""

    def test_by_told_beats_and_swept(self):
        for _, hall, standing in some_webs(1931, 80, 7):
            house = House(hall, standing)
            self.assertIsNone(round_in(house.hall()))
            late = late_of(hall)
            rest = house.twin()
            rest.rest()
            for beat in range(1, max(late) + 1):
                house.beat()
                for person, by in enumerate(late):
                    if beat >= by:
                        self.assertEqual(house.standing()[person], rest.standing()[person])
            self.assertTrue(is_rest(hall, house.standing()))
            self.assertTrue(is_rest(hall, swept(hall, standing)))
            try:
                self.assertIn(swept(hall, standing), rests_on(hall))
            except TooMany:
                pass

    def test_swept_by_turns_of_its_own(self):
        for _, hall, standing in some_webs(1932, 60, 5):
            house = House(hall, standing)
            for person in seen_first(hall):
                while house.turn([person]):
                    pass
            self.assertEqual(house.standing(), swept(hall, standing))


class RowsTest(unittest.TestCase):
    """(e)"""

    def test_within_beats(self):
        for chance, _, _ in small_halls(1941, 60, 1):
            many = chance.randint(1, 12)
            standing = tuple(chance.randint(0, chance.choice((3, many, 10 ** 6))) for _ in range(many))
            house = House(row_hall(many), standing)
            beats = house.rest()
            self.assertLessEqual(beats, max(1, many - 1))
            self.assertEqual(len(row_falls(standing)), beats)
            self.assertTrue(all(fall == 0 for fall in row_falls(standing)[1:]))
            self.assertEqual(row_rest(many, row_number(house.standing())), house.standing())
            self.assertEqual(row_swept(standing), swept(row_hall(many), standing))


class WaysTest(unittest.TestCase):
    """(f)"""

    def test_what_turns_come_to(self):
        for chance, hall, standing in small_halls(1951, 60, 4):
            house = lived_in(chance, hall, standing)
            hall, standing = house.hall(), house.standing()
            ways = come_to(hall, standing)
            other = chance.choice(ways)
            turns = least_turns(hall, standing, other)
            for person in turns:
                self.assertEqual(house.turn([person]), [person])
            self.assertEqual((house.standing(), house.deeds() >= len(turns)), (other, True))
            house.rest()
            for person, number in itertools.product(range(len(hall)), range(4)):
                shown = any(one[person] == number for one in ways)
                self.assertIs(shows_never(hall, standing, person, number, ways), not shown)
            self.assertTrue(all(is_rest(hall, one) for one in rests_come_to(hall, standing)))


class LedOverTest(unittest.TestCase):
    """(g)"""

    def test_alike(self):
        for many in (2, 5, 12):
            for hall in (all_hall(many), line_hall(many, ring=True)):
                standing = tuple(person % 2 for person in range(many))
                lists = lists_of(hall, standing)
                wide, small = House(hall, standing), House(lesser(hall, lists), told_small(standing, lists))
                self.assertEqual(wide.rest(), small.rest())
                self.assertEqual(wide.standing(), told_wide(small.standing(), lists))

    def test_called_and_beside(self):
        for chance, hall, standing in small_halls(1961, 60, 4):
            order = chance.sample(range(len(hall)), len(hall))
            one, other = House(hall, standing), House(called(hall, order), tuple(standing[person] for person in order))
            both = House(beside(hall, hall), standing + standing)
            for _ in range(4):
                persons = chance.sample(range(len(hall)), chance.randint(0, len(hall)))
                changed = one.turn(persons)
                self.assertEqual(other.turn([order.index(person) for person in persons]),
                                 sorted(order.index(person) for person in changed))
                self.assertEqual(both.turn(persons + [len(hall) + person for person in persons]),
                                 changed + [len(hall) + person for person in changed])
                self.assertEqual(other.standing(), tuple(one.standing()[person] for person in order))
                self.assertEqual(both.standing(), one.standing() * 2)
            self.assertEqual((other.turns(), both.turns()), (one.turns(), 2 * one.turns()))

    def test_scaled(self):
        for chance, hall, standing in small_halls(1962, 120, 4):
            if any(rule[0] in ("kinds", "next", "free") for rule in hall.rules()):
                continue
            one, other = House(hall, standing), House(scaled(hall, 7), tuple(7 * shown for shown in standing))
            person = chance.randrange(len(hall))
            for house in (one, other):
                house.hold(person)
            self.assertEqual(one.rest(), other.rest())
            self.assertEqual(other.standing(), tuple(7 * shown for shown in one.standing()))
            self.assertEqual((one.turns(), one.firm()), (other.turns(), other.firm()))

    def test_who_never_changes_may_as_well_be_held(self):
        for _, hall, standing in small_halls(1963, 80, 4):
            for person in range(len(hall)):
                if len({one[person] for one in come_to(hall, standing)}) == 1:
                    one, other = House(hall, standing), House(hall, standing)
                    other.hold(person)
                    self.assertEqual(other.hall(), held_at(hall, person, standing[person]))
                    self.assertEqual((one.rest(), one.standing(), one.turns()),
                                     (other.rest(), other.standing(), other.turns()))


class TextsTest(unittest.TestCase):
    def test_a_house_told_by_its_text_goes_on_alike(self):
        for chance, hall, standing in small_halls(1971, 60, 4):
            house = lived_in(chance, hall, standing)
            other = House(hall_in(hall_text(house.hall())), house.standing())
            told = answers("\n".join([hall_text(house.hall()), "standing " + " ".join(map(str, house.standing())),
                                      "rest", "standing"]))
            beats = house.rest()
            self.assertEqual((other.rest(), other.standing()), (beats, house.standing()))
            self.assertEqual(told, [str(beats), " ".join(map(str, house.standing()))])


if __name__ == "__main__":
    unittest.main()
