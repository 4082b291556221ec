"""Water: joining, a part of v millilitres, what stays, bags."""

from tests.helper import PlantCase
from watertaps.water import (
    Water, all_of, bag_of, empty_water, joined, millilitres_of, part_of, part_up_to, rest_of, whole_water,
)


class Joining(PlantCase):
    def test_adds_each_batch_and_each_amount(self):
        both = joined(Water([1, 2, 3], [1, 2, 3, 4]), Water([10, 20, 30], [100, 200, 300, 400]))
        self.assert_water(both, [3, 1, 11, 2, 22, 3, 33], [101, 202, 303, 404])

    def test_batches_that_only_one_has(self):
        short = Water([1], [0, 0, 0, 1])
        long = Water([0, 5, 6], [2, 0, 0, 0])
        self.assert_water(joined(short, long), [3, 1, 1, 2, 5, 3, 6], [2, 0, 0, 1])
        self.assert_water(joined(long, short), [3, 1, 1, 2, 5, 3, 6], [2, 0, 0, 1])

    def test_with_empty_water(self):
        water = Water([0, 4], [1, 2, 3, 4])
        self.assert_water(joined(water, empty_water()), [1, 2, 4], [1, 2, 3, 4])
        self.assert_water(joined(empty_water(), water), [1, 2, 4], [1, 2, 3, 4])

    def test_changes_neither(self):
        one = Water([1, 2], [1, 2, 3, 4])
        other = Water([3, 4], [5, 6, 7, 8])
        joined(one, other)
        self.assert_water(one, [2, 1, 1, 2, 2], [1, 2, 3, 4])
        self.assert_water(other, [2, 1, 3, 2, 4], [5, 6, 7, 8])


class Part(PlantCase):
    def test_one_millilitre_is_missing(self):
        # 2.1, 3.5 and 1.4 round down to 6 of 7, so the first batch gives one more.
        water = Water([3, 5, 2], [10, 0, 33, 9])
        part = part_of(water, 7)
        self.assert_water(part, [3, 1, 3, 2, 3, 3, 1], [7, 0, 23, 6])
        self.assert_water(rest_of(water, part), [2, 2, 2, 3, 1], [3, 0, 10, 3])

    def test_several_are_missing(self):
        water = Water([1, 1, 1, 1, 1], [4, 5, 6, 7])
        part = part_of(water, 3)
        self.assert_water(part, [3, 1, 1, 2, 1, 3, 1], [2, 3, 3, 4])
        self.assert_water(rest_of(water, part), [2, 4, 1, 5, 1], [2, 2, 3, 3])

    def test_as_many_are_missing_as_batches_less_one(self):
        self.assert_water(part_of(Water([7, 7, 7, 7], [0, 0, 0, 0]), 27), [4, 1, 7, 2, 7, 3, 7, 4, 6], [0, 0, 0, 0])

    def test_batches_that_the_water_does_not_have_give_nothing(self):
        water = Water([0, 1, 0, 1, 1], [0, 0, 0, 0])
        self.assert_water(part_of(water, 2), [2, 2, 1, 4, 1], [0, 0, 0, 0])

    def test_none_missing(self):
        part = part_of(Water([10, 20], [3, 6, 9, 12]), 15)
        self.assert_water(part, [2, 1, 5, 2, 10], [1, 3, 4, 6])

    def test_all_of_it_takes_everything(self):
        water = Water([3, 0, 5], [1, 2, 3, 4])
        part = part_of(water, 8)
        self.assert_water(part, [2, 1, 3, 3, 5], [1, 2, 3, 4])
        self.assert_water(rest_of(water, part), [0], [0, 0, 0, 0])

    def test_no_millilitre(self):
        water = Water([3, 5], [1, 2, 3, 4])
        part = part_of(water, 0)
        self.assert_water(part, [0], [0, 0, 0, 0])
        self.assert_water(rest_of(water, part), [2, 1, 3, 2, 5], [1, 2, 3, 4])

    def test_of_no_volume_is_empty_and_the_amounts_stay(self):
        water = Water([0, 0], [1, 2, 3, 4])
        part = part_of(water, 0)
        self.assert_water(part, [0], [0, 0, 0, 0])
        self.assert_water(rest_of(water, part), [0], [1, 2, 3, 4])

    def test_great_numbers_stay_whole(self):
        # 999999999 * 333333333 / 1000000000 is 333333332.666666667; a float would not tell.
        part = part_of(Water([999999999, 1], [999999999999999, 0, 0, 0]), 333333333)
        self.assert_water(part, [1, 1, 333333333], [333333332999999, 0, 0, 0])

    def test_every_part_of_some_waters_has_its_volume_and_fits(self):
        for millilitres in ([5], [1, 2, 3], [4, 0, 4, 1], [9, 9, 9, 9, 9], [1, 50, 1, 7]):
            water = Water(millilitres, [13, 0, 1, 100])
            for volume in range(water.volume + 1):
                part = part_of(water, volume)
                stays = rest_of(water, part)
                self.assertEqual(part.volume, volume)
                for own, given in zip(millilitres, part.millilitres):
                    self.assertIn(given - own * volume // water.volume, (0, 1))
                    self.assertLessEqual(given, own)
                self.assertEqual(bag_of(joined(part, stays)), bag_of(water))
                self.assertEqual(joined(part, stays).amounts, water.amounts)


class Bag(PlantCase):
    def test_smaller_batch_first_none_with_0(self):
        self.assertEqual(bag_of(Water([0, 7, 0, 2, 0], [0, 0, 0, 0])), [2, 2, 7, 4, 2])

    def test_empty(self):
        self.assertEqual(bag_of(empty_water()), [0])


class UpTo(PlantCase):
    def test_less_than_there_is(self):
        self.assert_water(part_up_to(Water([3, 5, 2], [10, 0, 33, 9]), 7), [3, 1, 3, 2, 3, 3, 1], [7, 0, 23, 6])

    def test_just_as_much_and_more(self):
        for volume in (10, 11, 10 ** 12):
            part = part_up_to(Water([3, 5, 2], [10, 0, 33, 9]), volume)
            self.assert_water(part, [3, 1, 3, 2, 5, 3, 2], [10, 0, 33, 9])

    def test_of_nothing(self):
        self.assert_water(part_up_to(empty_water(), 5), [0], [0, 0, 0, 0])


class AllOf(PlantCase):
    def test_several(self):
        waters = [Water([1, 2], [1, 2, 3, 4]), empty_water(), Water([0, 0, 5], [10, 20, 30, 40]), Water([6], [0] * 4)]
        self.assert_water(all_of(waters), [3, 1, 7, 2, 2, 3, 5], [11, 22, 33, 44])
        self.assert_water(waters[0], [2, 1, 1, 2, 2], [1, 2, 3, 4])

    def test_none(self):
        self.assert_water(all_of([]), [0], [0, 0, 0, 0])


class Told(PlantCase):
    def test_whole_water(self):
        self.assertEqual(whole_water(Water([0, 7, 0, 2, 0], [1, 2, 3, 4])), [9, 1, 2, 3, 4, 2, 2, 7, 4, 2])
        self.assertEqual(whole_water(empty_water()), [0, 0, 0, 0, 0, 0])

    def test_the_millilitres_of_one_batch(self):
        held = Water([0, 7, 2], [0, 0, 0, 0])
        self.assertEqual([millilitres_of(held, number) for number in (1, 2, 3, 4, 64)], [0, 7, 2, 0, 0])
