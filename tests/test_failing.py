"""Points 31 to 33 and 35: ears that fail, states, moves, sure numbers."""

import itertools
import unittest

from skypasses.best import best_worth
from skypasses.failing import (
    first_states, gain_of, moves_of, states_behind, sure_rule, sure_table, sure_worth, without_ears,
)

from tests.helpers import (
    chance_sky, every_failing, keeps, large_sky, make_sky, naive_may, naive_state, small_worths, without,
)

SKY = ([(0, 0, 2, 0, 4), (1, 5, 1, 0, 4)], [5, 7], [(3, 5, 1)], 6, 20)
FIRST = (0, -1, 0, (), ())


def naive_fates(sky, failing, since, until, most):
    """The failings that this one can have become when the ears are known that begin behind `since` up to `until`."""
    names = [name for name, ear in enumerate(sky[2]) if since < ear[0] <= until]
    parts = [part for k in range(len(names) + 1) for part in itertools.combinations(names, k)]
    return [failing + part for part in parts if len(failing + part) <= most]


class Game:
    """Tells every course of looks taken and ears failed, and what is sure in each, without any states."""

    def __init__(self, sky, most):
        self.sky = sky
        self.most = most
        self.told = {}
        self.firsts = []
        if sky[0]:
            fates = naive_fates(sky, (), -1, sky[0][0][1], most)
            self.firsts = [(naive_state(sky, 0, [], failing), self.sure(0, [], failing)) for failing in fates]
        self.worth = min((number for _, number in self.firsts), default=0)

    def after(self, look, taken, failing):
        """What is sure behind the look, in the worst way in which ears fail."""
        if look + 1 == len(self.sky[0]):
            return [], 0
        starts = [self.sky[0][name][1] for name in (look, look + 1)]
        fates = naive_fates(self.sky, failing, *starts, self.most)
        states = sorted(naive_state(self.sky, look + 1, taken, fate) for fate in fates)
        return states, min(self.sure(look + 1, taken, fate) for fate in fates)

    def sure(self, look, taken, failing):
        moves = {"leave": self.after(look, taken, failing)}
        worth = self.sky[1][self.sky[0][look][0]]
        if naive_may(self.sky, look, taken, failing):
            states, least = self.after(look, taken + [look], failing)
            moves["take"] = (states, worth + least)
        number = max(least for _, least in moves.values())
        state = naive_state(self.sky, look, taken, failing)
        told = (number, moves)
        # Whatever led to a state: what follows hangs on the state alone.
        assert self.told.setdefault(state, told) == told
        return number


def games(seeds):
    for seed in seeds:
        sky = chance_sky(seed)
        if seed % 2:
            sky = small_worths(sky, seed)
        sky = (sky[0][:6], *sky[1:])
        for most in {0, 1, len(sky[2]), 4}:
            yield sky, most, Game(sky, most)


class Examples(unittest.TestCase):
    def test_examples_of_the_document(self):
        self.assertEqual(first_states(SKY, most=1), [FIRST])
        self.assertEqual(states_behind(SKY, FIRST, "take", most=1), [(1, 0, 2, (0,), ()), (1, 0, 4, (0,), (0,))])
        self.assertEqual((sure_worth(SKY, most=0), sure_worth(SKY, most=1)), (12, 7))

    def test_the_whole_table_of_the_example(self):
        self.assertEqual(
            sure_table(SKY, most=1),
            [
                (FIRST, 7),
                ((1, -1, 0, (), ()), 7),
                ((1, -1, 0, (), (0,)), 7),
                ((1, 0, 2, (0,), ()), 7),
                ((1, 0, 4, (0,), (0,)), 0),
            ],
        )
        self.assertEqual([move for _, move in sure_rule(SKY, most=1)], ["leave", "take", "take", "take", "leave"])
        self.assertEqual(
            sure_table(SKY, most=0), [(FIRST, 12), ((1, -1, 0, (), ()), 7), ((1, 0, 2, (0,), ()), 7)]
        )
        self.assertEqual([move for _, move in sure_rule(SKY, most=0)], ["take", "take", "take"])


class WithoutEars(unittest.TestCase):
    def test_ears_by_their_names(self):
        ears = [(0, 3, 1), (3, 4, 2), (10, 20, 3), (30, 40, 4)]
        sky = make_sky([(0, 0, 2, 0, 4)], ears=ears)
        for part in every_failing(sky, 4):
            left = [ear for name, ear in enumerate(ears) if name not in part]
            self.assertEqual(without_ears(sky, part), (sky[0], sky[1], left, 6, 20))
            self.assertEqual(without_ears(sky, list(part)), without_ears(sky, part))

    def test_a_sky_without_ears(self):
        self.assertEqual(without_ears(make_sky(), ()), make_sky())

    def test_all_lists_are_new(self):
        sky = without_ears(SKY, ())
        self.assertEqual(sky, SKY)
        for part in (0, 1, 2):
            self.assertIsNot(sky[part], SKY[part])


class States(unittest.TestCase):
    def test_first_states_know_the_ears_that_begin_up_to_the_first_start(self):
        sky = make_sky([(0, 5, 1, 0, 1)], ears=[(0, 2, 1), (5, 6, 1), (6, 9, 1)])
        self.assertEqual(first_states(sky, most=0), [(0, -1, 0, (), ())])
        self.assertEqual(first_states(sky, most=1), [(0, -1, 0, (), part) for part in ((), (0,), (1,))])
        both = [(0, -1, 0, (), part) for part in ((), (0,), (0, 1), (1,))]
        for most in (2, 3, 4):
            self.assertEqual(first_states(sky, most=most), both)

    def test_an_ear_that_begins_just_at_a_start_is_known_and_took_nothing(self):
        looks = [(0, 0, 2, 0, 4), (1, 5, 1, 0, 2)]
        at_start = make_sky(looks, ears=[(5, 9, 1)])
        self.assertEqual(
            states_behind(at_start, FIRST, "take", most=1), [(1, 0, 4, (0,), ()), (1, 0, 4, (0,), (0,))]
        )
        a_tick_later = make_sky(looks, ears=[(6, 9, 1)])
        self.assertEqual(states_behind(a_tick_later, FIRST, "take", most=1), [(1, 0, 4, (0,), ())])
        a_tick_ahead = make_sky(looks, ears=[(4, 9, 1)])
        self.assertEqual(
            states_behind(a_tick_ahead, FIRST, "take", most=1), [(1, 0, 3, (0,), ()), (1, 0, 4, (0,), (0,))]
        )
        ahead = make_sky([(0, 3, 2, 0, 4), (1, 8, 1, 0, 2)], ears=[(3, 4, 1)])
        self.assertEqual(first_states(ahead, most=1), [FIRST, (0, -1, 0, (), (0,))])
        self.assertEqual(states_behind(ahead, (0, -1, 0, (), (0,)), "take", most=1), [(1, 0, 4, (0,), (0,))])

    def test_a_look_that_is_not_over_yet_is_not_in_the_store(self):
        looks = [(0, 0, 5, 0, 4), (1, 3, 1, 0, 2), (1, 5, 1, 0, 2), (1, 6, 1, 0, 2)]
        sky = make_sky(looks, ears=[(0, 9, 1)])
        self.assertEqual(states_behind(sky, FIRST, "take", most=0), [(1, 0, 0, (0,), ())])
        self.assertEqual(states_behind(sky, (1, 0, 0, (0,), ()), "leave", most=0), [(2, 0, 4, (0,), ())])
        self.assertEqual(states_behind(sky, (2, 0, 4, (0,), ()), "leave", most=0), [(3, 0, 3, (0,), ())])
        self.assertEqual(moves_of(sky, (1, 0, 0, (0,), ())), ["leave"])
        self.assertEqual(moves_of(sky, (2, 0, 4, (0,), ())), ["leave", "take"])

    def test_looks_with_the_same_start(self):
        sky = make_sky([(0, 4, 2, 0, 4), (1, 4, 1, 0, 2)], ears=[(4, 9, 1)])
        for failed in ((), (0,)):
            state = (0, -1, 0, (), failed)
            self.assertEqual(states_behind(sky, state, "take", most=1), [(1, 0, 0, (0,), failed)])
            self.assertEqual(moves_of(sky, (1, 0, 0, (0,), failed)), ["leave"])
            self.assertEqual(moves_of(sky, (1, -1, 0, (), failed)), ["leave", "take"])

    def test_behind_the_last_look_there_is_none(self):
        for move in ("leave", "take"):
            self.assertEqual(states_behind(SKY, (1, 0, 2, (0,), ()), move, most=1), [])

    def test_moves_and_gains(self):
        self.assertEqual(moves_of(SKY, FIRST), ["leave", "take"])
        self.assertEqual(moves_of(SKY, (1, 0, 2, (0,), ())), ["leave", "take"])
        self.assertEqual(moves_of(SKY, (1, 0, 4, (0,), (0,))), ["leave"])
        for state, worth in ((FIRST, 5), ((1, 0, 2, (0,), ()), 7)):
            self.assertEqual([gain_of(SKY, state, move) for move in ("leave", "take")], [0, worth])

    def test_a_wish_that_is_taken_and_a_turning_that_is_too_long(self):
        sky = make_sky([(0, 0, 2, 0, 1), (0, 5, 1, 0, 1), (1, 5, 1, 61, 1), (1, 6, 1, 61, 1)])
        self.assertEqual(moves_of(sky, (1, 0, 1, (0,), ())), ["leave"])
        self.assertEqual(moves_of(sky, (1, -1, 0, (), ())), ["leave", "take"])
        self.assertEqual(moves_of(sky, (2, 0, 1, (0,), ())), ["leave"])
        self.assertEqual(moves_of(sky, (3, 0, 1, (0,), ())), ["leave", "take"])

    def test_room_to_the_brim(self):
        for capacity, moves in ((5, ["leave"]), (6, ["leave", "take"])):
            sky = make_sky([(0, 0, 2, 0, 4), (1, 5, 1, 0, 2)], capacity=capacity)
            self.assertEqual(moves_of(sky, (1, 0, 4, (0,), ())), moves)

    def test_at_most_so_many_ears_fail(self):
        sky = make_sky([(0, 0, 1, 0, 1), (1, 9, 1, 0, 1)], ears=[(0, 1, 1), (2, 3, 1), (5, 6, 1)])
        told = states_behind(sky, (0, -1, 0, (), (0,)), "leave", most=2)
        self.assertEqual([state[4] for state in told], [(0,), (0, 1), (0, 2)])
        told = states_behind(sky, (0, -1, 0, (), ()), "leave", most=2)
        self.assertEqual([state[4] for state in told], [(), (1,), (1, 2), (2,)])
        self.assertEqual([state[4] for state in states_behind(sky, (0, -1, 0, (), (0,)), "leave", most=1)], [(0,)])
        told = states_behind(sky, (0, -1, 0, (), (0,)), "leave", most=4)
        self.assertEqual([state[4] for state in told], [(0,), (0, 1), (0, 1, 2), (0, 2)])

    def test_states_ascend_also_where_amounts_differ(self):
        sky = make_sky([(0, 0, 1, 0, 4), (1, 9, 1, 0, 1)], ears=[(2, 3, 1), (5, 7, 1)])
        told = states_behind(sky, FIRST, "take", most=2)
        self.assertEqual([(state[2], state[4]) for state in told], [(1, ()), (2, (0,)), (3, (1,)), (4, (0, 1))])
        self.assertEqual([(state[2], state[4]) for state in states_behind(sky, FIRST, "take", most=1)],
                         [(1, ()), (2, (0,)), (3, (1,))])
        self.assertEqual(told, sorted(told))


class SureNumbers(unittest.TestCase):
    def test_all_courses(self):
        for sky, most, game in games(range(70)):
            firsts = sorted(state for state, _ in game.firsts)
            self.assertEqual(first_states(sky, most=most), firsts)
            self.assertEqual(sure_worth(sky, most=most), game.worth)
            self.assertEqual(sure_table(sky, most=most), sorted((s, told[0]) for s, told in game.told.items()))
            for state, (_, moves) in game.told.items():
                self.assertEqual(moves_of(sky, state), list(moves))
                for move, (states, _) in moves.items():
                    self.assertEqual(states_behind(sky, state, move, most=most), states)

    def test_rules_take_if_this_reaches_the_sure_number(self):
        for sky, most, game in games(range(70, 110)):
            told = {state: "leave" for state in game.told}
            for state, (number, moves) in game.told.items():
                if "take" in moves and moves["take"][1] == number:
                    told[state] = "take"
            self.assertEqual(sure_rule(sky, most=most), sorted(told.items()))

    def test_a_sky_without_looks(self):
        for ears in ([], [(0, 3, 1)]):
            for most in (0, 1, 4):
                sky = make_sky(ears=ears)
                self.assertEqual(first_states(sky, most=most), [])
                self.assertEqual(sure_worth(sky, most=most), 0)
                self.assertEqual(sure_table(sky, most=most), [])
                self.assertEqual(sure_rule(sky, most=most), [])

    def test_a_sky_without_ears(self):
        for seed in range(40):
            sky = without(chance_sky(seed), range(4))
            for most in (0, 1, 4):
                self.assertEqual(sure_worth(sky, most=most), best_worth(sky))

    def test_the_greatest_size(self):
        sky = large_sky(5)
        worths = [sure_worth(sky, most=most) for most in range(5)]
        self.assertEqual(worths, sorted(worths, reverse=True))
        self.assertEqual(worths[0], best_worth(sky))
        self.assertEqual(len(sure_rule(sky, most=4)), len(sure_table(sky, most=4)))


class Arguments(unittest.TestCase):
    def test_arguments_stay_and_results_are_new(self):
        for seed in (3, 8):
            sky = chance_sky(seed)
            keeps(self, without_ears, sky, [0])
            keeps(self, first_states, sky, most=2)
            for state in first_states(sky, most=2):
                keeps(self, moves_of, sky, state)
                keeps(self, states_behind, sky, state, "leave", most=2)
            keeps(self, sure_worth, sky, most=2)
            keeps(self, sure_table, sky, most=2)
            keeps(self, sure_rule, sky, most=2)


if __name__ == "__main__":
    unittest.main()
