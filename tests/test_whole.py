"""Points 2 to 19 together: one parting, a company, a session, marks, exchanges, and persons renamed."""

import unittest
from itertools import combinations

from tests.helpers import (
    TWENTY, Dice, all_groups, comings_of_twenty, error_of, halved, members, parting_of, share, trees_of_twenty,
)
from twopartings.comings import coming_of, is_coming, parting_by
from twopartings.distances import agreeing, an_agreeing, at_distances, distance, exchanged, neighbours
from twopartings.errors import PartError
from twopartings.families import all_histories, histories, history_share, is_family
from twopartings.leaving import coming_without, entered, is_traceless, traceless, without
from twopartings.live import Company
from twopartings.marks import change_counts, changes_of
from twopartings.numbers import (
    index_by_pairs, index_with, next_parting, nth_by_pairs, nth_parting, nth_with, parting_index,
)
from twopartings.pairings import is_pairing, pairs_of, parting_by_pairs
from twopartings.partings import (
    cut_to, depth_of, is_parting, least_group, maker_of, parts_of, persons_of,
)
from twopartings.session import session
from twopartings.several import common_groups, differing, is_nearest, least_sum, most_groups
from twopartings.shares import depth_shares, meet_shares
from twopartings.texts import read_coming, read_parting, write_coming, write_parting
from twopartings.told import count_partings, count_with, share_with

NAMES = [(7 * person + 3) % 20 for person in TWENTY]


def every_parting(persons):
    return [nth_parting(persons, index) for index in range(count_partings(persons))]


def some_partings():
    small = [parting for persons in range(1, 6) for parting in every_parting(persons)]
    return small + [parting_of(tree) for tree in trees_of_twenty()]


def company_by(coming):
    company = Company()
    for node in [0] + coming:
        company.enter(node)
    return company


def renamed(group):
    return sorted(NAMES[person] for person in group)


class OneParting(unittest.TestCase):

    def test_lists_texts_and_numbers_agree(self):
        for parting in some_partings():
            persons, coming, pairs = persons_of(parting), coming_of(parting), pairs_of(parting)
            self.assertIs(is_parting(parting) and is_coming(coming) and is_pairing(pairs), True)
            self.assertEqual(read_parting(write_parting(parting)), parting)
            self.assertEqual(parting_by(read_coming(write_coming(coming))), parting)
            self.assertEqual(parting_by_pairs(pairs), parting)
            self.assertEqual(nth_parting(persons, parting_index(parting)), parting)
            self.assertEqual(nth_by_pairs(persons, index_by_pairs(parting)), parting)
            self.assertEqual(nth_with(persons, parting, index_with(parting, parting)), parting)
            self.assertIs(is_family(persons, parting), True)
            self.assertEqual(count_with(persons, parting), 1)

    def test_groups_makers_depths_and_histories_agree(self):
        for parting in some_partings():
            persons = persons_of(parting)
            self.assertEqual(sorted(maker_of(parting, group) for group in parting), list(range(1, persons)))
            self.assertEqual(sum(depth_of(parting, person) for person in range(persons)), sum(map(len, parting)))
            for group in parting:
                one, other = parts_of(parting, group)
                self.assertEqual(least_group(parting, one[0], other[-1]), group)
                # The histories of a group are those of its parts, put together.
                within = cut_to(parting, group)
                ways = histories(cut_to(parting, one)) * histories(cut_to(parting, other))
                rest = len(group) - 2
                for at in range(len(one) - 1):
                    ways = ways * (rest - at) // (at + 1)
                self.assertEqual(histories(within), ways)

    def test_next_ones_by_all_that_is_told(self):
        for parting in [nth_parting(5, index) for index in range(104)]:
            following = next_parting(parting)
            self.assertEqual(parting_index(following), parting_index(parting) + 1)
            self.assertLess(coming_of(parting), coming_of(following))
            self.assertLess(read_coming(write_coming(coming_of(parting))), coming_of(following))

    def test_shares_by_counting_all_partings(self):
        every = every_parting(5)
        for group in all_groups(5):
            having = [parting for parting in every if group in parting]
            self.assertEqual(share_with(5, [group]), share(len(having), 105))
            self.assertEqual(history_share(5, group), share(sum(map(histories, having)), all_histories(5)))
        depths = [depth_of(parting, 2) for parting in every]
        self.assertEqual(depth_shares(5, [], 2), [share(depths.count(depth), 105) for depth in range(5)])
        sizes = [len(least_group(parting, 1, 4)) for parting in every]
        self.assertEqual(meet_shares(5, [], 1, 4), [share(sizes.count(size), 105) for size in range(6)])


class CompaniesAndSessions(unittest.TestCase):

    def test_a_company_is_its_parting(self):
        for parting in some_partings():
            company = company_by(coming_of(parting))
            self.assertEqual((company.parting, company.coming), (parting, coming_of(parting)))
            self.assertEqual(company.persons, persons_of(parting))
            for person in range(company.persons):
                company.leave(person)
                if len(parting) > 0:
                    self.assertEqual(company.parting, without(parting, person))
                    self.assertEqual(company.coming, coming_without(coming_of(parting), person))
                company.undo()
            for group in [group for group in parting if len(group) <= len(parting)]:
                company.exchange(group, group[-1])
                self.assertEqual(company.parting, exchanged(parting, group, group[-1]))
                self.assertIn(company.parting, neighbours(parting))
                company.undo()
            if company.persons < 20:
                for node in (1 - company.persons, company.persons - 1):
                    company.enter(node)
                    self.assertEqual(company.parting, entered(parting, node))
                    company.undo()
            self.assertEqual((company.parting, company.mark()), (parting, persons_of(parting)))

    def test_a_session_is_a_company(self):
        for seed, coming in enumerate(comings_of_twenty()):
            dice, company, lines, expected = Dice(seed), Company(), [], []
            for node in [0] + coming[:dice.below(19)]:
                company.enter(node)
                lines.append(f"enter {node}")
                expected.append("ok")
            for _ in range(6):
                person = dice.below(company.persons)
                if company.persons > 1:
                    company.leave(person)
                    lines.append(f"leave {person}")
                    expected.append("ok")
            parting = company.parting
            lines += ["parting", "coming", "index", "count", "histories", "depth 0", "traceless"]
            expected += [write_parting(parting), write_coming(company.coming), str(parting_index(parting))]
            expected += [str(count_partings(company.persons)), str(histories(parting)), str(depth_of(parting, 0))]
            expected += [write_coming(traceless(parting))]
            if company.persons > 1:
                lines.append(f"least 0 {company.persons - 1}")
                expected.append(write_coming(least_group(parting, 0, company.persons - 1)))
            self.assertEqual(session("\n".join(lines)), "\n".join(expected))

    def test_sessions_name_the_errors_that_companies_raise(self):
        for coming in comings_of_twenty()[:6]:
            for many in (0, 1, 2, 7, 19):
                company = company_by(coming[:many])
                lines = "\n".join(f"enter {node}" for node in [0] + coming[:many])
                persons = company.persons
                for line, call, number in (
                    (f"enter {persons}", company.enter, persons), (f"leave {persons}", company.leave, persons),
                    (f"back {persons + 1}", company.undo_to, persons + 1), ("enter -20", company.enter, -20),
                ):
                    error = error_of(call, number)
                    self.assertTrue(issubclass(error, PartError))
                    self.assertEqual(session(f"{lines}\n{line}").split("\n")[-1], error.__name__)

    def test_all_partings_of_five_by_sessions(self):
        every = set()
        for index in range(105):
            coming = coming_of(nth_parting(5, index))
            lines = "\n".join(f"enter {node}" for node in [0] + coming)
            told = session(f"{lines}\nparting\nindex").split("\n")[5:]
            self.assertEqual(told[1], str(index))
            every.add(told[0])
        self.assertEqual(len(every), 105)


class MarksAndMore(unittest.TestCase):

    def test_an_exchange_changes_the_changes_by_one_at_most(self):
        dice = Dice(5)
        for tree in trees_of_twenty()[::3]:
            parting = parting_of(tree)
            some = [person for person in TWENTY if dice.below(2)]
            before = changes_of(parting, some)
            for other in neighbours(parting):
                self.assertIn(changes_of(other, some) - before, (-1, 0, 1))

    def test_who_leaves_takes_one_change_along_at_most(self):
        dice = Dice(6)
        for tree in trees_of_twenty():
            parting = parting_of(tree)
            some = [person for person in TWENTY if dice.below(2)]
            for person in TWENTY[::4]:
                left = [other - (other > person) for other in some if other != person]
                gone = changes_of(parting, some) - changes_of(without(parting, person), left)
                self.assertIn(gone, (0, 1))

    def test_marks_counted_over_all_partings(self):
        every = every_parting(5)
        for some in ([], [3], [0, 4], [1, 2, 3], [0, 1, 2, 3, 4]):
            changes = [changes_of(parting, some) for parting in every]
            counts = change_counts(5, len(some))
            self.assertEqual([changes.count(many) for many in range(len(counts))], counts)

    def test_one_change_is_a_group_of_the_marked_or_of_the_others(self):
        for parting in every_parting(5):
            for few in (1, 2, 3, 4):
                for some in combinations(range(5), few):
                    others = [person for person in range(5) if person not in some]
                    alone = any(len(part) == 1 or part in parting for part in (list(some), others))
                    self.assertEqual(changes_of(parting, list(some)) == 1, alone)

    def test_agreeing_persons_need_as_many_changes(self):
        dice = Dice(8)
        partings = [parting_of(tree) for tree in trees_of_twenty()]
        for one, other in list(combinations(partings, 2))[::6]:
            some = an_agreeing(one, other)
            marked = [at for at in range(len(some)) if dice.below(2)]
            self.assertEqual(changes_of(cut_to(one, some), marked), changes_of(cut_to(other, some), marked))

    def test_exchanges_distances_and_common_groups(self):
        for tree in trees_of_twenty()[::2]:
            parting = parting_of(tree)
            company = company_by(coming_of(parting))
            for group in [group for group in parting if len(group) < 20][::3]:
                company.undo_to(20)
                company.exchange(group, group[0])
                other = company.parting
                self.assertEqual(distance(parting, other), 1)
                self.assertEqual(common_groups([parting, other]), [one for one in parting if one != group])
                self.assertEqual(most_groups([parting, other, parting]), parting)
                self.assertEqual(least_sum([parting, other]), 2)
                self.assertEqual(differing([parting], other), 2)
                self.assertIs(is_nearest([parting, other], other), True)
                self.assertEqual(agreeing(parting, parting), 20)
            self.assertEqual(at_distances(parting)[1], 36)

    def test_those_who_leave_no_trace(self):
        for coming in comings_of_twenty():
            company = company_by(coming)
            parting = company.parting
            for person in traceless(parting):
                self.assertIs(is_traceless(parting, person), True)
                company.leave(person)
                kept = coming[:person - 1] + coming[person:]
                left = [item - (item > person) + (item < -person) for item in kept]
                self.assertEqual(company.coming, left)
                company.undo()
            told = session("\n".join(f"enter {node}" for node in [0] + coming) + "\ntraceless").split("\n")[-1]
            self.assertEqual(told, write_coming(traceless(parting)))

    def test_persons_renamed(self):
        dice = Dice(9)
        for tree in trees_of_twenty():
            parting = parting_of(tree)
            other = sorted(renamed(group) for group in parting)
            some = [person for person in TWENTY if dice.below(3) == 0]
            self.assertEqual(changes_of(other, renamed(some)), changes_of(parting, some))
            self.assertEqual(histories(other), histories(parting))
            self.assertEqual(at_distances(other), at_distances(parting))
            company = company_by(coming_of(other))
            for group in [group for group in parting if len(group) < 20][::5]:
                company.exchange(renamed(group), NAMES[group[0]])
                expected = sorted(renamed(one) for one in exchanged(parting, group, group[0]))
                self.assertEqual(company.parting, expected)
                company.undo()
            for one, two in ((0, 1), (3, 17), (19, 8)):
                self.assertEqual(least_group(other, NAMES[one], NAMES[two]), renamed(least_group(parting, one, two)))
            for person in (0, 11, 19):
                self.assertEqual(depth_of(other, NAMES[person]), depth_of(parting, person))


class ToldAgain(unittest.TestCase):
    """Each list is told again as it was, whatever was done to the first one."""

    def spoil(self, thing):
        if isinstance(thing, list):
            for item in thing:
                self.spoil(item)
            thing.append("spoilt")

    def check(self, tell):
        first, kept = tell(), str(tell())
        self.spoil(first)
        self.assertEqual(str(tell()), kept)

    def test_what_a_company_tells(self):
        for tree in trees_of_twenty()[:6]:
            company = company_by(coming_of(parting_of(tree)))
            twin = company.twin()
            for one in (company, twin):
                self.check(lambda: one.parting)
                self.check(lambda: one.coming)
            self.check(lambda: parts_of(company.parting, TWENTY))
            company.leave(4)
            self.assertEqual(twin.parting, parting_of(tree))
            company.undo()
            self.assertEqual(company.parting, twin.parting)

    def test_what_functions_tell(self):
        for tree in trees_of_twenty()[:4] + [halved(TWENTY[:5]), (0, 1)]:
            parting, persons = parting_of(tree), len(members(tree))
            kept, text = str(parting), write_parting(parting)
            for tell in (
                lambda: without(parting, 0), lambda: neighbours(parting), lambda: at_distances(parting),
                lambda: common_groups([parting, parting]), lambda: most_groups([parting]), lambda: traceless(parting),
                lambda: an_agreeing(parting, parting), lambda: read_parting(text), lambda: cut_to(parting, [0, 1]),
                lambda: change_counts(persons, persons // 2), lambda: nth_parting(persons, 0),
            ):
                self.check(tell)
            self.assertEqual(str(parting), kept)

    def test_what_was_passed_to_a_company(self):
        company = company_by([0, -1, 2])
        group = [0, 1]
        company.exchange(group, 0)
        after = company.parting
        self.spoil(group)
        self.check(lambda: company.parting)
        self.assertEqual(company.parting, after)


if __name__ == "__main__":
    unittest.main()
