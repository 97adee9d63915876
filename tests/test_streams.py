"""Points 59 and 60: streams."""

import random
import unittest

from livecopy.book import Book
from livecopy.counters import backward, forward
from livecopy.errors import BadCount, BadPrice, NotAVersion, StreamClosed
from livecopy.plans import best_plan
from livecopy.requests import votes
from livecopy.streams import Stream
from tests.support import (
    EXAMPLE_REQUESTS, NO_VERSIONS, chain_book, example_book, random_case, refused, same_arguments, snapshot, wide_book)

GREAT = 10 ** 30


def certain_at(book, home, heard, number, look, toggle):
    """The entries at which a patch is certain, by the backward numbers of point 60."""
    asked = votes(book, heard, number, look=look)
    ahead = forward(number in home, asked, toggle)
    ends = [backward(asked, toggle, last=last) for last in (toggle, -toggle)]
    return [len({ahead[i] + end[i + 1] > 0 for end in ends}) == 1 for i in range(len(heard))]


def settled(book, home, heard, look, toggle):
    """How many entries are settled, by point 60."""
    rows = [certain_at(book, home, heard, number, look, toggle) for number in book]
    many = 0
    while many < len(heard) and all(row[many] for row in rows):
        many += 1
    return many


class StreamTest(unittest.TestCase):

    def test_the_worked_example(self):
        stream = Stream(example_book(), ())
        self.assertEqual([stream.request(*request) for request in EXAMPLE_REQUESTS], [[(1, 2)], [], []])
        self.assertEqual((stream.pending, stream.told()), (2, [(1, 2)]))
        self.assertEqual(stream.doubt(), (1, 1, ((1,), 1), ((), 1)))
        self.assertEqual(stream.close(), [(1, 2), (1, 2)])
        self.assertEqual((stream.pending, stream.told(), stream.doubt()), (0, [(1, 2)] * 3, None))

    def test_a_new_stream(self):
        stream = Stream(chain_book(), (1, 4))
        self.assertEqual((stream.pending, stream.told(), stream.doubt()), (0, [], None))
        self.assertEqual(stream.close(), [])

    def test_by_point_60(self):
        for seed in range(250):
            book, versions, home, requests, source = random_case(self, seed, most=9)
            look, toggle = source.randrange(1, 4), source.randrange(8)
            stream = Stream(book, home, look=look, toggle=toggle)
            told = []
            for index, (version, count) in enumerate(requests):
                told += same_arguments(self, stream.request, version, count)
                heard = requests[:index + 1]
                many = settled(book, home, heard, look, toggle)
                self.assertEqual(told, best_plan(book, home, heard, look=look, toggle=toggle)[:many])
                self.assertEqual((stream.told(), stream.pending), (told, index + 1 - many))
                self.check_doubt(book, home, heard, stream, look, toggle)
            self.assertEqual(told + stream.close(), best_plan(book, home, requests, look=look, toggle=toggle))

    def check_doubt(self, book, home, heard, stream, look, toggle):
        if not stream.pending:
            self.assertIsNone(stream.doubt())
            return
        index, number, request_on, request_off = stream.doubt()
        self.assertEqual(index, len(heard) - stream.pending)
        rows = [certain_at(book, home, heard, other, look, toggle) for other in book]
        self.assertEqual(number, min(other for other in book if not rows[other - 1][index]))
        count = request_on[1]
        self.assertTrue(look * count >= toggle > look * (count - 1))
        self.assertEqual(request_on, (tuple(sorted((*book.required(number), number))), count))
        self.assertEqual(request_off, ((), count))
        self.assertIn(number, best_plan(book, home, heard + [request_on], look=look, toggle=toggle)[index])
        self.assertNotIn(number, best_plan(book, home, heard + [request_off], look=look, toggle=toggle)[index])

    def test_settled_entries_stay_whatever_follows(self):
        for seed in range(60):
            book, versions, home, requests, source = random_case(self, seed, most=6)
            stream = Stream(book, home, toggle=6)
            told = [entry for request in requests for entry in stream.request(*request)]
            for _ in range(12):
                further = [(source.choice(versions), source.randrange(1, 9)) for _ in range(source.randrange(5))]
                self.assertEqual(best_plan(book, home, requests + further, toggle=6)[:len(told)], told)

    def test_a_great_request_settles_everything_up_to_itself(self):
        stream = Stream(chain_book(), (), look=2, toggle=6)
        self.assertEqual(stream.request((4,), 2), [])
        self.assertEqual(stream.request((1, 2), 7), [(), (1, 2)])
        self.assertEqual(stream.request((3,), GREAT), [(3,)])
        self.assertEqual((stream.pending, stream.close()), (0, []))

    def test_at_twice_the_price(self):
        stream = Stream(wide_book(1), (1,), toggle=2)
        self.assertEqual(stream.request((), 4), [()])
        stream = Stream(wide_book(1), (), toggle=2)
        self.assertEqual(stream.request((1,), 4), [])
        self.assertEqual(stream.request((1,)), [(1,), (1,)])

    def test_without_a_price_everything_is_settled_at_once(self):
        stream = Stream(chain_book(), (4,), toggle=0)
        self.assertEqual([stream.request(version) for version in ((1, 2), (), (3,))], [[(1, 2)], [()], [(3,)]])
        self.assertIsNone(stream.doubt())

    def test_a_book_without_patches(self):
        stream = Stream(Book([0]), ())
        self.assertEqual((stream.request((), GREAT), stream.request(())), ([()], [()]))
        self.assertEqual((stream.pending, stream.doubt(), stream.close()), (0, None, []))

    def test_a_closed_stream(self):
        stream = Stream(chain_book(), ())
        stream.request((1,))
        self.assertEqual(stream.close(), [()])
        refused(self, StreamClosed, (), stream.close)
        refused(self, StreamClosed, (), stream.request, (2,))
        refused(self, StreamClosed, (), stream.request, (1,), 0)
        self.assertEqual((stream.told(), stream.pending, stream.doubt()), ([()], 0, None))

    def test_refused_requests_change_nothing(self):
        stream = Stream(chain_book(), (), toggle=3)
        stream.request((1,), 2)
        before = (stream.told(), stream.pending, stream.doubt())
        for version in NO_VERSIONS:
            refused(self, NotAVersion, (version,), stream.request, version, 0)
        for count in (0, -1, -GREAT):
            refused(self, BadCount, (count,), stream.request, (1,), count)
        self.assertEqual((stream.told(), stream.pending, stream.doubt()), before)
        self.assertEqual(stream.close(), best_plan(chain_book(), (), [((1,), 2)], toggle=3))

    def test_refused_arguments(self):
        refused(self, NotAVersion, ((2,),), Stream, chain_book(), (2,), look=0)
        refused(self, BadPrice, (0,), Stream, chain_book(), (), look=0, toggle=-1)
        refused(self, BadPrice, (-1,), Stream, chain_book(), (), toggle=-1)

    def test_a_growing_book(self):
        for seed in range(80):
            book, versions, home, requests, source = random_case(self, seed, most=6)
            stream = Stream(book, home, look=2, toggle=5)
            told = [entry for request in requests for entry in stream.request(*request)]
            pending = stream.pending
            new = book.make_patch([(0, 1)], requires=source.choice(versions))
            self.assertEqual((stream.told(), stream.pending), (told, pending))
            self.check_doubt(book, home, requests, stream, 2, 5)
            grown = tuple(sorted((*book.required(new), new)))
            for version in (grown, source.choice(versions), grown):
                requests = requests + [(version, source.randrange(1, 5))]
                told += stream.request(*requests[-1])
                many = settled(book, home, requests, 2, 5)
                self.assertEqual(told, best_plan(book, home, requests, look=2, toggle=5)[:many])
            book.make_patch([(0, 2)])
            self.assertEqual(told + stream.close(), best_plan(book, home, requests, look=2, toggle=5))

    def test_nothing_is_shared(self):
        book = chain_book()
        before = snapshot(book)
        stream = Stream(book, (), toggle=3)
        stream.request((1,), GREAT).append((3,))
        stream.told().clear()
        self.assertEqual(stream.told(), [(1,)])
        stream.request((1,))
        stream.close().clear()
        self.assertEqual((stream.told(), snapshot(book)), ([(1,), (1,)], before))

    def test_at_the_limits(self):
        book = wide_book(200)
        source = random.Random(4)
        requests = [
            (tuple(n for n in range(1, 201) if source.random() < 0.5), source.choice((1, 2, GREAT // 10 ** 18)))
            for _ in range(400)]
        price = 10 ** 12
        stream = Stream(book, (), look=3, toggle=price)
        told = [entry for request in requests for entry in stream.request(*request)]
        self.assertTrue(0 < len(told) < 400)
        self.assertEqual(told + stream.close(), best_plan(book, (), requests, look=3, toggle=price))


if __name__ == "__main__":
    unittest.main()
