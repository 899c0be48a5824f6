"""The examples of the document, word for word, in their order: each one goes on from those before it."""

import doctest
import unittest

EXAMPLES = (
    (4, r"""
>>> from sketchways.towns import Town
>>> places = (('baker', 1, (), ('bread',)), ('bridge', 3, ((0, 2),), ('bridge',)), ('station', 1, (), ()), ('yard', 1, (), ()))
>>> town = Town(places, ((('baker', 0), ('bridge', 1)), (('bridge', 0), ('station', 0)), (('bridge', 2), ('yard', 0))))
>>> [town[('bridge', 1)], town.view(('bridge', 0)), town.view(('bridge', 2)), town.view(('bridge', 1))]
[('baker', 0), (1, 0, True, ('bridge',)), (0, 1, True, ('bridge',)), (2, 2, False, ('bridge',))]
>>> [town.taken(('bridge', 1), ('left', 1)), town.taken(('bridge', 1), ('right', 1)), town.taken(('bridge', 0), ('right', 1))]
[2, 0, None]
"""),
    (5, r"""
>>> from sketchways.sketches import Sketch
>>> told = (('baker', ('p',), (), ('bread',)), ('bridge', ('a', 'b', 'c'), (('a', 'c'),), ('bridge',)), ('station', ('s',), (), ()))
>>> ways = ((('baker', 'p'), ('bridge', 'b')), (('bridge', 'a'), ('station', 's')))
>>> sketch = Sketch(told, ways)
>>> more = Sketch(told, ways, (('clear', 'baker', 'p'), ('only', 'bridge'), ('shut', 'bridge', 'a')))
>>> [more <= sketch, len(more), (~more).crossings[1][1], (~more).facts[2], ('full', 'baker') in sketch.tellable()]
[True, 3, ('a', 'c', 'b'), ('shut', 'bridge', 'b'), True]
"""),
    (6, r"""
>>> from sketchways.fits import drawn, fit
>>> fit(sketch, town)
(((0,), (0, 1, 2), (0,)), ((), ()))
>>> drawn(town, ('baker', 'bridge')).crossings
(('baker', ('ea',), (), ('bread',)), ('bridge', ('eb',), (), ('bridge',)))
"""),
    (7, r"""
>>> from sketchways.directions import Directions
>>> directions = Directions('until sign bridge\n  go on\ngo left 1\nhere')
>>> [directions.states, directions.signs, directions.act((-1,), (0, 0, True, ())), directions.act((1,), (1, 0, True, ('bridge',)))]
[((-1,), (1,), (2,)), ('bridge',), ('go', ('on',), (1,)), ('go', ('left', 1), (2,))]
>>> (~directions).text.split('\n')[2]
'go right 1'
"""),
    (8, r"""
>>> from sketchways.walking import led, walk
>>> walk(town, directions, ('station', 0))
((('bridge', 0), ('baker', 0)), 'here')
>>> [led(sketch, town, fit(sketch, town), directions, ('station', 's'), goal) for goal in ('baker', 'bridge')]
['comes', 'wrong']
"""),
    (9, r"""
>>> from sketchways.places import answer, filled, possible
>>> answer(sketch, directions, ('at', 'bridge'), ((1, 0, 0), ()), ('a', (-1,)))
('leaves',)
>>> possible(sketch, directions, ('along', 1), (), (1, (-1,)))
(('leaves',), ('lost',), ('out', 0, (-1,)), ('out', 0, (1,)))
>>> filled(sketch, directions, ('along', 1), (((1, (-1,)), ('lost',)),))
(2, ((0, 0, ('bridge',)),))
"""),
    (10, r"""
>>> from sketchways.judging import verdict
>>> found = verdict(sketch, directions, ('station', 's'), 'baker', 'comes')
>>> [found[0], len(verdict(more, directions, ('station', 's'), 'baker', 'comes')[1])]
['broken', 7]
"""),
    (11, r"""
>>> from sketchways.asking import worth_asking
>>> least, greatest = worth_asking(sketch, directions, ('station', 's'), 'baker', 'comes', more.facts)
>>> [[some for some, cases in least] == [more.facts], len(greatest)]
[True, 3]
"""),
    (12, r"""
>>> from sketchways.wording import cheapest
>>> other = Directions('until sign bridge\n  go on\ngo right 1\nhere')
>>> told = cheapest(more, other, ('station', 's'), 'baker', 'comes', ((1, '  go back', 0), (2, 'go left 1', 3)))
>>> [told[:3], len(told[3]), [row[0] for row in told[4]]]
[('choice', 3, (2,)), 7, [(), (1,), (1, 2)]]
"""),
    (13, r"""
>>> from sketchways.comparing import alike
>>> twin = Directions('while not sign bridge\n  go on\ngo left 1\nhere')
>>> [alike(sketch, directions, twin, ('station', 's'))[0], alike(sketch, directions, other, ('station', 's'))[0]]
['alike', 'apart']
"""),
    (15, r"""
>>> from sketchways.texts import show_sketch
>>> show_sketch(more).split('\n')[3:]
['street baker p bridge b', 'street bridge a station s', 'clear baker p', 'only bridge', 'shut bridge a']
"""),
    (15, r"""
>>> from sketchways.tours import Tour
>>> tour = Tour(town, directions, ('station', 0))
>>> [tour.step(), tour.step(), tour.step(), tour.stop, tour.finish, tour.orders, tour.undo(), tour.finish]
[None, None, None, ('baker', 0), 'here', 3, None, None]
>>> tour.journal.split('\n')[3:]
['crossing yard 1 - -', 'street baker 0 bridge 1', 'street bridge 0 station 0', 'street bridge 2 yard 0', 'start station 0', '|until sign bridge', '|  go on', '|go left 1', '|here', 'orders', 'step', 'step']
"""),
    (16, r"""
>>> from sketchways.desk import Desk
>>> desk = Desk(Tour(town, directions, ('station', 0)))
>>> [desk.say('where'), desk.say('step'), desk.say('view'), desk.say('step'), desk.say('step'), desk.say('undo')]
['-', 'bridge 0', '1 0 yes bridge', 'baker 0', 'here', 'ok']
"""),
)


class ExamplesTest(unittest.TestCase):
    def test_examples(self):
        known = {}
        for section, text in EXAMPLES:
            with self.subTest(section=section):
                examples = doctest.DocTestParser().get_doctest(text, known, f"section {section}", None, None)
                told = []
                runner = doctest.DocTestRunner(verbose=False)
                runner.run(examples, out=told.append, clear_globs=False)
                known = examples.globs
                self.assertEqual("", "".join(told))
                self.assertGreater(runner.tries, 0)


if __name__ == "__main__":
    unittest.main()

