"""The document's examples, word for word, one section behind the other."""

import doctest
import unittest

EXAMPLES = r"""
>>> from looseknobs.words import Word
>>> xx, zz, zi = Word('XX'), Word('ZZ'), Word('ZI')
>>> [xx.passes(zz), xx.passes(zi), (xx * zz).text, zi.bent(xx).text, xx.bent(zi).text, (zi * Word('-IZ')).text]
[True, False, '-YY', '-YX', 'YX', '-ZZ']
>>> [one.bent(other).text for one, other in ((Word('X'), Word('Y')), (Word('Z'), Word('X')), (Word('X'), Word('Z')))]
['-Z', '-Y', 'Y']

>>> from looseknobs.ratios import Ratio
>>> from looseknobs.waves import Wave
>>> k, m = Wave((((('k', 1),), 1, 0),)), Wave((((('m', 1),), 0, 1),))
>>> (k * k).terms
(((), Ratio(1, 2), Ratio(0)), ((('k', 2),), Ratio(1, 2), Ratio(0)))
>>> (k * m).terms
(((('k', 1), ('m', -1)), Ratio(0), Ratio(-1, 2)), ((('k', 1), ('m', 1)), Ratio(0), Ratio(1, 2)))
>>> setting = (('k', Ratio(3, 5), Ratio(4, 5)), ('m', 0, 1))
>>> [(k * m).at(setting), (k * m).put(setting[1:]) == k, k.slope('k').terms, (k - k).terms]
[Ratio(3, 5), True, (((('k', 1),), Ratio(0), Ratio(-1)),), ()]

>>> from looseknobs.circuits import Circuit
>>> from looseknobs.spreads import spread
>>> mixer = Circuit('wires 2\nh 0\nturn ZI by 1 k\nh 0')
>>> [(~mixer)[1], mixer.knobs, mixer.turns, len(mixer.still), (mixer * ~mixer).text.split('\n')[2:5]]
['turn -ZI by 1 k', ('k',), (1,), 2, ['turn ZI by 1 k', 'h 0', 'h 0']]
>>> [(letters, wave.terms) for letters, wave in spread(mixer, zi).terms]
[('YI', (((('k', 1),), Ratio(0), Ratio(1)),)), ('ZI', (((('k', 1),), Ratio(1), Ratio(0)),))]
>>> spread(mixer, zi) == spread(Circuit('wires 2\nturn XI by 1 k'), zi)
True
>>> ladder = Circuit('wires 2\ncx 0 1\nturn IZ by 1 m\ncx 0 1')
>>> [spread(ladder, word) == spread(Circuit('wires 2\nturn ZZ by 1 m'), word) for word in (zi, xx, Word('XI'), Word('-IY'))]
[True, True, True, True]

>>> from looseknobs.likeness import same, shows_same
>>> order, turned_about = Circuit('wires 1\nturn X by 1 k\nturn Z by 1 m'), Circuit('wires 1\nturn Z by 1 m\nturn X by 1 k')
>>> [same(order, turned_about)[0], same(mixer, Circuit('wires 2\nturn XI by 1 k')), same(mixer * ~mixer, Circuit('wires 2'))]
['apart', ('same',), ('same',)]
>>> quarters = (('k', 0, 1), ('m', 0, 1))
>>> [shows_same(order, turned_about, ('apart', quarters, Word(text))) for text in ('X', 'Y', '-Z')]
[True, True, True]

>>> from looseknobs.seeing import hangs, hidden, parts, seen, shifted
>>> twice = Circuit('wires 2\nturn ZI by 1 k\nturn IZ by 2 n\nturn ZI by 1 m\nturn ZI by -2 n')
>>> [twice.knobs, hidden(twice), seen(twice), shifted(twice, (1, -1, 0)), shifted(twice, (2, 0, 1))[0]]
[('k', 'm', 'n'), ((1, -1, 0),), 2, ('hidden',), 'seen']
>>> [parts(twice, 'k'), parts(twice, 'n'), hangs(twice, xx), hangs(twice, Word('IX')), hangs(twice, zz)]
[1, 2, ('k', 'm', 'n'), ('n',), ()]
>>> [hidden(order), hidden(Circuit('wires 1\nturn X by 1 k\nturn X by 1 m'))]
[(), ((1, -1),)]

>>> from looseknobs.layers import laid, layers, packed, plain, turned
>>> row = Circuit('wires 2\nturn ZZ by 1 a\nh 0\nturn ZI by 1 b\nturn IX by 2 c -1 a')
>>> [(word.text, some) for word, some in turned(row)]
[('ZZ', (('a', 1),)), ('XI', (('b', 1),)), ('IX', (('a', -1), ('c', 2)))]
>>> [layers(row)[0], packed(row, 1)[0], laid(row, ((0,), (1, 2))).text.split('\n')[1:]]
[((0,), (1, 2)), 3, ['turn ZZ by 1 a', 'turn XI by 1 b', 'turn IX by -1 a 2 c', 'h 0']]
>>> [plain(twice)[0], [word.text for word in plain(row)[1]], plain(mixer * ~mixer)[0]]
[(('IZ', (('n', 2),)), ('ZI', (('k', 1), ('m', 1), ('n', -2)))), ['ZI', 'XI', 'IX', 'IZ'], ()]

>>> from looseknobs.keeping import bound, kept
>>> [kept(ladder), kept(row), [(letters, word.text) for letters, word in bound(Circuit('wires 1\nflip X\nturn Z by 1 k'))]]
[('IZ', 'XX', 'XY', 'YX', 'YY', 'ZI', 'ZZ'), (), [('Z', '-Z')]]

>>> from looseknobs.starts import alike_from, hangs_from, hidden_from, mean, Start
>>> nought = Start((zi, Word('IZ')))
>>> [nought.sign_of(zz), nought.sign_of(Word('-ZI')), nought.sign_of(xx), nought.like(Start((Word('ZZ'), Word('IZ'))))]
[1, -1, 0, True]
>>> rise = Circuit('wires 2\nturn IZ by 1 n\nturn XI by 1 k\ncx 0 1\nturn ZZ by 1 m')
>>> [mean(rise, nought, zi).terms, mean(rise, nought, zz).terms, hidden_from(rise, nought), hidden(rise)]
[(((('k', 1),), Ratio(1), Ratio(0)),), (((), Ratio(1), Ratio(0)),), ((0, 1, 0), (0, 0, 1)), ((0, 1, -1),)]
>>> [hangs_from(rise, nought, Word('YX')), alike_from(rise, rise.without(3).without(0), nought), same(rise, rise.without(3))[0]]
[('k',), ('same',), 'apart']

>>> from looseknobs.tables import behind, gates, Table, table_of
>>> bell = table_of(Circuit('wires 2\nh 0\ncx 0 1'))
>>> [[word.text for word in bell.images], bell.back(Word('-YY')).text, (bell * ~bell).back(zz) == zz, table_of(gates(bell)) == bell]
[['ZX', 'XI', 'IX', 'XZ'], 'ZZ', True, True]
>>> [behind(row, row.without(1)) == table_of(Circuit('wires 2\nh 0')), behind(row, row * Circuit('wires 2\nflip XZ')).back(xx).text, behind(row, mixer)]
[False, '-XX', None]

>>> from looseknobs.choosing import cheapest
>>> cheapest(Circuit('wires 1\nturn Z by 1 k'), ((0, 'h 0', 2), (1, 'h 0', 1), (1, 'quarter X', 3)), (('free', Word('X'), 'k'),))
('choice', 1, ((1, 'h 0', 1),), (((), 0),))

>>> from looseknobs.benches import Bench
>>> bench = Bench(rise, nought)
>>> [bench.exchange(0), bench.fix('k', Ratio(3, 5), Ratio(4, 5)), bench.read(zi), bench.circuit[0], 'k' in bench, 'n' in bench]
[None, None, Ratio(3, 5), 'turn XI by 1 k', False, True]
>>> [bench.drop(2), bench.mean(zi).terms, bench.undo(), bench.read(Word('YX')), bench.done]
[None, (((), Ratio(3, 5), Ratio(0)),), None, Ratio(-4, 5), 2]

>>> from looseknobs.desk import Desk
>>> from looseknobs.journals import journal
>>> desk = Desk('wires 1\nturn X by 1 k\nstart Z\ndeeds\nput 1 turn Z by 1 m')
>>> [desk.say(line) for line in ('hangs Y', 'knobs', 'fix k 3/5 4/5', 'read Z', 'hangs Y', 'seen', 'undo')]
['k m', 'k m', 'ok', '3/5', 'm', '2', 'ok']
>>> journal(desk.bench).split('\n')[2:]
['start Z', 'deeds', 'put 1 turn Z by 1 m']
"""


class DocumentTest(unittest.TestCase):
    def test_examples(self):
        test = doctest.DocTestParser().get_doctest(EXAMPLES, {}, "document", None, 0)
        told = doctest.DocTestRunner(verbose=False).run(test)
        self.assertEqual(told.failed, 0)
        self.assertEqual(told.attempted, EXAMPLES.count(">>> "))


if __name__ == "__main__":
    unittest.main()
