"""Every example of the document, as written, one after the other."""

import unittest

from firstfailing import errors

CALLS = 107

EXAMPLES = r"""
>>> LETTERS = (('a', ()), ('b', ('a',)), ('c', ()))
>>> BOOK = (LETTERS, (('drop', 1, 'left'), ('lower', 'left')))
>>> BACK = (LETTERS, (('drop', 1, 'right'), ('lower', 'left')))
>>> LOOSE = (LETTERS, (('put', 'a', 'c', 'left'), ('put', 'c', 'aa', 'left')))

>>> from firstfailing.bookchecker import lets_book
>>> lets_book(BOOK)
3
>>> lets_book(((('a', ('b',)), ('b', ('c',)), ('c', ('b',))), ('x',)))
raises InvalidPaper(word='ring', at=1)

>>> from firstfailing.bookparts import is_at_most, letters_below, next_less, next_lessers, things_at_most
>>> [things_at_most(BOOK, 'bc'), next_less(BOOK, 'bc'), is_at_most(BOOK, 'ca', 'acb'), is_at_most(BOOK, 'ab', 'ba')]
[('', 'a', 'ac', 'b', 'bc', 'c'), ('ac', 'b'), True, False]
>>> CHAIN = ((('a', ()), ('b', ('a',)), ('c', ('a', 'b'))), ())
>>> [letters_below(CHAIN, 'c'), next_lessers(CHAIN, 'c'), next_less(CHAIN, 'ac')]
[('a', 'b'), ('b',), ('ab', 'c')]

>>> from firstfailing.bookchanges import mirrored, moved_rule, renamed, with_letter, with_rule
>>> [with_rule(BOOK, ('empty',), at=0)[1], mirrored(BACK)[1], moved_rule(BOOK, 0, 1)[1]]
[(('empty',), ('drop', 1, 'left'), ('lower', 'left')), (('drop', 1, 'left'), ('lower', 'right')), (('lower', 'left'), ('drop', 1, 'left'))]
>>> renamed(LOOSE, (('a', 'c'), ('c', 'a')))
((('a', ()), ('b', ('c',)), ('c', ())), (('put', 'c', 'a', 'left'), ('put', 'a', 'cc', 'left')))
>>> with_letter(BOOK, 'd', ('d',))
raises NotUsable(word='lessers', at=-1)

>>> from firstfailing.bookreadings import book_read, letter_read, rule_read
>>> from firstfailing.booktexts import book_text, letter_line, rule_line
>>> [letter_line(('b', ('a',))), rule_line(('put', 'a', '', 'left')), book_text((LETTERS[:1], (('empty',),))), rule_read('rule drop 12 right')]
['letter b a', 'rule put a - left', 'letter a -\nrule empty', ('drop', 12, 'right')]
>>> book_read('letter a -\nrule half')
raises InvalidText(line=1, field=2)

>>> from firstfailing.bookclasses import Book, Eager, Mirrored
>>> book = Book(BOOK[0], BOOK[1])
>>> [book('bc'), book['b'], 'ca' in book, len(book), Mirrored(BACK[0], BACK[1])('bc'), Book.plain('y', 'x')('xyx')]
[('c', 'b', 'ac'), ('a',), True, 2, ('c', 'b', 'ac'), ('yx', 'xx', 'xy')]
>>> [Eager(LETTERS, (), most=3)('abc'), (book | (('empty',),)).rules[2], Eager(LETTERS, ()).source == (LETTERS, ())]
[('', 'c', 'a'), ('empty',), True]

>>> from firstfailing.stepping import is_falling, rule_steps, steps_of
>>> [steps_of(BOOK, 'bc'), steps_of(BACK, 'bc'), rule_steps(BOOK, 0, 'bb'), rule_steps(LOOSE, 1, 'cc')]
[('c', 'b', 'ac'), ('b', 'c', 'ac'), ('b',), ('aac', 'caa')]
>>> [is_falling(BOOK), is_falling(LOOSE), steps_of(BOOK, '')]
[True, False, ()]

>>> from firstfailing.ending import ending_paper, is_ending, least_weights
>>> [is_ending(BOOK), is_ending(LOOSE), least_weights(BOOK), least_weights((LETTERS, (('put', 'c', 'ab', 'left'),)))]
[True, False, (1, 2, 1), (1, 1, 3)]
>>> ending_paper(LOOSE)
('ring', ('a', 'c'))

>>> from firstfailing.endingchecker import lets_ending
>>> [lets_ending(BOOK, ('weights', (1, 5, 2))), lets_ending(LOOSE, ('ring', ('a', 'c')))]
[True, False]
>>> lets_ending(BOOK, ('weights', (1, 1, 1)))
raises InvalidPaper(word='rule', at=1)

>>> from firstfailing.failing import failing_at_most, fails_by
>>> [fails_by(BOOK, ('causes', ('a',)), 'bc'), failing_at_most(BOOK, ('causes', ('a',)), 'bc'), fails_by(BOOK, ('has', ('a',)), 'bc')]
[True, ('a', 'ac', 'b', 'bc'), False]

>>> from firstfailing.walking import last_of, tries_of, walk_of
>>> BOTH = ('causes', ('a', 'c'))
>>> [walk_of(BOOK, BOTH, 'bc'), walk_of(BACK, BOTH, 'bc'), walk_of(BACK, BOTH, 'bc', notes=True)]
[(('bc', 1), ('c', 1)), (('bc', 1), ('b', 2), ('a', 1)), (('bc', 1), ('b', 2), ('a', 0))]
>>> [walk_of(BOOK, ('causes', ('aa',)), 'bb'), walk_of(BOOK, ('causes', ('aa',)), 'bb', manner='on')]
[(('bb', 2), ('ab', 3), ('aa', 1)), (('bb', 2), ('ab', 1), ('aa', 1))]

>>> from firstfailing.walkchecker import lets_walk
>>> lets_walk(BACK, BOTH, 'bc', (('bc', 1), ('b', 2), ('a', 1)))
4

>>> from firstfailing.asking import Asker
>>> asker = Asker(BOOK, 'bc')
>>> [asker.question, asker.answer(False), asker.answer(True), asker.thing_now, asker.walk_now, str(asker)]
['c', 'b', '', 'b', (('bc', 2), ('b', 0)), 'c. b!']
>>> [asker.undo(), asker.question, asker(BOTH), asker.said, asker.is_done]
['b', 'b', 'a', (('c', False), ('b', True), ('', False), ('a', True), ('', False)), True]

>>> [Asker.begun(BACK, 'bc', 'c').said, Asker.plain('cab').question]
[(('b', False), ('c', True)), 'ab']

>>> from firstfailing.rankings import first_failing, place_in_ranking, ranking_of
>>> [ranking_of(BOOK, 'bc'), place_in_ranking(BOOK, 'bc', 'ac'), place_in_ranking(BACK, 'bc', 'a')]
[('', 'c', 'a', 'b', 'ac', 'bc'), 4, 1]
>>> HALVES = (LETTERS, (('half', 'left'), ('drop', 1, 'left')))
>>> [ranking_of(HALVES, 'abc'), ranking_of(HALVES, 'abc', manner='on')]
[('', 'a', 'b', 'c', 'bc', 'ac', 'ab', 'abc'), ('', 'a', 'c', 'b', 'bc', 'ac', 'ab', 'abc')]
>>> [first_failing(HALVES, ('causes', ('b', 'c')), 'abc'), first_failing(HALVES, ('causes', ('b', 'c')), 'abc', manner='on')]
['b', 'c']
>>> ranking_of(LOOSE, 'a')
raises NotFalling(rule=0)

>>> from firstfailing.contests import contest, wins_of
>>> [contest(BOOK, 'bc', 'a', 'c'), contest(BACK, 'bc', 'a', 'c'), wins_of(BOOK, 'bc', 'c'), wins_of(BACK, 'bc', 'c')]
['c', 'a', ('a', 'ac', 'b', 'bc'), ('ac', 'bc')]
>>> DROPS = (LETTERS, (('drop', 1, 'left'),))
>>> [contest(DROPS, 'bb', 'a', 'ab'), contest(DROPS, 'bb', 'ab', 'ab'), wins_of(DROPS, 'bb', 'a')]
['b', 'bb', ()]

>>> from firstfailing.orderchecker import lets_order
>>> [lets_order(BOOK, 'bc', ('', 'c', 'a', 'b', 'ac', 'bc')), lets_order(DROPS, 'b', ('', 'b', 'a'))]
[6, 3]
>>> lets_order(BOOK, 'bc', ('', 'a', 'c', 'b', 'ac', 'bc'))
raises InvalidPaper(word='contest', at=('a', 'c'))

>>> from firstfailing.partingchecker import lets_parting
>>> from firstfailing.partings import parting_causes
>>> [parting_causes(BOOK, BACK, 'bc'), parting_causes(BOOK, DROPS, 'bb'), parting_causes(BOOK, BACK, 'bb'), parting_causes(HALVES, HALVES, 'abc', other_manner='on')]
[('a', 'c'), ('a',), None, ('b', 'c')]
>>> [lets_parting(BOOK, BACK, 'bc', ('causes', ('a', 'b', 'c'))), lets_parting(BOOK, BACK, 'c', ('alike', ('', 'c')))]
[False, True]
>>> lets_parting(BOOK, BACK, 'bc', ('alike', ('', 'c', 'a', 'b', 'ac', 'bc')))
raises InvalidPaper(word='other', at=('a', 'c'))

>>> from firstfailing.completeness import finds_least, is_complete, lacking_steps, missing_rules
>>> PUTS = (LETTERS, (('put', 'b', 'a', 'left'), ('put', 'a', '', 'right'), ('half', 'left')))
>>> [is_complete(BOOK), missing_rules(BOOK), missing_rules(DROPS), missing_rules(PUTS)]
[True, (), (('lower', 'left'),), (('drop', 1, 'left'),)]
>>> [lacking_steps(DROPS, 'bc'), lacking_steps(PUTS, 'ac'), lacking_steps(PUTS, 'ca'), finds_least(DROPS, 'aca'), finds_least(PUTS, 'ca')]
[('ac',), (), ('a',), True, False]

>>> from firstfailing.wishes import Wish, is_best, worst_causes
>>> wish = Wish(LETTERS, 1, 2, 3)
>>> [wish.key('bc'), wish.best(('ac', 'bb')), Wish.plain(LETTERS).weights, is_best(BACK, 'bc', wish), worst_causes(BOOK, 'bc', wish), worst_causes(DROPS, 'bb', wish)]
[(5, 'bc'), 'ac', (1, 2, 1), True, ('a', 'c'), ('a',)]

>>> from firstfailing.anyends import possible_ends, test_for, way_to
>>> [possible_ends(BOOK, 'bc'), way_to(BOOK, 'bc', 'bc'), way_to(BOOK, 'b', 'c')]
[('', 'a', 'ac', 'b', 'bc', 'c'), ('bc',), None]
>>> from firstfailing.walking import last_of
>>> last_of(BOOK, test_for(BOOK, 'bc', 'ac'), 'bc')
'ac'

>>> from firstfailing.noends import endless_test
>>> [endless_test(BOOK), endless_test(LOOSE)[1]]
[None, ('has', ('a', 'c'))]

>>> from firstfailing.mosttries import most_test, most_tries, most_tries_rising, tries_bound
>>> [most_tries(BOOK, 'bc'), most_tries_rising(BOOK, 'bc'), most_tries_rising(BOOK, 'bc', notes=True), tries_bound(BOOK, 'bc')]
[6, 5, 4, 12]
>>> from firstfailing.walking import tries_of
>>> tries_of(BOOK, most_test(BOOK, 'bc'), 'bc')
6

>>> from firstfailing.anyalike import case_paper, parts_any
>>> from firstfailing.casechecker import lets_cases
>>> [parts_any(BOOK, BOOK, 'bc'), lets_cases(BOOK, BACK, 'bc', ('parts', ('only', ('b', 'bc', 'c')))), lets_cases(BOOK, BOOK, 'a', ('alike', (('ask', '', 1, 2), ('end', ''), ('end', 'a'))))]
[None, False, True]
>>> lets_cases(BOOK, BOOK, 'a', ('alike', (('end', 'a'),)))
raises InvalidPaper(word='open', at=0)
>>> lets_cases(BOOK, BACK, 'bc', case_paper(BOOK, BACK, 'bc'))
False

>>> from firstfailing.skipping import Skipper
>>> skipper = Skipper(BOOK, 'bc')
>>> [skipper.question, skipper.answer(False), skipper.question, skipper.answer(False), skipper.question, skipper.answer(True), skipper.question]
['c', 'b', 'b', 'ac', 'ac', None, None]

>>> from firstfailing.keeping import is_kept, lost_step
>>> from firstfailing.makers import Maker
>>> PAIRS = Maker(('a', 'b', 'c'), (((('a', 1, 1),), 1), ((('b', 0, 2),), 0)))
>>> [lost_step(BOOK, PAIRS), is_kept((LETTERS, (('drop', 2, 'left'),)), PAIRS), list(PAIRS.made(4)), PAIRS.weight('abab')]
[('ab', 'a'), True, ['abab'], 4]
>>> Maker(('a', 'c'), (((('a', 0, 3), ('c', 0, 1)), 1),)).share('ac')
(3, 16)

>>> from firstfailing.trials import Trial
>>> trial = Trial(BOOK, 'bc')
>>> [trial.question, trial.ends_left(), trial.answer(False), trial.ends_left()]
['c', ('', 'a', 'ac', 'b', 'bc', 'c'), 'b', ('a', 'ac', 'b', 'bc')]

>>> trial = Trial(BOOK, 'bcb', manner='on')
>>> [trial.table(), trial.told('cb', False), trial.question, trial.answer(True)]
[['cb      0 -', 'bb      0 -', 'bc      0 -', 'acb     1 -', 'bca     1 -'], 'bb', 'bb', 'ab']
>>> [trial['ab'], trial['b'], trial['c'], trial.failing, trial.passing, trial.walk_now]
[None, False, False, ('bb',), ('cb',), ('bcb', 'bb')]

>>> from firstfailing.eventreadings import read_event
>>> [read_event('told - passes'), read_event('rule 0 drop 2 left'), read_event('answer fails')]
[('told', '', False), ('rule', ('drop', 2, 'left'), 0), ('answer', True)]
>>> read_event('rule 0 drop 0 left')
raises InvalidText(line=0, field=3)

>>> from firstfailing.desk import Desk
>>> from firstfailing.eventtexts import log_lines
>>> desk = Desk()
>>> [desk.say('\n'.join(log_lines((('trial', BOOK, 'bc', 'again'),)))), desk.say('question'), desk.say('answer passes'), desk.say('answer fails')]
['ok', 'c', 'b', 'a']
>>> [desk.say('known -'), desk.say('answer fails'), desk.say('ends'), desk.say('walk'), desk.say('log')]
['passes', '.', 'a', 'bc b a', 'answer passes / answer fails / answer fails']
"""


def examples():
    """The pairs of what is called and what is to come of it, None for a statement."""
    rows = [row for row in EXAMPLES.split("\n") if row]
    for k, row in enumerate(rows):
        if row.startswith(">>> "):
            follows = rows[k + 1] if k + 1 < len(rows) and not rows[k + 1].startswith(">>> ") else None
            yield row[4:], follows


class Examples(unittest.TestCase):
    def test_each_example(self):
        told = {}
        many = 0
        for call, wanted in examples():
            with self.subTest(call=call):
                if wanted is None:
                    exec(call, told)
                elif wanted.startswith("raises "):
                    self.raises(call, wanted[len("raises "):], told)
                else:
                    self.assertEqual(repr(eval(call, told)), repr(eval(wanted)))
                many += 1
        self.assertEqual(many, CALLS)

    def raises(self, call, wanted, told):
        """The call raises the error that is written."""
        error = eval(wanted, vars(errors))
        with self.assertRaises(type(error)) as caught:
            eval(call, told)
        self.assertIs(type(caught.exception), type(error))
        self.assertEqual(repr(vars(caught.exception)), repr(vars(error)))


if __name__ == "__main__":
    unittest.main()
