"""Every example, as the document prints it."""

import unittest

from tests.helpers import examples_in, run_example

PART_A = (
    ("A5", r"""
    >>> from stillrounds.books import alike_for, book_error, world_error
    >>> quiet, noting = (True, ()), (False, ("got lower", "sent higher"))
    >>> book = ((("G1", "S1"), ("S1", "S2")), (quiet, noting, quiet))
    >>> [book_error(value) for value in (book, ((), (quiet, quiet)), (book[0],), [book[0], book[1]], (book[0], [quiet, quiet]), (book[0][::-1], book[1]), (book[0], (quiet,)))]
    [None, None, 'form', 'form', 'form', 'tests', 'manners']
    >>> [book_error((tests, (quiet, quiet))) for tests in ((("S1", "G1"),), (("G1", "S1"), "S1"), (("G1", "S1"), ("G1", "S1")), ("G1", "S1"))]
    [('test', 0), ('test', 1), 'tests', ('test', 0)]
    >>> [book_error(((), (quiet, manner))) for manner in ((1, ()), (True, ("sent lower", "got lower")), (True, ["got lower"]), (True, ("got",)), (True,), (True, ("got lower", "got lower")))]
    [('manner', 1), ('manner', 1), ('manner', 1), ('manner', 1), ('manner', 1), ('manner', 1)]
    >>> [world_error(value) for value in (("slow", "alike"), ("at once", "anew"), ("slow",), ("fast", "alike"), ("at once", None), ["slow", "alike"])]
    [None, None, 'form', 'roads', 'tours', 'form']
    """),
    ("A6", r"""
    >>> alike_for((("G1", "S2"),), quiet, 3) == ((("G1", "S2"),), (quiet, quiet, quiet))
    True
    >>> alike_for((), quiet, 1)
    raises Unfit()
    >>> alike_for((), quiet, True)
    raises Unfit()
    """),
    ("A7", r"""
    >>> from stillrounds.booktexts import book_text, read_book, read_world, world_text
    >>> book_text(book), world_text(("at once", "anew"))
    ('tests G1=S1, S1=S2\nwaits\nany time: got lower, sent higher\nwaits', 'at once, anew')
    >>> read_book(book_text(book)) == book, read_book("tests none\nwaits\nwaits"), read_world("slow, alike")
    (True, ((), ((True, ()), (True, ()))), ('slow', 'alike'))
    >>> read_book("tests none\nwaits")
    raises BadBook('manners')
    >>> read_book("tests S1=S2, G1=S1\nwaits\nwaits")
    raises BadText(0)
    >>> read_book("tests none\nwaits\nwaits:")
    raises BadText(2)
    >>> read_book("tests none\nwaits\nwaits\n")
    raises BadText(3)
    >>> read_world("slow,alike")
    raises BadText(0)
    >>> read_book(None)
    raises BadText(0)
    """),
    ("A8", r"""
    >>> from stillrounds.knownbooks import known_book, known_names, known_worlds
    >>> known_names()
    ('colours', 'colours both ways', 'early sum', 'four counts', 'half sum', 'sent twice', 'sum and colours')
    >>> known_book("four counts", 3), known_worlds("half sum")
    (((('G1', 'S2'),), ((True, ()), (True, ()), (True, ()))), (('at once', 'alike'), ('slow', 'alike')))
    >>> known_book("colours", 2)
    ((), ((True, ('sent lower',)), (True, ('sent lower',))))
    >>> known_book("colour", 2)
    raises Unfit()
    >>> known_book("colours", 7)
    raises Unfit()
    """),
)

PART_B = (
    ("B2", r"""
    >>> from stillrounds.standings import standing_error, start
    >>> start((True, False))
    (((True, 0, 0, ()), (False, 0, 0, ())), (), ((), 0, 0, False), None, 'no')
    >>> [standing_error(many, start((True, False))) is None for many in (2, 3)], standing_error(3, start((True, False)))
    ([True, False], 'form')
    >>> sites, tour = start((False, False))[0], ((), 0, 0, False)
    >>> [standing_error(2, value) for value in ((sites, ((0, 1, 0),), tour, None, "no"), (sites, (), ((1, 1), 0, 0, False), None, "no"), (sites, (), tour, 0, "no"), (sites, (), tour, None, None), (sites[:1] + ((1, 0, 0, ()),), (), tour, None, "no"))]
    ['letters', 'tour', 'before', 'said', ('site', 1)]
    """),
    ("B4", r"""
    >>> from stillrounds.moving import after, deed_error, led, open_deeds
    >>> slow, quick, anew = ("slow", "alike"), ("at once", "alike"), ("slow", "anew")
    >>> four = ((("G1", "S2"),), ((True, ()), (True, ())))
    >>> sent = led(four, slow, (True, False), (("send", 0, 1), ("send", 0, 1), ("rest", 0)))
    >>> sent
    (((False, 2, 0, ('sent higher',)), (False, 0, 0, ())), ((0, 1, 2),), ((), 0, 0, False), None, 'no')
    >>> open_deeds(four, slow, sent)
    (('get', 0, 1), ('visit', 0))
    >>> [deed_error(four, slow, sent, value) for value in (("get", 0, 1), ("visit", 1), ("send", 0, 1), ("get", 1, 0), ("rest", 2), ("send", 0, 0), ("visit",), None)]
    [None, 'turn', 'rests', 'nothing', 'machine', 'machine', 'form', 'form']
    >>> one = start((True, False))
    >>> [deed_error(four, quick, one, value) for value in (("get", 0, 1), ("send", 0, 1), ("visit", 0), ("visit", 1))], deed_error(four, anew, one, ("visit", 1))
    (['roads', None, 'works', 'turn'], None)
    """),
    ("B5", r"""
    >>> after(four, slow, sent, ("get", 0, 1))
    (((False, 2, 0, ('sent higher',)), (True, 0, 1, ('got lower',))), ((0, 1, 1),), ((), 0, 0, False), None, 'no')
    >>> after(four, quick, one, ("send", 0, 1))
    (((True, 1, 0, ('sent higher',)), (True, 0, 1, ('got lower',))), (), ((), 0, 0, False), None, 'no')
    >>> rounds = (("send", 0, 1), ("rest", 0), ("visit", 0), ("visit", 1), ("visit", 0), ("visit", 1))
    >>> led(four, slow, (True, False), rounds)
    (((False, 1, 0, ()), (False, 0, 0, ())), ((0, 1, 1),), ((), 0, 0, False), (1, 0), 'no')
    >>> led(((), four[1]), slow, (True, False), rounds)
    (((False, 1, 0, ()), (False, 0, 0, ())), ((0, 1, 1),), ((0, 1), 1, 0, False), (1, 0), 'early')
    >>> led(four, slow, (True, False), rounds + (("get", 0, 1), ("rest", 1), ("visit", 0), ("visit", 1), ("visit", 0), ("visit", 1)))
    (((False, 1, 0, ()), (False, 0, 1, ())), (), ((0, 1), 1, 1, False), (1, 1), 'right')
    >>> led(four, slow, (True, False), (("send", 0, 1), ("visit", 0)))
    raises Refused(('visit', 0))
    """),
    ("B6", r"""
    >>> from stillrounds.runtexts import read_run, run_text
    >>> run_text((True, False), (("send", 0, 1), ("rest", 0), ("visit", 0))), run_text((False, False), ())
    ('start wr\nsend 0 1\nrest 0\nvisit 0', 'start rr')
    >>> read_run("start wr\nget 5 1")
    ((True, False), (('get', 5, 1),))
    >>> read_run("start w")
    raises BadText(0)
    >>> read_run("start wr\nvisit 6")
    raises BadText(1)
    >>> read_run("start wr\nrest 0\n")
    raises BadText(2)
    """),
)

PART_C = (
    ("C2", r"""
    >>> from stillrounds.rounds import holding, is_still, rounds_of
    >>> from stillrounds.moving import led
    >>> from stillrounds.standings import start
    >>> slow = ("slow", "alike")
    >>> four, none = ((("G1", "S2"),), ((True, ()), (True, ()))), ((), ((True, ()), (True, ())))
    >>> early = (("send", 0, 1), ("rest", 0), ("visit", 0), ("visit", 1), ("visit", 0), ("visit", 1))
    >>> [is_still(start(works)) for works in ((False, False), (True, False))], is_still(led(four, slow, (True, False), early))
    ([True, False], False)
    >>> holding((1, 0), (1, 0)), holding((2, 2), (4, 4)), holding((1, 1), (2, 1))
    ((('G1', 'G2'), ('S1', 'S2')), (('G1', 'S1'), ('G2', 'S2')), (('G1', 'G2'), ('G1', 'S1'), ('G2', 'S1')))
    >>> holding((0, 0), (0, 0))
    (('G1', 'G2'), ('G1', 'S1'), ('G1', 'S2'), ('G2', 'S1'), ('G2', 'S2'), ('S1', 'S2'))
    """),
    ("C3", r"""
    >>> rounds_of(four, slow, (True, False), early)
    (((0, 1), 1, 0, False, 'no'), ((0, 1), 1, 0, False, 'no'))
    >>> rounds_of(none, slow, (True, False), early)[1]
    ((0, 1), 1, 0, False, 'early')
    >>> cross = (("send", 1, 0), ("rest", 1), ("visit", 0), ("visit", 1), ("visit", 0), ("get", 1, 0), ("send", 0, 1), ("get", 0, 1), ("rest", 1), ("visit", 1))
    >>> alone, noted = ((("G2", "S2"),), ((True, ()), (True, ()))), ((("G2", "S2"),), ((True, ()), (True, ("got lower",))))
    >>> rounds_of(alone, slow, (False, True), cross)
    (((0, 1), 1, 0, False, 'no'), ((0, 1), 1, 1, False, 'early'))
    >>> rounds_of(noted, slow, (False, True), cross)
    (((0, 1), 1, 0, False, 'no'), ((0, 1), 1, 1, True, 'no'))
    """),
    ("C4", r"""
    >>> from stillrounds.lots import least_lot, lots
    >>> [len(lot) for lot in lots()], lots()[0], lots()[2]
    ([0, 6, 2, 1, 2, 1, 3, 1, 1], (), (('G1', 'G2'), ('S1', 'S2')))
    >>> [len(least_lot((test,))) for test in lots()[1]]
    [2, 1, 6, 1, 1, 1]
    >>> least_lot((("G2", "S1"), ("S1", "S2"))), least_lot((("G1", "S1"), ("S1", "S2"))) == lots()[1]
    ((('G2', 'S1'), ('G2', 'S2'), ('S1', 'S2')), True)
    """),
)

PART_D = (
    ("D2", r"""
    >>> from stillrounds.rows import rows
    >>> [len(rows((roads, tours))) for roads in ("slow", "at once") for tours in ("alike", "anew")]
    [11, 13, 10, 14]
    >>> rows(("slow", "alike"))[0], rows(("slow", "alike"))[6]
    (((('G1', 'G2'), ('S1', 'S2')), (), ''), ((('G1', 'S1'), ('G2', 'S2')), ((False, ('got lower', 'sent higher')),), ''))
    >>> rows(("at once", "alike"))[4]
    ((('G1', 'S1'), ('G2', 'S2')), ((False, ('got higher', 'sent higher')), (False, ('got lower', 'sent lower'))), 'below')
    >>> rows(("at once", "anew"))[11]
    ((('G1', 'S1'), ('G2', 'S2')), ((True, ('sent higher',)), (False, ('got lower',))), 'third')
    """),
    ("D3", r"""
    >>> from stillrounds.safety import falls, is_safe, safe_from
    >>> worlds = (("slow", "alike"), ("at once", "alike"), ("slow", "anew"), ("at once", "anew"))
    >>> fours = ((("G1", "S2"),), ((True, ()),) * 3)
    >>> [is_safe(fours, world) for world in worlds]
    [True, True, True, True]
    >>> summed = ((("G2", "S2"),), ((True, ()), (True, ("got lower",)), (True, ("got lower",))))
    >>> [falls(summed, world) for world in worlds]
    [(), (), (1, 3, 5), (4, 6)]
    >>> coloured = ((), ((True, ("sent lower",)),) * 3)
    >>> [falls(coloured, world) for world in worlds]
    [(0, 1, 3, 4, 5, 6), (), (0, 1, 2, 3, 4), (0, 1, 4, 5)]
    >>> falls(((("G2", "S2"),), ((True, ()), (True, ()), (True, ("got lower",)))), worlds[0]), falls(((), ((True, ()),) * 2), worlds[0])
    ((1, 5, 6), (0, 1, 3, 4, 5))
    >>> falls(((("G1", "S1"),), ((False, ("sent higher",)),) * 2), worlds[0]), falls(((("G2", "S2"),), ((False, ()), (False, ("got lower",)))), worlds[0])
    ((7, 9), ())
    >>> [safe_from((("G1", "S1"),), (True, notes), worlds[0]) for notes in (("got higher",), ("sent higher",), ())]
    [3, None, 2]
    >>> safe_from((("G2", "S1"),), (True, ()), worlds[1]), safe_from((("G1", "S1"),), (True, ()), worlds[1]), safe_from((), (True, ("sent lower",)), worlds[1])
    (3, 2, None)
    """),
    ("D4", r"""
    >>> from stillrounds.leasts import fewest_notes, needless
    >>> needless(((("G1", "S2"), ("G2", "S2")), ((True, ("got lower",)), (False, ()))), worlds[0])
    (('note', 0, 'got lower'), ('test', ('G2', 'S2')), ('waits', 0))
    >>> needless(summed, worlds[0]), needless(((("G2", "S2"),), ((True, ("got higher", "got lower")),) * 2), worlds[0])
    ((('waits', 0), ('waits', 1), ('waits', 2)), (('note', 0, 'got higher'), ('note', 0, 'got lower'), ('note', 1, 'got higher'), ('waits', 0), ('waits', 1)))
    >>> fewest_notes((("G2", "S2"),), 3, worlds[0]) == (2, summed), [fewest_notes((("G2", "S1"),), many, worlds[0])[0] for many in (2, 3, 4)]
    (True, [2, 4, 6])
    >>> fewest_notes((), 3, worlds[0]), fewest_notes((), 3, worlds[1])[0], fewest_notes((("G2", "S2"),), 3, worlds[2])[0], fewest_notes((("S1", "S2"),), 6, worlds[3])[0]
    (None, 2, 4, 0)
    >>> needless(coloured, worlds[0])
    raises Unfit()
    >>> fewest_notes((), 7, worlds[1])
    raises Unfit()
    """),
)

PART_E_AND_F = (
    ("E2", r"""
    >>> from stillrounds.losejudge import losing_error
    >>> from stillrounds.losing import losing
    >>> slow, once = ("slow", "alike"), ("at once", "alike")
    >>> calm, keen = (True, ()), (True, ("got lower",))
    >>> [losing(((("G1", "S2"),), (calm,) * many), slow) for many in (2, 3, 6)]
    [None, None, None]
    >>> losing(((("G2", "S2"),), (calm, keen)), slow), losing(((("S1", "S2"),), (calm, calm)), once)
    (None, None)
    >>> sums = ((("G2", "S2"),), (calm, calm))
    >>> [losing_error(sums, world, losing(sums, world)) for world in (slow, once, ("slow", "anew"), ("at once", "anew"))]
    [None, None, None, None]
    >>> colours = ((), ((True, ("sent lower",)),) * 4)
    >>> losing(colours, once), losing_error(colours, slow, losing(colours, slow))
    (None, None)
    """),
    ("E3", r"""
    >>> caught = ((False, True), (("send", 1, 0), ("rest", 1), ("visit", 0), ("visit", 1), ("visit", 0), ("get", 1, 0), ("send", 0, 1), ("get", 0, 1), ("rest", 1), ("visit", 1)))
    >>> losing_error(sums, slow, caught), losing_error(sums, once, caught), losing_error(((("G2", "S2"),), (calm, keen)), slow, caught)
    (None, ('deed', 2), 'whole')
    >>> works, deeds = caught
    >>> [losing_error(sums, slow, value) for value in (None, (works,), (works, list(deeds)), ((0, 1), deeds), (works[:1], deeds), (works, deeds[:9]), (works, ()))]
    ['form', 'form', 'form', 'works', 'works', 'whole', 'whole']
    >>> losing_error(sums, slow, (works, deeds[1:])), losing_error(sums, slow, (works, deeds[:5] + deeds[6:])), losing_error(sums, slow, (works, deeds + (None,)))
    (('deed', 4), ('deed', 5), ('deed', 10))
    >>> losing_error(sums, slow, (works, deeds + (("send", 0, 1),) * 10)), losing_error(sums, slow, (works, deeds + (("send", 0, 1),) * 11))
    (None, 'long')
    """),
    ("F2", r"""
    >>> from stillrounds.wandering import come, earliest
    >>> [come(sums, slow, (True, False), letters) for letters in (0, 1, 2)], [come(sums, slow, (True, True), letters) for letters in (0, 1, 2)]
    ([6, 25, 103], [9, 58, 269])
    >>> [come(sums, once, (True, False), letters) for letters in (0, 1, 2, 3)], come(((("G1", "S2"),), (calm, calm)), once, (True, False), 3)
    ([6, 15, 41, 107], 101)
    >>> earliest(sums, slow, 1), len(earliest(sums, slow, 2)[1]), earliest(sums, once, 3)
    (None, 10, None)
    >>> counts = ((("G1", "G2"), ("S1", "S2")), (calm, calm))
    >>> len(earliest(counts, slow, 1)[1]), earliest(counts, once, 3), losing_error(counts, slow, earliest(counts, slow, 1))
    (6, None, None)
    >>> come(sums, slow, (True, True), 4)
    raises Unfit()
    >>> come(sums, slow, (True, False), 3)
    raises TooMany(300)
    >>> earliest(counts, slow, 2)
    raises TooMany(300)
    """),
)

PART_G = (
    ("G2", r"""
    >>> from stillrounds.epochs import comes, list_error, sums_of, woken
    >>> some = ((0, 0, 1, 1), (1, 1, 0, 2))
    >>> [list_error(2, value) for value in (some, (), some[::-1], some + some, ((0, 0, 0, 1),), ((0, 3, 1, 1),), [some], some * 7)]
    [None, None, 'order', 'order', ('letter', 0), ('letter', 0), 'form', 'long']
    >>> woken(2, some), woken(2, ((1, 0, 0, 2), (0, 2, 1, 1))[::-1]), woken(2, ((0, 1, 1, 1), (1, 1, 0, 1)))
    (((0, None, 3), (0, 2, None)), ((0, None, 3), (0, 3, None)), ((0, None, None), (0, None, None)))
    """),
    ("G3", r"""
    >>> [comes(2, value) for value in (some, ((0, 1, 1, 1),), ((0, 0, 1, 0), (0, 1, 1, 1), (1, 0, 0, 1)), ((0, 2, 1, 1), (1, 0, 0, 2)), ((0, 1, 1, 1), (1, 1, 0, 1)), ((0, 0, 1, 2),), ((1, 2, 0, 0),))]
    [True, False, True, True, False, True, False]
    >>> sums_of(2, some), sums_of(2, ((0, 0, 1, 1), (0, 0, 1, 2), (1, 1, 0, 2))), sums_of(2, ((0, 2, 1, 1), (1, 0, 0, 2)))
    ((1, 0, 2, 1), (2, 0, 3, 1), (1, 0, 1, 1))
    """),
    ("G4", r"""
    >>> from stillrounds.epochruns import list_of, run_of
    >>> list_of(2, *run_of(2, some)) == some, run_of(2, ((0, 1, 1, 1),))
    (True, None)
    >>> list_of(2, (True, False), (("send", 0, 1), ("rest", 0), ("visit", 0), ("visit", 1), ("get", 0, 1), ("send", 1, 0), ("rest", 1), ("get", 1, 0), ("send", 0, 1), ("rest", 0), ("visit", 0), ("visit", 1)))
    ((0, 0, 1, 1), (0, 1, 1, 3), (1, 1, 0, 1))
    >>> crossed = ((0, 0, 1, 2), (0, 1, 1, 1), (1, 0, 0, 1))
    >>> comes(2, crossed), list_of(2, *run_of(2, crossed))
    (True, ((0, 0, 1, 1), (0, 1, 1, 2), (1, 0, 0, 1)))
    """),
)

PART_H = (
    ("H3", r"""
    >>> from stillrounds.moving import led
    >>> from stillrounds.soon import longest, longest_error, most_visits, visits_left
    >>> from stillrounds.standings import start
    >>> rests, slow, once = (True, ()), ("slow", "alike"), ("at once", "alike")
    >>> four, balance = ((("G1", "S2"),), (rests, rests)), ((("G2", "S2"),), (rests, rests))
    >>> noting = ((("G2", "S2"),), ((True, ("got lower",)), (True, ("got lower",))))
    >>> visits_left(four, slow, start((False, False))), visits_left(balance, slow, start((False, False)))
    (4, 4)
    >>> woken = (("send", 1, 0), ("rest", 1), ("visit", 0), ("get", 1, 0), ("rest", 0))
    >>> [visits_left(book, slow, led(book, slow, (False, True), woken)) for book in (four, balance, noting)]
    [5, 3, 3]
    >>> [most_visits(book, slow) for book in (four, balance, noting)], most_visits(noting, ("slow", "anew"))
    ([5, 4, 4], 5)
    >>> three = ((("G2", "S2"),), (rests,) + noting[1])
    >>> most_visits(three, slow), most_visits(three, ("slow", "anew")), most_visits(((), (rests, (True, ("sent lower",)))), once)
    (7, 8, 4)
    >>> visits_left(four, slow, led(four, slow, (False, True), woken[:4]))
    raises Unfit()
    """),
    ("H4", r"""
    >>> longest_error(four, slow, ((False, True), woken)), longest_error(noting, slow, ((False, True), woken)), longest_error(four, slow, longest(four, slow))
    (None, 'fewer', None)
    >>> later = (("send", 0, 1), ("rest", 0), ("visit", 0), ("visit", 1), ("get", 0, 1), ("rest", 1))
    >>> longest_error(noting, slow, ((True, False), later)), [longest_error(noting, slow, value) for value in (None, ((True,), ()), ((True, False), later[:5]), ((False, False), later))]
    (None, ['form', 'form', 'restless', ('deed', 0)])
    >>> longest_error(balance, slow, ((False, False), ())), longest_error(balance, slow, ((False, False), (("visit", 0), ("visit", 1)) * 2))
    (None, 'said')
    """),
)

PART_I = (
    ("I2", r"""
    >>> from stillrounds.carrying import carried, confusing, confusing_error, kept, suffices, told_apart
    >>> balance, four, both = (("G2", "S2"),), (("G1", "S2"),), (("G1", "S1"), ("G2", "S2"))
    >>> [carried(tests) for tests in ((), balance, four, both, (("G1", "G2"),), (("S1", "S2"),), (("G1", "G2"), ("G1", "S1")))]
    [(), ('difference',), ('got', 'sent'), ('difference',), ('got',), ('sent',), ('got', 'sent')]
    >>> [kept(tests) for tests in ((), balance, four, both, (("G1", "G2"), ("G1", "S1")), (("G1", "G2"), ("G2", "S1")), (("G1", "G2"), ("S1", "S2")))]
    [(False, ()), (False, ()), (False, ('got',)), (True, ()), (True, ('got',)), (True, ('got',)), (False, ('got', 'sent'))]
    """),
    ("I3", r"""
    >>> [suffices(tests, ((1, -1),)) for tests in (balance, both, four, (("G1", "G2"),), ())]
    [True, True, False, False, True]
    >>> suffices(four, ((2, 1), (1, 1))), suffices(four, ((2, 1), (4, 2))), suffices(balance, ((3, -3),)), suffices((("G1", "G2"),), ((1, 1),)), suffices((), ())
    (True, False, True, False, True)
    >>> confusing(balance, ((1, -1),)), confusing_error(four, ((1, -1),), confusing(four, ((1, -1),)))
    (None, None)
    >>> [confusing_error(four, ((1, -1),), value) for value in (((2, 2, 2, 2), (2, 2, 3, 3)), ((2, 2, 2, 2), (3, 2, 2, 2)), ((2, 2, 2, 2), (2, 2, 3, 2)), ((0, 2, 0, 2), (1, 3, 0, 2)), ((2, 2, 2, 2),), ((1, 1, 1, True), (1, 1, 2, 2)))]
    [None, ('before', 0), ('now', 0), 'alike', 'form', 'form']
    """),
    ("I4", r"""
    >>> told_apart(balance, (1, 2), (3, 4)), told_apart(both, (1, 2), (3, 4)), told_apart(four, (1, 2), (3, 2)), told_apart((), (0, 0), (1, 1))
    (None, None, None, None)
    >>> sums = told_apart(four, (2, 1), (2, 3))
    >>> sums[0] in (1, 3), told_apart(both, (2, 2), (1, 2))[0] == told_apart(both, (2, 2), (1, 2))[1]
    (True, True)
    """),
)

PART_J = (
    ("J2", r"""
    >>> from stillrounds.whenever import parting, parting_error, says_whenever
    >>> rests, got, sent = (True, ()), (True, ("got lower",)), (True, ("sent lower",))
    >>> four, balance, noting, twice = ((("G1", "S2"),), (rests, rests)), ((("G2", "S2"),), (rests, rests)), ((("G2", "S2"),), (got, got)), ((("S1", "S2"),), (rests, rests))
    >>> [says_whenever(four, book) for book in (four, balance, noting, twice)], [says_whenever(book, four) for book in (balance, noting, twice)]
    ([True, True, True, True], [False, False, False])
    >>> says_whenever(noting, balance), says_whenever(balance, noting), says_whenever(noting, twice), says_whenever(balance, twice), says_whenever(twice, balance)
    (True, False, False, False, False)
    >>> says_whenever(((("G1", "G2"),), (rests, rests)), twice), says_whenever(twice, ((("G1", "G2"),), (rests, rests)))
    (True, False)
    >>> says_whenever(four, ((("G1", "S2"),), (rests,) * 3))
    raises Unfit()
    >>> says_whenever(four, ((("G1", "S2"),), (rests, (False, ()))))
    raises Unfit()
    """),
    ("J3", r"""
    >>> late = (("send", 1, 0), ("rest", 1), ("visit", 0), ("visit", 1), ("get", 1, 0), ("rest", 0), ("visit", 0), ("visit", 1))
    >>> parting_error(noting, four, ((False, True), late)), parting_error(balance, twice, ((False, True), late)), parting_error(noting, four, parting(noting, four))
    (None, 'other', None)
    >>> crossing = (("send", 1, 0), ("rest", 1), ("visit", 0), ("visit", 1), ("visit", 0), ("get", 1, 0), ("send", 0, 1), ("get", 0, 1), ("rest", 1), ("visit", 1))
    >>> parting_error(balance, noting, ((False, True), crossing)), parting_error(balance, twice, ((False, True), crossing)), parting(four, twice)
    (None, 'other', None)
    >>> [parting_error(balance, noting, value) for value in (None, ((True,), ()), ((False, False), late), ((False, True), late[:4]), ((False, True), late[:4] + (("visit", 0), ("visit", 1))))]
    ['form', 'form', ('deed', 0), 'visits', 'one']
    """),
)

PART_K = (
    ("K3", r"""
    >>> from stillrounds.keepers import Keeper
    >>> quiet, slow = (True, ()), ("slow", "alike")
    >>> counted = ((("G1", "S1"),), (quiet, quiet))
    >>> k = Keeper(counted, slow, (True, False))
    >>> [k.do(("send", 0, 1)), k.do(("rest", 0)), k.version, k.deeds, k.undone, k.still()]
    [1, 2, 2, (('send', 0, 1), ('rest', 0)), 0, False]
    >>> k.standing[:2]
    (((False, 1, 0, ('sent higher',)), (False, 0, 0, ())), ((0, 1, 1),))
    >>> [k.undo(), k.undone, k.standing[0][0], k.redo(), k.undone, k.do(("get", 0, 1)), k.standing[0][1], k.standing[1]]
    [1, 1, (True, 1, 0, ('sent higher',)), 2, 0, 3, (True, 0, 1, ('got lower',)), ()]
    >>> [k.do(("visit", 0)), k.do(("rest", 1)), k.do(("visit", 1)), k.standing[2:]]
    [4, 5, 6, (((), 0, 0, False), (1, 1), 'no')]
    >>> [k.do(("visit", 0)), k.do(("visit", 1)), k.standing[2:], k.still()]
    [7, 8, (((0, 1), 1, 1, False), (1, 1), 'right'), True]
    >>> k.opened(), Keeper(counted, slow, (True, False)) == k
    ((), False)
    >>> k.do(("visit", 0))
    raises Refused(('visit', 0))
    >>> k.do(["rest", 0])
    raises Refused(['rest', 0])
    >>> k.redo()
    raises NothingToRedo()
    >>> Keeper(counted, slow, (True, False)).undo()
    raises NothingToUndo()
    >>> Keeper(counted, slow, (True,))
    raises Unfit()
    >>> Keeper((counted[0], ()), slow, (True, False))
    raises BadBook('manners')
    >>> j = Keeper(counted, slow, (True, False))
    >>> [j.do(deed) for deed in (("rest", 0), ("visit", 0))], j.twin() == j, j.undo(), j.undo(), j.undone
    ([1, 2], True, 1, 0, 2)
    >>> [j.do(("rest", 0)), j.undone]
    [1, 0]
    """),
    ("K4", r"""
    >>> from stillrounds.logtexts import keeper_behind, log_text, read_log
    >>> some = (("do", ("send", 0, 1)), ("undo",), ("redo",), ("do", ("rest", 0)))
    >>> log_text(some), log_text(())
    ('send 0 1\nundo\nredo\nrest 0\n', '')
    >>> read_log(2, log_text(some)) == some, keeper_behind(counted, slow, (True, False), some).deeds, read_log(3, "visit 2")
    (True, (('send', 0, 1), ('rest', 0)), (('do', ('visit', 2)),))
    >>> read_log(2, "visit 2")
    raises BadText(0)
    >>> read_log(2, "rest 0\nsend 0 0\n")
    raises BadText(1)
    >>> read_log(2, "rest 0\n\n")
    raises BadText(1)
    >>> keeper_behind(counted, slow, (True, False), (("undo",),))
    raises BadLog(0)
    >>> keeper_behind(counted, slow, (True, False), (("do", ("rest", 0)), ("do", ("rest", 0))))
    raises BadLog(1)
    >>> keeper_behind(counted, slow, (True, False), [])
    raises BadLog(0)
    """),
)

PART_L = (
    ("L2", r"""
    >>> from stillrounds.shells import Shell
    >>> s = Shell()
    >>> [s.say(line) for line in ("safe", "start wr", "said", "text", "world slow, alike", "falls", "book tests G1=S1\nwaits\nwaits", "falls", "safe", "known 3 four counts", "safe", "text")]
    ['no book', 'no book', 'no run', 'no book', 'slow, alike', 'no book', '2', '4 5', 'no', '3', 'yes', 'tests G1=S2\nwaits\nwaits\nwaits']
    >>> [s.say(line) for line in ("known 2 early sum", "start w", "start wr", "send 0 1", "rest 0", "letters", "machine 0", "open", "get 0 1", "machine 1", "visit 0", "tour")]
    ['2', 'error Unfit', 'begun', 'version 1', 'version 2', '0>1 1', 'rests 1 0: sent higher', 'get 0 1, visit 0', 'version 3', 'works 0 1: got lower', 'version 4', '0; 1 0; spoilt']
    >>> [s.say(line) for line in ("visit 1", "rest 1", "visit 1", "before", "tour", "visit 0", "visit 1", "said", "still", "tour", "open", "visit 0")]
    ['error Refused', 'version 5', 'version 6', '1 1', 'none; 0 0', 'version 7', 'version 8', 'right', 'yes', '0 1; 1 1', 'none', 'error Refused']
    >>> [s.say(line) for line in ("undo", "said", "redo", "redo", "machine 2", "run")]
    ['version 7', 'no', 'version 8', 'error NothingToRedo', 'error Unfit', 'start wr\nsend 0 1\nrest 0\nget 0 1\nvisit 0\nrest 1\nvisit 1\nvisit 0\nvisit 1']
    >>> [s.say(line) for line in ("book tests none\nwaits", "book tests", "world slow", "known 9 colours", "known 2 colour", "send 0 7", "send 0", "Visit 0", "start", "start wx", "said ", None)]
    ['error BadBook', 'error BadText', 'error BadText', 'error Unfit', 'error Unfit', 'error Refused', 'what', 'what', 'what', 'what', 'what', 'what']
    >>> [s.say(line) for line in ("said", "world at once, alike", "said", "safe")]
    ['right', 'at once, alike', 'no run', 'yes']
    """),
)


class Examples(unittest.TestCase):
    def show(self, part):
        """Names that were set once stay set in a part."""
        names = {}
        for promise, text in part:
            for source, printed in examples_in(text):
                with self.subTest(promise=promise, example=source):
                    self.assertEqual(run_example(names, source), printed)

    def test_books_and_worlds(self):
        self.show(PART_A)

    def test_standings_and_deeds(self):
        self.show(PART_B)

    def test_rounds(self):
        self.show(PART_C)

    def test_safety(self):
        self.show(PART_D)

    def test_losing_and_wandering(self):
        self.show(PART_E_AND_F)

    def test_epochs(self):
        self.show(PART_G)

    def test_soon(self):
        self.show(PART_H)

    def test_carrying(self):
        self.show(PART_I)

    def test_whenever(self):
        self.show(PART_J)

    def test_keepers_and_logs(self):
        self.show(PART_K)

    def test_shells(self):
        self.show(PART_L)

    def test_a_wrong_example_would_be_seen(self):
        self.assertNotEqual(run_example({}, "(True, 0)"), "(1, 0)")
        self.assertEqual(examples_in(">>> 1 + 1\n2\n>>> x = 1"), [["1 + 1", "2"], ["x = 1", None]])
