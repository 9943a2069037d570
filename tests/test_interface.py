"""The names, arguments and places of the interface of the document."""

import importlib
import inspect
import unittest

from freshplaces.actions import candidates
from freshplaces.cheapest import cheapest_paper
from freshplaces.console import Console
from freshplaces.ledgers import ledger
from freshplaces.machine import Machine
from freshplaces.papers import paper
from freshplaces.programs import Program
from freshplaces.questions import where
from freshplaces.sessions import Session
from freshplaces.spaces import Space
from freshplaces.states import States

FUNCTIONS = {
    'rows': 'reduced(rows, width); kernel(rows, width); product(one, other)',
    'texts': 'parse(text); parse_procedure(text); is_name(value)',
    'printing': 'show(tree); show_expression(expression)',
    'formulas': 'unfolded(program, name); factor_of(program, name, base); sources(program, name)',
    'actions': 'is_action(program, value); candidates(program); size_of_action(program, action); '
               'cost(program, updates, weights=None); updated(program, updates); anew(program)',
    'carries': 'changing(program, kept); change_at(program, name, place, kept); all_carried(program, kept)',
    'states': "is_right(program, updates=(), start='right', faults=0); tolerance(program, updates=(), start='right')",
    'papers': "paper(program, updates=(), start='right', faults=0); is_paper(program, updates, value, start='right', faults=0)",
    'labels': "coarse(program, kept, *, weights=None, start='right'); flow_amount(program, kept, value, *, weights=None, "
              "start='right'); keeps_labels(program, kept, updates=(), *, start='right')",
    'cheapest': "cheapest(program, candidates, *, weights=None, start='right', faults=0); cheapest_paper(program, candidates, *, "
                "weights=None, start='right', faults=0); is_cheapest(program, candidates, value, *, weights=None, start='right', "
                "faults=0); harmful(program, updates, action, *, start='right', faults=0); "
                "spare(program, updates, *, start='right', faults=0)",
    'needs': 'needs(program, name, updates=()); leaves(program, name, kept, updates=())',
    'handlers': "parted(program, updates); prices(program, candidates, *, weights=None, start='right'); without(program, name); "
                "blamed(program, updates=(), *, start='right')",
    'sessions': "unchanged(old, new, *, start='right')",
    'journals': 'event_text(event); read_event(text); journal_text(events); appended(text, event); recovered(text)',
    'ledgers': "ledger(session); is_ledger(program, pool, value, *, start='right')",
    'campaigns': 'campaign(program, entry, most, updates=(), *, inputs=(0, 1)); exposed(program, entry, most, updates=(), *, '
                 'inputs=(0, 1)); counted(program, entry, runs)',
    'questions': 'where(**wanted); read_condition(text); rows_of(program, updates=()); '
                 'selected(program, condition, updates=()); ask(program, text, updates=())',
}
# For each class its methods; the first one tells how it is called.
CLASSES = {
    'spaces.Space': '__init__(self, width, rows); is_within(self, other); __len__(self); __eq__(self, other); __or__(self, other)',
    'programs.Program': '__init__(self, tree); tree(self); formula(self, kept); block(self, name); statements(self, name); '
                        'callees(self, name); reached(self, name); extent(self, name); uses(self, name); '
                        'replaced(self, name, block); __contains__(self, name); __len__(self); __eq__(self, other); read(cls, text)',
    'machine.Machine': '__init__(self, program, updates=()); __call__(self, entry, choices, missed=()); '
                       'stale(self, entry, choices, missed=()); visits(self, entry, choices); work(self, entry, choices, missed=()); '
                       'runs(self, entry, most, inputs=(0, 1)); within(self, updates, call)',
    'states.States': "__init__(self, program, updates=(), start='right', faults=0); space(self, name, place); "
                     'equations(self, name, place); arrived(self, name, place); stale(self, name, place, kept); '
                     'is_right(self, name, place, kept); uses(self); stale_uses(self); right_at_end(self)',
    'sessions.Session': "__init__(self, program, pool=(), *, start='right'); weights(self); cost(self); perform(self, event); "
                        "journal(self); trial(self, events, call); replayed(cls, program, pool, events, *, start='right'); "
                        "recovered(cls, program, pool, text, *, start='right')",
    'questions.Condition': '__call__(self, row); __and__(self, other); __or__(self, other); __invert__(self); __eq__(self, other); '
                           'parts(self)',
    'console.Console': '__init__(self); execute(self, command)',
}
PROPERTIES = {
    'spaces.Space': 'width rows', 'programs.Program': 'base kept handlers procedures start', 'machine.Machine': 'updates',
    'sessions.Session': 'program pool updates',
}


def found_in(module, name):
    return getattr(importlib.import_module('freshplaces.' + module), name)


class Names(unittest.TestCase):
    def test_functions(self):
        for module, lines in FUNCTIONS.items():
            for line in lines.split('; '):
                name = line[:line.index('(')]
                function = found_in(module, name)
                self.assertEqual(name + str(inspect.signature(function)), line)
                self.assertEqual(function.__module__, 'freshplaces.' + module)

    def test_classes(self):
        for path, lines in CLASSES.items():
            module, name = path.split('.')
            known = found_in(module, name)
            self.assertEqual(known.__module__, 'freshplaces.' + module)
            for line in lines.split('; '):
                method = line[:line.index('(')]
                function = vars(known)[method]
                is_of_class = line[len(method) + 1:].startswith('cls')
                self.assertIs(isinstance(function, classmethod), is_of_class)
                function = function.__func__ if is_of_class else function
                self.assertEqual(method + str(inspect.signature(function)), line)

    def test_properties(self):
        for path, names in PROPERTIES.items():
            for name in names.split():
                self.assertIsInstance(vars(found_in(*path.split('.')))[name], property)

    def test_contains(self):
        self.assertIn('__contains__', vars(Space))
        self.assertEqual(len(inspect.signature(Space.__contains__).parameters), 2)

    def test_generators(self):
        for function in [Program.statements, Machine.runs, found_in('campaigns', 'campaign'), found_in('questions', 'selected')]:
            self.assertTrue(inspect.isgeneratorfunction(function))


class ByName(unittest.TestCase):
    """Each function and method, called with all arguments by name, the last one first."""

    program = Program.read('base a b kept k = a + b kept j = a handlers h def main { while { a = ? } pause call p tell k tell j } '
                           'def h { b = 1 } def p { a = 2 } def far { tell k }')
    some = tuple(candidates(program))[:3]
    weights = {('main', 1): 2, ('p', 0): 3}
    every = tuple(candidates(program))[::2]

    def check(self, function, /, **arguments):
        """The result with all arguments by name, the last one first, is that with as many by position as may be."""
        parameters = inspect.signature(function).parameters
        self.assertEqual(list(parameters), list(arguments))
        plain = [name for name in parameters if parameters[name].kind == inspect.Parameter.POSITIONAL_OR_KEYWORD]
        rest = {name: value for name, value in arguments.items() if name not in plain}
        found = [function(**{name: arguments[name] for name in reversed(list(arguments))}),
                 function(*[arguments[name] for name in plain], **rest)]
        if inspect.isgeneratorfunction(function):
            found = [list(one) for one in found]
        self.assertEqual(found[0], found[1])
        return found[0]

    def functions(self, module, *names):
        return [found_in(module, name) for name in names]

    def test_rows_and_texts(self):
        reduced, kernel, product = self.functions('rows', 'reduced', 'kernel', 'product')
        self.check(reduced, rows=[(2, 4), (1, 3)], width=2)
        self.check(kernel, rows=[(2, 4, 0)], width=3)
        self.check(product, one=(1, 2), other=(3, 4))
        self.check(Space, width=2, rows=[(1, 2)])
        self.check(Space(2, [(1, 2)]).is_within, other=Space(2, [(2, 4)]))
        parse, parse_procedure, is_name = self.functions('texts', 'parse', 'parse_procedure', 'is_name')
        self.check(parse, text='base a def m { }')
        self.check(parse_procedure, text='def m { }')
        self.check(is_name, value='m')
        show, show_expression = self.functions('printing', 'show', 'show_expression')
        self.check(show, tree=self.program.tree())
        self.check(show_expression, expression=(1, (('a', 2),)))

    def test_programs(self):
        self.check(Program, tree=self.program.tree())
        self.check(Program.read, text='base a def m { }')
        for method in (self.program.statements, self.program.callees, self.program.reached, self.program.extent, self.program.uses,
                       self.program.block):
            self.check(method, name='main')
        self.check(self.program.formula, kept='k')
        self.check(self.program.replaced, name='p', block=())
        unfolded, factor_of, sources = self.functions('formulas', 'unfolded', 'factor_of', 'sources')
        self.check(unfolded, program=self.program, name='k')
        self.check(factor_of, program=self.program, name='k', base='b')
        self.check(sources, program=self.program, name='k')

    def test_actions_and_carries(self):
        is_action, size_of_action = self.functions('actions', 'is_action', 'size_of_action')
        cost, updated, anew = self.functions('actions', 'cost', 'updated', 'anew')
        self.check(is_action, program=self.program, value=self.some[0])
        self.check(candidates, program=self.program)
        self.check(size_of_action, program=self.program, action=self.some[0])
        self.check(cost, program=self.program, updates=self.some, weights=self.weights)
        self.check(updated, program=self.program, updates=self.some)
        self.check(anew, program=self.program)
        changing, change_at, all_carried = self.functions('carries', 'changing', 'change_at', 'all_carried')
        self.check(changing, program=self.program, kept='k')
        self.check(change_at, program=self.program, name='p', place=0, kept='k')
        self.check(all_carried, program=self.program, kept='k')

    def test_runs(self):
        machine = Machine(updates=self.some, program=self.program)
        for method in (machine.__call__, machine.stale, machine.work):
            self.check(method, entry=(1, 2), choices=[1, 5, 0, 1], missed=(0,))
        self.check(machine.visits, entry=(1, 2), choices=[1, 5, 0, 1])
        self.check(machine.runs, entry=(1, 2), most=3, inputs=(2, 3))
        self.check(machine.within, updates=(), call=lambda: machine.updates)
        campaign, exposed, counted = self.functions('campaigns', 'campaign', 'exposed', 'counted')
        self.check(campaign, program=self.program, entry=(1, 2), most=2, updates=self.some, inputs=(5,))
        self.check(exposed, program=self.program, entry=(1, 2), most=2, updates=self.some, inputs=(5,))
        self.check(counted, program=self.program, entry=(1, 2), runs=[[1, 2], []])

    def test_states_and_papers(self):
        states = States(faults=1, start='any', updates=self.some, program=self.program)
        for method in (states.space, states.equations, states.arrived):
            self.check(method, name='main', place=4)
        for method in (states.stale, states.is_right):
            self.check(method, name='main', place=4, kept='k')
        is_right, tolerance = self.functions('states', 'is_right', 'tolerance')
        self.check(is_right, program=self.program, updates=self.some, start='any', faults=2)
        self.check(tolerance, program=self.program, updates=self.some, start='any')
        every = tuple(candidates(self.program))
        value = self.check(paper, program=self.program, updates=every, start='any', faults=0)
        self.check(found_in('papers', 'is_paper'), program=self.program, updates=every, value=value, start='any', faults=0)

    def test_cheapest(self):
        coarse, flow_amount, keeps_labels = self.functions('labels', 'coarse', 'flow_amount', 'keeps_labels')
        updates, flow = self.check(coarse, program=self.program, kept='k', weights=self.weights, start='any')
        self.check(flow_amount, program=self.program, kept='k', value=flow, weights=self.weights, start='any')
        self.check(keeps_labels, program=self.program, kept='k', updates=updates, start='any')
        cheapest, is_cheapest, harmful, spare = self.functions('cheapest', 'cheapest', 'is_cheapest', 'harmful', 'spare')
        others = {'program': self.program, 'candidates': self.every, 'weights': self.weights, 'start': 'any', 'faults': 1}
        self.check(cheapest, **others)
        value = self.check(cheapest_paper, **others)
        self.check(is_cheapest, program=self.program, candidates=self.every, value=value, weights=self.weights, start='any', faults=1)
        self.check(harmful, program=self.program, updates=self.some, action=self.every[1], start='any', faults=1)
        self.check(spare, program=self.program, updates=self.every, start='any', faults=1)

    def test_needs_and_handlers(self):
        needs, leaves = self.functions('needs', 'needs', 'leaves')
        self.check(needs, program=self.program, name='p', updates=self.some)
        self.check(leaves, program=self.program, name='p', kept='k', updates=self.some)
        parted, prices, without, blamed = self.functions('handlers', 'parted', 'prices', 'without', 'blamed')
        self.check(parted, program=self.program, updates=self.some)
        self.check(prices, program=self.program, candidates=self.every, weights=self.weights, start='any')
        self.check(without, program=self.program, name='h')
        self.check(blamed, program=self.program, updates=self.some, start='any')

    def test_sessions(self):
        events = [('offer', self.some[0]), ('weigh', 'p', 0, 2), ('back',)]
        session = Session(start='any', pool=(), program=self.program)
        for event in events:
            session.perform(event=event)
        event_text, read_event, journal_text, appended, recovered = self.functions(
            'journals', 'event_text', 'read_event', 'journal_text', 'appended', 'recovered')
        self.check(event_text, event=events[0])
        self.check(read_event, text='back')
        text = self.check(journal_text, events=events)
        self.check(appended, text=text, event=events[1])
        self.check(recovered, text=text)
        self.assertEqual(Session.replayed(start='any', events=events, pool=(), program=self.program).journal(), events)
        self.assertEqual(Session.recovered(start='any', text=text, pool=(), program=self.program).journal(), events)
        self.check(session.trial, events=events[1:2], call=lambda: session.journal())
        self.check(found_in('sessions', 'unchanged'), old=self.program, new=session.program, start='any')
        value = self.check(ledger, session=session)
        self.assertTrue(self.check(found_in('ledgers', 'is_ledger'), program=self.program, pool=(), value=value, start='any'))

    def test_questions_and_console(self):
        read_condition, rows_of, selected, ask = self.functions('questions', 'read_condition', 'rows_of', 'selected', 'ask')
        condition = self.check(read_condition, text='kept k or place 3')
        self.assertEqual(where(place=3, kept='k'), where(**{'place': 3, 'kept': 'k'}))
        row = self.check(rows_of, program=self.program, updates=self.some)[0]
        self.check(condition.__call__, row=row)
        self.check(selected, program=self.program, condition=condition, updates=self.some)
        self.check(ask, program=self.program, text='count any', updates=self.some)
        self.check(Console().execute, command='ask count any')


if __name__ == '__main__':
    unittest.main()
