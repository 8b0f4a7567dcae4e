"""The interface: each name in the very file under which it is listed, with its arguments; each method in its own class."""

import importlib
import inspect
import unittest

INTERFACE = {
    "errors": "PullError InvalidTest(test) InvalidNet(at) InvalidName(name) InvalidBound(part) InvalidSchedule(at) "
              "InvalidEvent(number) InvalidCall(call) InvalidRecord(at) InvalidRule(rule) InvalidText(line,word) LimitExceeded(limit)",
    "wholes": "is_integer(value)",
    "conditions": "passes(test,item)",
    "nets": "Net(nodes) outlets(net) sources_of(net,name) cells(net) weight(net) loops(net)",
    "machines": "Machine(net)",
    "schedules": "check_schedule(net,steps) run(net,steps) tallies(net,steps) done_steps(net,steps) "
                 "first_round(net,steps,outlet,result)",
    "items": "item_at(net,outlet,index) item_count(net,outlet) first_passing(net,outlet,test,start) "
             "count_passing(net,outlet,test,many) window(net,outlet,first,many) greatest_item(net,outlet,many)",
    "demands": "needed(net,outlet,items) spent(net,outlet,first,after) items_ahead(net,outlet,source,number) "
               "served(net,outlet,source,number) dearest(net,outlet,source,pulls)",
    "splits": "ports(net,split) places(net,steps,split) greatest_size(net,steps,split) first_above(net,steps,split,bound) "
              "pulls_within(net,steps,split,outlet,bound) endless_size(net,steps,split) order_size(net,split,order) "
              "best_order(net,split,goals)",
    "failing": "error_ways(net,name) raised(net,steps) exposure(net,steps,name) error_places(net,steps) note_places(net,steps) "
               "ended_nodes(net,steps) close_effect(net,steps,outlet)",
    "events": "event_at(net,steps,number) event_count(net,steps) events_from(net,steps,first,many) "
              "count_events(net,steps,sort,name) event_of(net,steps,sort,name,index) state_behind(net,steps,number)",
    "comparing": "first_difference(one,outlet,other,place,*,first=0) first_read_difference(one,outlet,other,place,source) "
                 "agreements(one,outlet,other,place,n) same_results(one,other)",
    "rules": "rule_names() sites(net,rule) applied(net,rule,name) keeps(net,rule,name) normal(net) "
             "telling_row(one,other,items,most) telling_reads(one,other,items,most)",
    "inferring": "record_over(kind,parameters,results,many) contradicted(kind,parameters,record) fitting(kind,parameters,record) "
                 "telling_pull(one,other)",
    "playing": "Playing(net) replay(net,log)",
    "texts": "format_net(net) parse_net(text) renamed(net,names)",
}

METHODS = {
    ("nets", "Net"): "node_list() __len__() __contains__(name) __getitem__(name) __eq__(other)",
    ("machines", "Machine"): "pull(outlet) close(outlet) pull_times(outlet,n) reads(name) buffer(name) notes() ended(outlet) stuck() "
                             "copy()",
    ("playing", "Playing"): "base_net() present() set_breaks(breaks) go(outlet,n) close(outlet) log() undo(count) __eq__(other)",
}


def arguments_of(call):
    """Return the arguments as they stand in the table above."""
    return str(inspect.signature(call)).replace(" ", "")


class InterfaceTest(unittest.TestCase):

    def test_names(self):
        for file, row in INTERFACE.items():
            module = importlib.import_module("pullworks." + file)
            for entry in row.split():
                name, _, arguments = entry.partition("(")
                found = getattr(module, name)
                self.assertEqual((found.__module__, found.__name__), (module.__name__, name))
                if arguments:
                    self.assertEqual(arguments_of(found), "(" + arguments, name)

    def test_methods_in_their_own_classes(self):
        for (file, name), row in METHODS.items():
            found = getattr(importlib.import_module("pullworks." + file), name)
            for entry in row.split():
                method, _, arguments = entry.partition("(")
                self.assertIn(method, vars(found))
                wanted = "(self," + arguments if arguments != ")" else "(self)"
                self.assertEqual(arguments_of(vars(found)[method]), wanted, (name, method))

    def test_errors(self):
        errors = importlib.import_module("pullworks.errors")
        self.assertEqual(errors.PullError.__bases__, (ArithmeticError,))
        for entry in INTERFACE["errors"].split()[1:]:
            name, _, fields = entry.partition("(")
            kind = getattr(errors, name)
            self.assertEqual(kind.__bases__, (errors.PullError,))
            fields = fields[:-1].split(",")
            marks = [object() for _ in fields]
            self.assertEqual(vars(kind(*marks)), dict(zip(fields, marks)))
            self.assertEqual(vars(kind(**dict(zip(fields, marks)))), dict(zip(fields, marks)))


if __name__ == "__main__":
    unittest.main()
