"""The rules of ../shared/LANGUAGE.md that a file shows, and that the interface stands in its files."""

import ast
import unittest

from tests.language import ROOT, faults

LISTED = {
    "errors.py": "TideweirError InvalidFlow InvalidLogs InvalidOperator InvalidPlan InvalidGraph InvalidState "
                 "InvalidParcel InvalidChoice NotTheSame UnknownSource TooFewPartitions EngineDown EngineUp UnderWay "
                 "UnknownCheckpoint",
    "values/order.py": "value_order(value) row_order(row) same_rows(a,b)",
    "values/rows.py": "type_of_value(value) is_value(x) fits(row,fields) column_index(fields,name)",
    "values/keys.py": "key_of(row,fields,columns) hash_of(values) group_of(values)",
    "flows/flows.py": "flow_of(moves) sum_flows(flows) turned(flow) part_of(flow,above,up_to) table_at(flow,time) "
                      "check_flow(flow,fields)",
    "flows/tables.py": "table_of(pairs) tables_of(flow) changes_of(tables) is_lawful(flow) is_events(flow)",
    "flows/logs.py": "mark_behind(entries) late_indexes(entries) flow_of_partition(entries) "
                     "flow_of_source(partitions) mark_of_source(partitions) check_logs(logs,sources)",
    "expressions/checking.py": "type_of(expression,fields)",
    "expressions/evaluating.py": "evaluate(expression,fields,row)",
    "expressions/trees.py": "columns_of(expression) substituted(expression,mapping)",
    "operators/checks.py": "sides_of(operator) check_operator(operator,inputs)",
    "operators/aggregates.py": "aggregate(word,values)",
    "operators/windows.py": "windows_of(window,times)",
    "operators/define.py": "define(operator,fields,flows)",
    "handles/states.py": "binding_columns(operator,fields) kept_of(operator,fields,flows,mark) "
                         "state_of(operator,fields,flows,mark) "
                         "split_state(operator,fields,columns,state,groups) join_states(operator,states)",
    "handles/handle.py": "Handle",
    "plans/plans.py": "check_plan(plan) fields_of(plan) sources_of(plan) meanings(plan,flows) meaning(plan,flows)",
    "plans/tidying.py": "tidied(plan) is_tidy(plan)",
    "plans/rules.py": "apply_rule(plan,rule,node) steps_of(plan) check_certificate(plan,steps,to)",
    "plans/costs.py": "guesses(plan,stats) cost(plan,stats) Search",
    "tasks/task.py": "Task",
    "graphs/graphs.py": "check_graph(graph) plan_of(graph) channels_of(graph) tasks_of(graph) lies_of(graph) "
                        "owner_of(graph,stage,values) fields_at(graph,stage)",
    "graphs/laying.py": "lay_out(plan,parallel) even_owners(parallel)",
    "jobs/job.py": "Job",
    "engines/engine.py": "Engine",
    "shifts/owners.py": "owners_for(owners,parallel)",
    "shifts/rescaling.py": "rescale(graph,checkpoint,other) regraph(graph,parallel)",
    "shifts/replanning.py": "replan(graph,checkpoint,logs,plan,parallel)",
    "shifts/resuming.py": "resume(graph,logs,room,checkpoint,committed)",
    "witnesses/places.py": "events_of(logs) only_these(logs,places) without_these(logs,places)",
    "witnesses/reasons.py": "weight_of(plan,logs,time,row) tells(plan,logs,places,time,row) why(plan,logs,time,row) "
                            "least_why(plan,logs,time,row) impact(plan,logs,place)",
    "witnesses/audits.py": "Breach audit(plan,logs,flow,mark)",
}
# The methods of a job, all of which an engine has, too.
OF_A_JOB = ("{0}.__init__(self,graph,logs,room) {0}.choices(self) {0}.task_marks(self) {0}.mark {0}.queues "
            "{0}.progress {0}.late {0}.do(self,choice) {0}.run(self,numbers) {0}.rest(self) "
            "{0}.append(self,source,partition,entries) {0}.output(self) {0}.states(self)")
# The methods of the classes; a property stands without arguments.
METHODS = {
    "handles/handle.py": "Handle.__init__(self,operator,fields) Handle.mark Handle.put(self,side,flow) "
                         "Handle.advance(self,mark) Handle.state(self) Handle.fork(self) "
                         "Handle.resumed(cls,operator,fields,state)",
    "plans/costs.py": "Search.__init__(self,plan,stats) Search.best Search.least Search.seen Search.steps(self) "
                      "Search.__iter__(self)",
    "tasks/task.py": "Task.__init__(self,operator,fields,sides) Task.mark Task.marks Task.put(self,channel,parcel) "
                     "Task.state(self) Task.fork(self) Task.resumed(cls,operator,fields,sides,state)",
    "jobs/job.py": OF_A_JOB.format("Job"),
    "engines/engine.py": OF_A_JOB.format("Engine") + " Engine.is_down Engine.trigger(self,how) Engine.crash(self) "
                         "Engine.restore(self) Engine.committed(self) Engine.checkpoints "
                         "Engine.checkpoint(self,number) Engine.status(self,number)",
}


class Language(unittest.TestCase):
    def test_no_file_breaks_a_rule(self):
        self.assertEqual(faults(), [])

    def test_each_name_of_the_interface_is_defined_in_its_file(self):
        for file, listed in LISTED.items():
            defined = {}
            for node in ast.parse((ROOT / file).read_text(encoding="utf-8")).body:
                if isinstance(node, ast.ClassDef):
                    defined[node.name] = None
                if isinstance(node, ast.FunctionDef):
                    defined[node.name] = ",".join(argument.arg for argument in node.args.args)
            for item in listed.split():
                name, _, arguments = item.partition("(")
                self.assertIn(name, defined, file)
                self.assertEqual(defined[name], arguments[:-1] if arguments else None, file + " " + name)

    def test_each_method_of_the_interface_is_defined_in_its_class(self):
        for file, listed in METHODS.items():
            defined = {}
            for node in ast.parse((ROOT / file).read_text(encoding="utf-8")).body:
                if isinstance(node, ast.ClassDef):
                    for method in [inner for inner in node.body if isinstance(inner, ast.FunctionDef)]:
                        is_property = "property" in [ast.unparse(one) for one in method.decorator_list]
                        defined[node.name + "." + method.name] = (
                            None if is_property else ",".join(argument.arg for argument in method.args.args))
            for item in listed.split():
                name, _, arguments = item.partition("(")
                self.assertIn(name, defined, file)
                self.assertEqual(defined[name], arguments[:-1] if arguments else None, file + " " + name)


if __name__ == "__main__":
    unittest.main()
