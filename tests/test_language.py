"""The rules of ../shared/LANGUAGE.md that a file shows, and that the interface stands in its files."""

import ast
import unittest

from tests.language import ROOT, faults

LISTED = {
    "errors.py": "TideweirError InvalidFlow InvalidLogs InvalidOperator InvalidPlan InvalidGraph InvalidState "
                 "InvalidParcel InvalidChoice NotTheSame UnknownSource TooFewPartitions EngineDown EngineUp UnderWay "
                 "UnknownCheckpoint",
    "values/order.py": "value_order(value) row_order(row) same_rows(a,b)",
    "values/rows.py": "type_of_value(value) is_value(x) fits(row,fields) column_index(fields,name)",
    "values/keys.py": "key_of(row,fields,columns) hash_of(values) group_of(values)",
    "flows/flows.py": "flow_of(moves) sum_flows(flows) turned(flow) part_of(flow,above,up_to) table_at(flow,time) "
                      "check_flow(flow,fields)",
    "flows/tables.py": "table_of(pairs) tables_of(flow) changes_of(tables) is_lawful(flow) is_events(flow)",
    "flows/logs.py": "mark_behind(entries) late_indexes(entries) flow_of_partition(entries) "
                     "flow_of_source(partitions) mark_of_source(partitions) check_logs(logs,sources)",
    "expressions/checking.py": "type_of(expression,fields)",
    "expressions/evaluating.py": "evaluate(expression,fields,row)",
    "expressions/trees.py": "columns_of(expression) substituted(expression,mapping)",
}


class Language(unittest.TestCase):
    def test_no_file_breaks_a_rule(self):
        self.assertEqual(faults(), [])

    def test_each_name_of_the_interface_is_defined_in_its_file(self):
        for file, listed in LISTED.items():
            defined = {}
            for node in ast.parse((ROOT / file).read_text(encoding="utf-8")).body:
                if isinstance(node, ast.ClassDef):
                    defined[node.name] = None
                if isinstance(node, ast.FunctionDef):
                    defined[node.name] = ",".join(argument.arg for argument in node.args.args)
            for item in listed.split():
                name, _, arguments = item.partition("(")
                self.assertIn(name, defined, file)
                self.assertEqual(defined[name], arguments[:-1] if arguments else None, file + " " + name)


if __name__ == "__main__":
    unittest.main()
