"""The section "The interface": names, arguments, and that each stands in its own file."""

import importlib
import inspect
import os
import unittest

INTERFACE = {
    "errors": "IsHome(version) NoCommand() NoPiece(piece) NoText(line) NotEnd(version) NotMoved(piece) "
              "NotNeighbour(version) NotTaken(word,things) Refused(index,reason) Wrong(place)",
    "forms": "is_integer(thing) is_name(thing) is_sort(thing) is_way(thing) is_expression(thing) is_condition(thing) "
             "is_table(thing) is_schema(thing) is_row(schema,table,thing) is_database(schema,thing) "
             "is_expression_at(schema,table,thing) is_condition_at(schema,table,thing) is_query(schema,thing) "
             "is_statement(schema,thing) is_transaction(schema,thing) fits_sort(sort,thing) fits_row(schema,table,row)",
    "ways": "tables_of(schema) table_of(schema,table) columns_of(schema,table) sort_of(schema,table,column) "
            "refs_to(schema,table) columns_in(thing) with_table(schema,table,told) without_table(schema,table) "
            "index_of(schema,table,column) parts_many(thing) led(way,x) has_column(schema,table,column) "
            "put_in(thing,columns,key) both(one,other)",
    "words": "is_barred(word) integer_in(word) lines_of(text)",
    "changes": "is_change(thing) child_by(schema,change) named_tables(change) named_below(change)",
    "reader": "read_schema(text) read_transaction(schema,text) read_edges(text) read_database(schema,text)",
    "shower": "show_schema(schema) show_transaction(transaction) show_edges(edges) show_database(schema,database) "
              "show_condition(condition) show_expression(expression) show_change(change) show_answer(answer)",
    "worths": "worth(schema,database,table,key,expression) worth_in(columns,key,row,expression) "
              "holds(schema,database,table,key,condition) holds_in(columns,key,row,condition)",
    "databases": "empty(schema) copied(database) with_row(database,table,key,row) without_row(database,table,key) "
                 "with_item(schema,database,table,key,column,value) exchanged(one,other,table,key) "
                 "without_part(database,keys) part_of(database,keys) unlike_keys(one,other) rows_many(database) "
                 "keys_of(database,table) item(schema,database,table,key,column) broken(schema,database) "
                 "is_right(schema,database)",
    "queries": "asked(schema,database,query) is_met(schema,database,statement)",
    "running": "run(schema,database,transaction) step_by(schema,database,statement) would_run(schema,database,transaction) "
               "written_tables(transaction) tables_named(schema,transaction)",
    "explaining": "turned_into(schema,one,other) put_behind(one,other)",
    "refusals": "refusal(schema,change) is_reason(schema,change,thing) child_schema(schema,change) "
                "back_change(schema,change)",
    "sides": "wide_side(schema,change) narrowed(schema,change,wide) full(schema,change,narrow,hidden) "
             "hidden(schema,change,wide) agree(schema,change,parent,child)",
    "fitting": "fits(schema,change,narrow,thing) fitted(schema,change,hidden,narrow) "
               "carried(schema,change,side,new,old) first_carried(schema,change,side,new)",
    "trees": "is_tree(thing) is_live(tree,thing) is_far_wide(tree,near,far) schemas_of(tree) outwards(tree,live,version) "
             "schema_at(tree,version) neighbours(tree,live,version) edge_between(tree,one,other) path(tree,live,one,other) "
             "ends_of(tree,live)",
    "copies": "are_copies(tree,live,thing) first_copies(tree,live) spread(tree,live,copies,version,database) "
              "carried_on(tree,near,far,new,old) done(tree,live,copies,version,transaction) moved_versions(one,other) "
              "grown(tree,live,copies,version,change) taken_away(tree,live,copies,version)",
    "store": "is_store(thing) view(store,version) copies_of(store) store_of(tree,live,home,copies) "
             "with_home(store,version) kept_many(store)",
    "pieces": "piece_tables(schema,change) stands_at(schema,change,side,piece) touched_tables(schema,change,side) "
              "pieces_in(schema,change,side,database) part_of_pieces(schema,change,side,database,pieces) "
              "without_pieces(schema,change,side,database,pieces) joined_part(database,part) "
              "led_part(schema,change,side,part,hidden) hidden_of_part(schema,change,part) "
              "hidden_in(schema,change,hidden,pieces)",
    "moving": "moving_of(store,goal,moved) begun(store,version) stepped(moving,piece) turned_about(moving) "
              "grow_amid(moving,version,change) take_away_amid(moving,version) store_told(moving) ended(moving) "
              "is_moving(thing) view_amid(moving,version) pieces_left(moving) do_amid(moving,version,transaction)",
    "cells": "cells_of(kept) kept_by(cells)",
    "logs": "written(disk,writes) torn(disk,phases,index,lot) writes_between(one,other) phases_of(one,other) is_clean(disk)",
    "mending": "mending(disk) phases_to(disk,kept) mended(disk) lies_between(one,other,thing) told_by(one,other,disk) "
               "kept_on(disk) rows_written(phases)",
    "deeds": "is_line(thing) is_course(thing)",
    "meanings": "first_meaning(schema) meaning_of(kept) meant(meaning,line)",
    "sidebyside": "kept_behind(kept,line) disk_behind(disk,line,cut) run_disk(schema,course) happened_in(tolds) "
                  "run_meaning(schema,course,happened) first_disk(schema) first_apart(schema,course)",
    "histories": "history_of(schema,course,happened,version) schema_of_version(schema,course,happened,version) "
                 "replayed(schema,history) is_lived(schema,thing)",
    "desk": "Desk(text)",
    "storedeeds": "do(store,version,transaction) grow(store,version,change) take_away(store,version) "
                  "is_beside(store,copies) edges_touched(one,other)",
}


class Interface(unittest.TestCase):

    def test_names_and_arguments(self):
        for name, listed in INTERFACE.items():
            module = importlib.import_module(f"everyversion.{name}")
            for told in listed.split():
                word, arguments = told.rstrip(")").split("(")
                thing = getattr(module, word)
                self.assertEqual(thing.__module__, module.__name__)
                parameters = inspect.signature(thing).parameters.values()
                self.assertEqual(",".join(one.name for one in parameters), arguments, told)
                self.assertTrue(all(one.default is one.empty for one in parameters), told)

    def test_desk(self):
        desk = importlib.import_module("everyversion.desk").Desk
        for told in ["execute(self,line)", "kept(self)", "disk(self)", "twin(self)", "__eq__(self,other)"]:
            word, arguments = told.rstrip(")").split("(")
            self.assertIn(word, vars(desk))
            self.assertEqual(",".join(inspect.signature(vars(desk)[word]).parameters), arguments)

    def test_all_modules_are_there(self):
        folder = os.path.dirname(importlib.import_module("everyversion.errors").__file__)
        self.assertLessEqual(set(INTERFACE), {name[:-3] for name in os.listdir(folder)})
        self.assertEqual(len(INTERFACE), 29)

    def test_init_is_empty(self):
        folder = os.path.dirname(importlib.import_module("everyversion.errors").__file__)
        self.assertEqual(os.path.getsize(os.path.join(folder, "__init__.py")), 0)


if __name__ == "__main__":
    unittest.main()
