"""The interface: names, files, parameters and their sequence, by position and by name."""

import importlib
import inspect
import unittest

FUNCTIONS = """
words: words_of(text)
exprreading: read_expr(text) expr_from(reading)
questionreading: read_cond(text) read_question(text) cond_from(reading) question_from(reading)
showing: shown(question) shown_cond(cond) shown_expr(expr)
trees: members(cond) joined(conds) height(thing)
columnsin: columns_in(thing) aggs_in(thing) replaced(thing,table)
ranks: rank(value) rank_row(row,places) alike(one,other) equal(one,other)
factkinds: told_facts(columns,facts)
factchecks: alike_most(rows,places) unlike_many(rows,place) broken(facts,rows)
rowkinds: told_row(columns,row)
layings: laid(rows,row,places) laid_anew(rows,places)
entries: entries_of(rows,places) halved(rows,entries,places,told) stretch(rows,entries,places,told)
truths: negated(t) perhaps(t) both(s,t) either(s,t) compared(op,one,other)
folding: folded(fn,column_values)
ordering: in_order(rows,orders,wide) alike_bags(one,other)
namings: named(house,question)
kindings: kind_of_expr(columns,expr) outputs(house,question)
placings: placed_well(question)
checking: checked(house,question)
meanings: value_of(expr,env) truth_of(house,cond,env) loops(house,sources,env)
meanings: meaning(house,question) names_used(house,question)
views: make_view(house,name,text)
putting: put_in(house,question) used(house,question)
raising: raw_of(house,question,outermost)
strictness: possible(cond,unit) never_on_nulls(cond,unit)
merging: can_merge(raw,unit) merged(raw,unit)
turning: by_turns(raw) distinct_turned(raw) having_moved(raw)
marking: classes_of(raw) fixed_of(raw)
inward: copied_in(raw,classes,fixed)
worths: mark_value(expr,worth,folds) mark_truth(cond,worth,folds)
blockmeanings: means_rows(house,block) means(house,block)
blocks: block_of(house,question)
lifts: lift(number) bits(number)
unitmarks: mark_of(unit,place) bound_of(block,u) pairs_of(block,u) row_marks(block,u)
keeping: marks_in(block,units) is_closed(block,units) ready(block,units) kept(block,units)
states: units_of(state) is_side(state) seen(block,state) whole_state(block) all_states(block)
ceilings: ceiling(block,state,marks) fan_of(block,u,places) dist_of(block,u,place)
bookings: booking(block,state,marks)
bookchecks: booking_fits(block,state,marks,paper) booked(paper)
wantings: wanted(sizes,state) way_of(block) matched(block,order)
wantings: is_settled(sizes,state,order) run_of(sizes,state,order)
leafsteps: why_leaf(sizes,step) leaf_told(sizes,step) inner_told(sizes,u,order)
joinsteps: why_join(sizes,word,left,right) join_told(sizes,word,left,right)
joinsteps: why_look(sizes,left,u,ixname,many) look_told(sizes,left,u,ixname,many)
onesteps: why_sort(sizes,child,is_sorted,marks) sort_told(sizes,child,marks)
onesteps: why_squeeze(sizes,word,child) squeeze_told(sizes,word,child)
topsteps: why_give(sizes,word,child) give_told(sizes,word,child)
planshapes: shape_of(plan) top_shape(top)
judging: judged(block,plan) judged_top(block,top)
plantexts: plan_text(top)
planreadings: read_plan(text)
folds: added(fn,one,other) scaled(fn,weight,fold) single(fn,value)
takings: leaf_row(block,u,row)
listings: rows_of(house,block,plan) answer_of(house,block,top)
leafways: leaf_ways(sizes,barred)
stepways: over_one(sizes,child,barred) over_two(sizes,left,right,barred)
stepways: sorts_over(sizes,child,barred) gives_over(sizes,child)
choosing: least(block,barred)
founds: floors_from(memo,inner,price)
floorrows: is_floors(thing)
floorchecks: floors_fit(block,floors,barred)
floorreads: floor_of(floors,state,order) give_floor(floors,order)
stepceilings: step_ceilings(block,top)
countings: sorted_counted(rows,ranks)
opening: open_run(house,block,plan) open_top(house,block,top) line_runs(run)
cursors: drained(cursor)
explaining: explained(block,top)
"""
CLASSES = """
reading: Reading(words) look() ahead(many) take() expect(value) take_name() bad()
tables: Table(name,columns,facts) lay(row) lift_out(row) add_index(ixname,cols)
tables: Table(name,columns,facts) drop_index(ixname) retell(facts)
houses: House() add_table(name,columns,facts) drop(name) add_index(table,ixname,cols)
houses: House() drop_index(table,ixname) retell(table,facts) put(table,row) take(table,row)
houses: House() lay_view(name,question,uses) names() kind_of(name) edition(name)
houses: House() columns_of(table) facts_of(table) lies_of(table) rows_of_table(table)
houses: House() indexes_of(table) entries_of_index(table,ixname) question_of(name) uses_of(name)
raws: RawUnit(kind,source,conds)
raws: RawBlock(units,tests,grouped,groups,aggs,having,outs,outnames,outkinds,orders,limit,listed,distinct) bare()
ceilings: Ceilings(block) by(state,marks) bag_size(state) fan(u,places) dist(u,place) marks_at(units)
ceilings: Ceilings(block) ready_at(units) kept_at(units) seen_at(state) pairs_at(u) bound_at(u)
listjoins: JoinSight(sizes,left_state,right_state) row_fits(left,right) row_of_both(left,right) row_of_nulls(left)
memotables: Memo(sizes,barred) made(state) whole(state) tops()
founds: Found(top,price,floors)
cursors: Cursor(house,block,top) page(size) done() total() lines()
keptplans: Kept(used,block,found)
desks: Desk(house) block_told(text) plan_of(text) price_of(text) floors_of(text) explain(text) cursor_of(text)
desks: Desk(house) ask(text) hand(text,plantext) is_kept(text) made()
"""
# classes that are not called from outside, with the methods that stand in their own bodies
ALONE = """
blocks: Block() bare()
blocks: Unit()
runleaves: ScanRun() pull()
runleaves: WalkRun() pull()
runleaves: SeekRun() pull()
runleaves: InnerRun() pull()
runjoins: LoopRun() pull()
runjoins: HashRun() pull()
runjoins: MergeRun() pull()
runlooks: LookRun() pull()
runsqueezes: BagRun() pull()
runsqueezes: StreamRun() pull()
runsorts: SortRun() pull()
rungives: GiveRun() pull()
"""


def told(text):
    """(file, name, list of parameters) of each entry."""
    for line in text.strip().split("\n"):
        file, rest = line.split(": ")
        for one in rest.split():
            name, parameters = one.rstrip(")").split("(")
            yield file, name, [each for each in parameters.split(",") if each]


class InterfaceTest(unittest.TestCase):

    def parameters(self, function):
        found = list(inspect.signature(function).parameters.values())
        for one in found:
            self.assertEqual(one.kind, inspect.Parameter.POSITIONAL_OR_KEYWORD)
            self.assertIs(one.default, inspect.Parameter.empty)
        return [one.name for one in found]

    def test_functions(self):
        for file, name, parameters in told(FUNCTIONS):
            with self.subTest(name=name):
                function = getattr(importlib.import_module(f"leastplans.{file}"), name)
                self.assertEqual(function.__module__, f"leastplans.{file}")
                self.assertEqual(self.parameters(function), parameters)

    def test_classes_alone(self):
        own = None
        for file, name, parameters in told(ALONE):
            if name[0].isupper():
                own = getattr(importlib.import_module(f"leastplans.{file}"), name)
                self.assertEqual(own.__module__, f"leastplans.{file}")
            else:
                self.assertEqual(self.parameters(vars(own)[name])[1:], parameters)

    def test_classes(self):
        own = None
        for file, name, parameters in told(CLASSES):
            with self.subTest(name=name):
                if name[0].isupper():
                    own = getattr(importlib.import_module(f"leastplans.{file}"), name)
                    self.assertEqual(own.__module__, f"leastplans.{file}")
                    self.assertEqual(self.parameters(own), parameters)
                else:
                    self.assertEqual(self.parameters(vars(own)[name])[1:], parameters)


if __name__ == "__main__":
    unittest.main()
