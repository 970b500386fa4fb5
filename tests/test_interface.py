"""The names, arguments and homes of what the document's interface lists."""

import importlib
import inspect
import os
import unittest

import unwrittenrow

FUNCTIONS = {
    "forms": """is_integer(thing) is_fraction(thing) is_letter(thing) is_word(thing) is_measure(thing)
        is_member(measure,thing) is_lot(measure,thing) is_model(thing) is_block(thing)
        are_facts(measure,n,thing) is_name(thing) are_coins(thing) is_enclosure(thing)
        is_word_of(measure,thing) letters_of(measure)""",
    "fractions": """reduced(n,d) added(one,other) times(one,other) over(one,other) half_to(e)
        compared(one,other) decimal_below(one,places) decimal_above(one,places)""",
    "measures": """product(measure,x,y) measure_of(measure,word) power_of(measure,x,n) reached(measure)
        right_closed(measure,lot) left_closed(measure,lot) led_from(measure,x,lot) led_to(measure,x,lot)
        beside(one,other) is_right_ideal(measure,lot) is_left_ideal(measure,lot) is_same(one,other)""",
    "wishes": """is_wish(thing) takes(wish,word) measure_of_wishes(letters,wishes) holding(letters,word)
        ending(letters,word) at_least(letters,letter,many) counted(letters,letter,turns,lot)
        both(one,other) either(one,other) not_taken(wish)""",
    "models": """measure_in(model) letters_in(model) states_of(model) weight_of(model,word)
        total_of(model,n) prices_of(model,word) words_of(model,n) with_measure(model,measure)
        turned_back(model) called(model,names) mixed(one,other,a,b) behind(one,other) trimmed(model)
        kept_to(model,wish)""",
    "shower": "show_model(model) show_facts(facts) show_coins(coins)",
    "reader": "read_model(text) read_facts(measure,n,text) read_coins(text)",
    "blocks": """middle_of(facts,block) halves_of(facts,block) facts_in(facts,block) with_fact(facts,fact)
        lot_at(facts,block) way_to(n,facts,x) tree_blocks(n,facts) is_in_tree(n,facts,block)
        are_crossing(one,other)""",
    "lengths": """lengths_of(model) lots_of(model) lot_of_length(model,n) least_course(course)
        has_length(model,n) item_at(course,n) length_from(model,n)""",
    "support": """support_of(model,facts,block) members_at(model,n,facts,i,j) letters_at(model,n,facts,x)
        states_at(model,n,facts,x) is_possible(model,n,facts) can_be(model,n,facts,more)""",
    "weights": "weights_of(model,facts,block) shares_of_ends(model,weights) total_under(model,n,facts)",
    "enclosures": """compared(one,other) around(lows,highs,bits) exact_one(x) product_of(one,other)
        sum_of(enclosures,bits) trimmed(enclosure,bits) holds(enclosure,x) lies_in(one,other)""",
    "tables": """keys_needed(facts,blocks) made_tables(model,facts,blocks,bits) are_tables(model,facts,thing)
        enclosed(tables,facts,block)""",
    "coins": "spring(seed,name,k) coin(coins,name,k) beginning(coins,name,d) with_told(coins,name,truths)",
    "choices": """made_by(shares,c,d) chosen(shares,coins,name,most) shown_within(numbers,coins,name,most)
        times_made(shares,index,d) times_none(shares,d) is_shown(numbers,index,c,d)""",
    "asks": "is_ask(measure,n,thing) is_answer(measure,ask,thing) plain_answer(measure,word,ask)",
    "rows": """first_things(model,n,facts) things_of(model,facts,block,stand) opened(model,n,facts,coins,ask,most)
        answer_of(model,n,facts,coins,ask,most) row_of(model,n,facts,coins,most)
        stand_of(model,n,facts,coins,block,most)""",
    "papers": "answer_by(measure,n,facts,ask,things) shares_in(model,facts,tables,name,stand)",
    "makers": "paper_of(model,n,facts,coins,ask,bits,most) answered(model,n,facts,coins,ask,bits,most)",
    "judging": """is_paper(model,n,facts,coins,ask,answer,thing)
        first_amiss(model,n,facts,coins,ask,thing)""",
    "chances": """chance_of_word(model,n,facts,word) chance_of_facts(model,n,facts) chance_of_fact(model,n,facts,fact)
        share_by_coins(model,n,facts,word,d) total_around(model,n,facts,bits)
        chance_between(model,n,facts,bits,digits)""",
    "alike": """parting(one,other) is_parting(one,other,thing) is_alike_paper(one,other,thing) are_alike(one,other)
        chance_by(model,word) track_of(one,other,word) value_of(one,other,track) alike_paper(one,other)
        alike_kinds(models)""",
    "house": """parts_of(house,question) papers_of(house,question) show_house(house) read_house(text)
        are_papers(model,n,facts,coins,written,question,answer,thing)""",
}


CLASSES = {
    "House": ("house", "model,n,coins,room", """model() coins() facts() length() room() remembered() written() put_fact(fact)
        take_fact(block) write(x,letter) erase(x) undo() ask(question) twin()"""),
    "Desk": ("desk", "house", "execute(line) house() twin()"),
}


class TheInterface(unittest.TestCase):
    def test_functions_are_defined_where_they_are_listed(self):
        for file, listed in FUNCTIONS.items():
            module = importlib.import_module(f"unwrittenrow.{file}")
            for entry in listed.split():
                name, arguments = entry.rstrip(")").split("(")
                with self.subTest(file=file, name=name):
                    function = getattr(module, name)
                    self.assertTrue(inspect.isfunction(function))
                    self.assertEqual(function.__module__, module.__name__)
                    parameters = inspect.signature(function).parameters.values()
                    self.assertEqual([one.name for one in parameters], arguments.split(","))
                    for one in parameters:
                        self.assertEqual(one.kind, one.POSITIONAL_OR_KEYWORD)
                        self.assertIs(one.default, one.empty)

    def test_methods_are_defined_in_their_classes(self):
        for name, (file, arguments, listed) in CLASSES.items():
            module = importlib.import_module(f"unwrittenrow.{file}")
            self.assertEqual(getattr(module, name).__module__, module.__name__)
            for entry in listed.split() + [f"__init__({arguments})", "__eq__(other)"]:
                method, names = entry.rstrip(")").split("(")
                with self.subTest(name=name, method=method):
                    function = vars(getattr(module, name))[method]
                    self.assertTrue(inspect.isfunction(function))
                    parameters = inspect.signature(function).parameters
                    self.assertEqual(list(parameters), ["self"] + [one for one in names.split(",") if one])
                    self.assertTrue(all(one.default is one.empty for one in parameters.values()))

    def test_the_package_file_is_empty(self):
        self.assertEqual(os.path.getsize(unwrittenrow.__file__), 0)


if __name__ == "__main__":
    unittest.main()
