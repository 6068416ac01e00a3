import PyProof.Rows.All
import Wide.All
import OpenK.AllK
import Wide.FinOn
import HandS.ForMost
import HandS.Exc
import HandS.TryOnly
import HandS.ExcOwn
import HandS.WordsExc
import HandS.ExcInit
import HandS.ExcField
import HandS.IsInst
import HandS.Evl
import HandS.Deep
import HandS.WideBits
import HandS.Codes
import HandS.Conv
import HandS.Dict
import HandS.Small
import HandS.More
import HandS.Property
import HandS.OwnEq
import HandS.SetKeys
import HandS.Defaults
import HandS.RaiseFrom
import HandS.SuiteRaise
import HandS.Set
import HandS.SetIn
import HandS.Style
import HandS.OwnIter
import HandS.Iter
import HandS.IterVal
import HandS.TupMul
import HandS.Sort
import HandS.SortInts
import HandS.SortOrd
import KE.GoesEnum
import KE.GoesMore
import PySem.Challenge.RW_undocells_k06_whole_steps_and_webs_made
import HandS.ExcCtx
import HandS.Hot
import HandS.HotCalls
import HandS.SetFor
import HandS.Strs
import PyProof.SetRoads
import HandS.Text
import PyProof.AutoSeq1
import HandS.IterNext
import KE.KOwnIter
import HandS.ExcIs
import HandS.List
set_option Elab.async false
set_option linter.all false
set_option maxRecDepth 100000
set_option maxHeartbeats 4000000
namespace My
open PySem PySem.Spec PyProof.Rows L2
def top (i : Nat) : Stmt := PySem.Challenge.pw_undocells_k06_whole_steps_and_webs_made.main.body.getD i (.Pass ⟨0, 0, 0, 0⟩)
abbrev s_is_whole : Stmt := top 1
theorem sc_is_whole : FnScope ["thing"] ["thing"] (defScope s_is_whole) := ⟨rfl, rfl, rfl, by decide +kernel, rfl, by decide +kernel, by decide +kernel⟩
abbrev s_is_within : Stmt := top 2
theorem sc_is_within : FnScope ["thing", "least", "most"] ["thing", "least", "most"] (defScope s_is_within) := ⟨rfl, rfl, rfl, by decide +kernel, rfl, by decide +kernel, by decide +kernel⟩
abbrev s_is_sequence : Stmt := top 3
theorem sc_is_sequence : FnScope ["thing"] ["thing"] (defScope s_is_sequence) := ⟨rfl, rfl, rfl, by decide +kernel, rfl, by decide +kernel, by decide +kernel⟩
abbrev s_mask_of : Stmt := top 4
theorem sc_mask_of : FnScope ["places", "mask", "place"] ["places"] (defScope s_mask_of) := ⟨rfl, rfl, rfl, by decide +kernel, rfl, by decide +kernel, by decide +kernel⟩
abbrev s_check_inputs : Stmt := top 18
theorem sc_check_inputs : FnScope ["inputs", "many", "width", "index", "word"] ["inputs", "many", "width"] (defScope s_check_inputs) := ⟨rfl, rfl, rfl, by decide +kernel, rfl, by decide +kernel, by decide +kernel⟩
abbrev s_is_number : Stmt := top 19
theorem sc_is_number : FnScope ["thing"] ["thing"] (defScope s_is_number) := ⟨rfl, rfl, rfl, by decide +kernel, rfl, by decide +kernel, by decide +kernel⟩
abbrev s_is_table : Stmt := top 20
theorem sc_is_table : FnScope ["numbers", "n"] ["numbers"] (defScope s_is_table) := ⟨rfl, rfl, rfl, by decide +kernel, rfl, by decide +kernel, by decide +kernel⟩
abbrev s_check_kind : Stmt := top 21
theorem sc_check_kind : FnScope ["kind"] ["kind"] (defScope s_check_kind) := ⟨rfl, rfl, rfl, by decide +kernel, rfl, by decide +kernel, by decide +kernel⟩
abbrev s_operand_count : Stmt := top 22
theorem sc_operand_count : FnScope ["kind"] ["kind"] (defScope s_operand_count) := ⟨rfl, rfl, rfl, by decide +kernel, rfl, by decide +kernel, by decide +kernel⟩
abbrev s_step_word : Stmt := top 23
theorem sc_step_word : FnScope ["kind", "words", "width", "most"] ["kind", "words", "width"] (defScope s_step_word) := ⟨rfl, rfl, rfl, by decide +kernel, rfl, by decide +kernel, by decide +kernel⟩
abbrev s_pair_word : Stmt := top 24
theorem sc_pair_word : FnScope ["sign", "one", "other"] ["sign", "one", "other"] (defScope s_pair_word) := ⟨rfl, rfl, rfl, by decide +kernel, rfl, by decide +kernel, by decide +kernel⟩
abbrev s_single_word : Stmt := top 25
theorem sc_single_word : FnScope ["kind", "word"] ["kind", "word"] (defScope s_single_word) := ⟨rfl, rfl, rfl, by decide +kernel, rfl, by decide +kernel, by decide +kernel⟩
abbrev s_is_operand : Stmt := top 30
theorem sc_is_operand : FnScope ["thing"] ["thing"] (defScope s_is_operand) := ⟨rfl, rfl, rfl, by decide +kernel, rfl, by decide +kernel, by decide +kernel⟩
abbrev s_checked_kind : Stmt := top 31
theorem sc_checked_kind : FnScope ["kind"] ["kind"] (defScope s_checked_kind) := ⟨rfl, rfl, rfl, by decide +kernel, rfl, by decide +kernel, by decide +kernel⟩
abbrev s_checked_operands : Stmt := top 32
theorem sc_checked_operands : FnScope ["kind", "operands", "operand"] ["kind", "operands"] (defScope s_checked_operands) := ⟨rfl, rfl, rfl, by decide +kernel, rfl, by decide +kernel, by decide +kernel⟩
abbrev s_is_place : Stmt := top 35
theorem sc_is_place : FnScope ["bare", "thing"] ["bare", "thing"] (defScope s_is_place) := ⟨rfl, rfl, rfl, by decide +kernel, rfl, by decide +kernel, by decide +kernel⟩
abbrev s_is_before_list : Stmt := top 36
theorem sc_is_before_list : FnScope ["thing", "place", "many", "before"] ["thing", "place", "many"] (defScope s_is_before_list) := ⟨rfl, rfl, rfl, by decide +kernel, rfl, by decide +kernel, by decide +kernel⟩
abbrev s_checked_befores : Stmt := top 37
theorem sc_checked_befores : FnScope ["befores", "place", "listed"] ["befores"] (defScope s_checked_befores) := ⟨rfl, rfl, rfl, by decide +kernel, rfl, by decide +kernel, by decide +kernel⟩
abbrev s_afters_of : Stmt := top 38
theorem sc_afters_of : FnScope ["befores", "afters", "place", "listed", "before", "_"] ["befores"] (defScope s_afters_of) := ⟨rfl, rfl, rfl, by decide +kernel, rfl, by decide +kernel, by decide +kernel⟩
abbrev s_ordered_of : Stmt := top 39
theorem sc_ordered_of : FnScope ["befores", "afters", "missing", "ready", "ordered", "lowest", "place", "after", "listed", "many"] ["befores", "afters"] (defScope s_ordered_of) := ⟨rfl, rfl, rfl, by decide +kernel, rfl, by decide +kernel, by decide +kernel⟩
abbrev s_reached_along : Stmt := top 40
theorem sc_reached_along : FnScope ["arrows", "place", "barred", "reached", "waiting", "found"] ["arrows", "place", "barred"] (defScope s_reached_along) := ⟨rfl, rfl, rfl, by decide +kernel, rfl, by decide +kernel, by decide +kernel⟩
abbrev s_check_rings : Stmt := top 41
theorem sc_check_rings : FnScope ["befores", "place"] ["befores"] (defScope s_check_rings) := ⟨rfl, rfl, rfl, by decide +kernel, rfl, by decide +kernel, by decide +kernel⟩
abbrev s_check_roads : Stmt := top 42
theorem sc_check_roads : FnScope ["befores", "end", "reached", "place"] ["befores", "end"] (defScope s_check_roads) := ⟨rfl, rfl, rfl, by decide +kernel, rfl, by decide +kernel, by decide +kernel⟩
abbrev s_check_shape : Stmt := top 45
theorem sc_check_shape : FnScope ["width", "many", "steps"] ["width", "many", "steps"] (defScope s_check_shape) := ⟨rfl, rfl, rfl, by decide +kernel, rfl, by decide +kernel, by decide +kernel⟩
abbrev s_check_steps : Stmt := top 46
theorem sc_check_steps : FnScope ["steps", "many", "place", "step", "name", "number"] ["steps", "many"] (defScope s_check_steps) := ⟨rfl, rfl, rfl, by decide +kernel, rfl, by decide +kernel, by decide +kernel⟩
abbrev s_check_idle : Stmt := top 47
theorem sc_check_idle : FnScope ["steps", "end", "reached", "place", "step"] ["steps"] (defScope s_check_idle) := ⟨rfl, rfl, rfl, by decide +kernel, rfl, by decide +kernel, by decide +kernel⟩
abbrev s_operand_word : Stmt := top 49
theorem sc_operand_word : FnScope ["operand", "words", "inputs", "width", "name", "number"] ["operand", "words", "inputs", "width"] (defScope s_operand_word) := ⟨rfl, rfl, rfl, by decide +kernel, rfl, by decide +kernel, by decide +kernel⟩
abbrev s_word_over : Stmt := top 50
theorem sc_word_over : FnScope ["step", "words", "inputs", "width", "parts", "operand"] ["step", "words", "inputs", "width"] (defScope s_word_over) := ⟨rfl, rfl, rfl, by decide +kernel, rfl, by decide +kernel, by decide +kernel⟩
abbrev s_web_worths : Stmt := top 51
theorem sc_web_worths : FnScope ["web", "inputs", "given", "words", "step"] ["web", "inputs"] (defScope s_web_worths) := ⟨rfl, rfl, rfl, by decide +kernel, rfl, by decide +kernel, by decide +kernel⟩
abbrev s_web_worth : Stmt := top 52
theorem sc_web_worth : FnScope ["web", "inputs"] ["web", "inputs"] (defScope s_web_worth) := ⟨rfl, rfl, rfl, by decide +kernel, rfl, by decide +kernel, by decide +kernel⟩
abbrev s_law_hand : Stmt := top 54
theorem sc_law_hand : FnScope ["_law_script", "_law_total", "_law_cells", "_law_cell"] ["_law_script"] (defScope s_law_hand) := ⟨rfl, rfl, rfl, by decide +kernel, rfl, by decide +kernel, by decide +kernel⟩
abbrev s_law_mixed : Stmt := top 55
theorem sc_law_mixed : FnScope ["_law_number", "_law_turn", "_law_once", "_law_twice"] ["_law_number", "_law_turn"] (defScope s_law_mixed) := ⟨rfl, rfl, rfl, by decide +kernel, rfl, by decide +kernel, by decide +kernel⟩
abbrev s_law_take : Stmt := top 56
theorem sc_law_take : FnScope ["_law_hand_here", "_law_many", "_law_cell", "_law_rest"] ["_law_hand_here", "_law_many"] (defScope s_law_take) := ⟨rfl, rfl, rfl, by decide +kernel, rfl, by decide +kernel, by decide +kernel⟩
abbrev s_law_whole : Stmt := top 57
theorem sc_law_whole : FnScope ["_law_thing"] ["_law_thing"] (defScope s_law_whole) := ⟨rfl, rfl, rfl, by decide +kernel, rfl, by decide +kernel, by decide +kernel⟩
abbrev s_law_two : Stmt := top 58
theorem sc_law_two : FnScope ["_law_n", "_law_total", "_law_k"] ["_law_n"] (defScope s_law_two) := ⟨rfl, rfl, rfl, by decide +kernel, rfl, by decide +kernel, by decide +kernel⟩
abbrev s_law_kind : Stmt := top 59
theorem sc_law_kind : FnScope ["_law_hand_here", "_law_at", "_law_k"] ["_law_hand_here"] (defScope s_law_kind) := ⟨rfl, rfl, rfl, by decide +kernel, rfl, by decide +kernel, by decide +kernel⟩
abbrev s_law_operands : Stmt := top 60
theorem sc_law_operands : FnScope ["_law_kind_here"] ["_law_kind_here"] (defScope s_law_operands) := ⟨rfl, rfl, rfl, by decide +kernel, rfl, by decide +kernel, by decide +kernel⟩
abbrev s_law_bits : Stmt := top 61
theorem sc_law_bits : FnScope ["_law_one", "_law_other", "_law_sign", "_law_total", "_law_worth", "_law_k", "_law_a", "_law_b", "_law_on"] ["_law_one", "_law_other", "_law_sign"] (defScope s_law_bits) := ⟨rfl, rfl, rfl, by decide +kernel, rfl, by decide +kernel, by decide +kernel⟩
abbrev s_law_step_word : Stmt := top 62
theorem sc_law_step_word : FnScope ["_law_kind_here", "_law_words_here", "_law_width", "_law_end", "_law_sign"] ["_law_kind_here", "_law_words_here", "_law_width"] (defScope s_law_step_word) := ⟨rfl, rfl, rfl, by decide +kernel, rfl, by decide +kernel, by decide +kernel⟩
abbrev s_law_under : Stmt := top 63
theorem sc_law_under : FnScope ["_law_befores", "_law_place", "_law_found", "_law_todo", "_law_k", "_law_at", "_law_before"] ["_law_befores", "_law_place"] (defScope s_law_under) := ⟨rfl, rfl, rfl, by decide +kernel, rfl, by decide +kernel, by decide +kernel⟩
abbrev s_law_operand : Stmt := top 64
theorem sc_law_operand : FnScope ["_law_hand_here", "_law_place", "_law_many", "_law_at"] ["_law_hand_here", "_law_place", "_law_many"] (defScope s_law_operand) := ⟨rfl, rfl, rfl, by decide +kernel, rfl, by decide +kernel, by decide +kernel⟩
abbrev s_law_web_words : Stmt := top 65
theorem sc_law_web_words : FnScope ["_law_steps", "_law_width", "_law_inputs", "_law_words_here", "_law_kind_here", "_law_operands_here", "_law_handed", "_law_operand_here"] ["_law_steps", "_law_width", "_law_inputs"] (defScope s_law_web_words) := ⟨rfl, rfl, rfl, by decide +kernel, rfl, by decide +kernel, by decide +kernel⟩
abbrev s_law_web_befores : Stmt := top 66
theorem sc_law_web_befores : FnScope ["_law_steps", "_law_kind_here", "_law_operands_here", "_law_o"] ["_law_steps"] (defScope s_law_web_befores) := ⟨rfl, rfl, rfl, by decide +kernel, rfl, by decide +kernel, by decide +kernel⟩
abbrev s_law_words : Stmt := top 67
theorem sc_law_words : FnScope ["_law_hand_here", "_law_many", "_law_width", "_law_k"] ["_law_hand_here", "_law_many", "_law_width"] (defScope s_law_words) := ⟨rfl, rfl, rfl, by decide +kernel, rfl, by decide +kernel, by decide +kernel⟩
abbrev s_law_either : Stmt := top 68
theorem sc_law_either : FnScope ["_law_hand_here", "_law_things"] ["_law_hand_here", "_law_things"] (defScope s_law_either) := ⟨rfl, rfl, rfl, by decide +kernel, rfl, by decide +kernel, by decide +kernel⟩
abbrev s_law_pick : Stmt := top 69
theorem sc_law_pick : FnScope ["_law_hand_here", "_law_menu"] ["_law_hand_here", "_law_menu"] (defScope s_law_pick) := ⟨rfl, rfl, rfl, by decide +kernel, rfl, by decide +kernel, by decide +kernel⟩
abbrev s_law_tuples : Stmt := top 70
theorem sc_law_tuples : FnScope ["_law_rows", "_law_row"] ["_law_rows"] (defScope s_law_tuples) := ⟨rfl, rfl, rfl, by decide +kernel, rfl, by decide +kernel, by decide +kernel⟩
abbrev s_law_full_web : Stmt := top 71
theorem sc_law_full_web : FnScope ["_law_hand_here", "_law_many", "_law_steps", "_law_told", "_law_unused", "_law_place", "_law_kind_here", "_law_operands_here", "_law_k", "_law_other"] ["_law_hand_here", "_law_many", "_law_steps"] (defScope s_law_full_web) := ⟨rfl, rfl, rfl, by decide +kernel, rfl, by decide +kernel, by decide +kernel⟩
abbrev s_law_alive : Stmt := top 72
theorem sc_law_alive : FnScope ["_law_rows", "_law_kept", "_law_told", "_law_place", "_law_kind_here", "_law_operands_here", "_law_o"] ["_law_rows"] (defScope s_law_alive) := ⟨rfl, rfl, rfl, by decide +kernel, rfl, by decide +kernel, by decide +kernel⟩
abbrev s_law_chain_steps : Stmt := top 73
theorem sc_law_chain_steps : FnScope ["_law_hand_here", "_law_many", "_law_steps", "_law_told", "_law_place"] ["_law_hand_here", "_law_many", "_law_steps"] (defScope s_law_chain_steps) := ⟨rfl, rfl, rfl, by decide +kernel, rfl, by decide +kernel, by decide +kernel⟩
abbrev s_law_drawn_steps : Stmt := top 74
theorem sc_law_drawn_steps : FnScope ["_law_hand_here", "_law_many", "_law_way"] ["_law_hand_here", "_law_many"] (defScope s_law_drawn_steps) := ⟨rfl, rfl, rfl, by decide +kernel, rfl, by decide +kernel, by decide +kernel⟩
abbrev s_law_step_right : Stmt := top 76
theorem sc_law_step_right : FnScope ["_law_step", "_law_kind_here", "_law_operands_here", "_law_places", "_law_other", "_law_o"] ["_law_step", "_law_kind_here", "_law_operands_here"] (defScope s_law_step_right) := ⟨rfl, rfl, rfl, by decide +kernel, rfl, by decide +kernel, by decide +kernel⟩
abbrev s_law_step_refused : Stmt := top 77
theorem sc_law_step_refused : FnScope ["_law_kind_here", "_law_operands_here", "raised"] ["_law_kind_here", "_law_operands_here"] (defScope s_law_step_refused) := ⟨rfl, rfl, rfl, by decide +kernel, rfl, by decide +kernel, by decide +kernel⟩
abbrev s_law_odd_kind : Stmt := top 78
theorem sc_law_odd_kind : FnScope ["_law_hand_here"] ["_law_hand_here"] (defScope s_law_odd_kind) := ⟨rfl, rfl, rfl, by decide +kernel, rfl, by decide +kernel, by decide +kernel⟩
abbrev s_law_odd_operand : Stmt := top 79
theorem sc_law_odd_operand : FnScope ["_law_hand_here"] ["_law_hand_here"] (defScope s_law_odd_operand) := ⟨rfl, rfl, rfl, by decide +kernel, rfl, by decide +kernel, by decide +kernel⟩
abbrev s_law_odd_steps : Stmt := top 80
theorem sc_law_odd_steps : FnScope ["_law_hand_here", "_law_kind_here", "_law_operands_here", "_law_place", "_law_k"] ["_law_hand_here", "_law_kind_here", "_law_operands_here"] (defScope s_law_odd_steps) := ⟨rfl, rfl, rfl, by decide +kernel, rfl, by decide +kernel, by decide +kernel⟩
abbrev s_law_web_due : Stmt := top 81
theorem sc_law_web_due : FnScope ["_law_width", "_law_many", "_law_rows", "_law_place", "_law_row", "_law_under_here", "_law_o"] ["_law_width", "_law_many", "_law_rows"] (defScope s_law_web_due) := ⟨rfl, rfl, rfl, by decide +kernel, rfl, by decide +kernel, by decide +kernel⟩
abbrev s_law_spoilt_rows : Stmt := top 82
theorem sc_law_spoilt_rows : FnScope ["_law_hand_here", "_law_rows", "_law_place", "_law_way", "_law_k"] ["_law_hand_here", "_law_rows"] (defScope s_law_spoilt_rows) := ⟨rfl, rfl, rfl, by decide +kernel, rfl, by decide +kernel, by decide +kernel⟩
abbrev s_law_web_told : Stmt := top 83
theorem sc_law_web_told : FnScope ["_law_hand_here", "_law_width", "_law_many", "_law_rows", "_law_handed", "raised", "_law_row"] ["_law_hand_here", "_law_width", "_law_many", "_law_rows"] (defScope s_law_web_told) := ⟨rfl, rfl, rfl, by decide +kernel, rfl, by decide +kernel, by decide +kernel⟩
abbrev s_law_web_right : Stmt := top 84
theorem sc_law_web_right : FnScope ["_law_made", "_law_width", "_law_many", "_law_rows", "_law_walked", "_law_place", "_law_kind_here", "_law_operands_here", "_law_step"] ["_law_made", "_law_width", "_law_many", "_law_rows"] (defScope s_law_web_right) := ⟨rfl, rfl, rfl, by decide +kernel, rfl, by decide +kernel, by decide +kernel⟩
abbrev s_law_inputs_told : Stmt := top 85
theorem sc_law_inputs_told : FnScope ["_law_made", "_law_inputs", "raised"] ["_law_made", "_law_inputs"] (defScope s_law_inputs_told) := ⟨rfl, rfl, rfl, by decide +kernel, rfl, by decide +kernel, by decide +kernel⟩
abbrev s_law_inputs_right : Stmt := top 86
theorem sc_law_inputs_right : FnScope ["_law_hand_here", "_law_made", "_law_width", "_law_many", "_law_rows", "_law_turn", "_law_words_here", "_law_due", "_law_handed", "_law_wrong", "_law_place"] ["_law_hand_here", "_law_made", "_law_width", "_law_many", "_law_rows"] (defScope s_law_inputs_right) := ⟨rfl, rfl, rfl, by decide +kernel, rfl, by decide +kernel, by decide +kernel⟩
abbrev s_law_case : Stmt := top 87
theorem sc_law_case : FnScope ["_law_hand_here", "_law_width", "_law_many", "_law_rows", "_law_due", "_law_made", "_law_again", "_law_other", "_law_kind_here", "_law_operands_here", "_law_turn", "_law_spoilt", "_law_wide", "_law_given", "_law_told"] ["_law_hand_here"] (defScope s_law_case) := ⟨rfl, rfl, rfl, by decide +kernel, rfl, by decide +kernel, by decide +kernel⟩
abbrev s_law : Stmt := top 88
theorem sc_law : FnScope ["_law_script", "_law_hand_here", "_law_turn"] ["_law_script"] (defScope s_law) := ⟨rfl, rfl, rfl, by decide +kernel, rfl, by decide +kernel, by decide +kernel⟩
abbrev s_BadInputs___init__ : Stmt := inClass (top 7) 0
theorem sc_BadInputs___init__ : FnScope ["self", "index", "what"] ["self", "index", "what"] (defScope s_BadInputs___init__) := ⟨rfl, rfl, rfl, by decide +kernel, rfl, by decide +kernel, by decide +kernel⟩
abbrev s_BadWeb___init__ : Stmt := inClass (top 10) 0
theorem sc_BadWeb___init__ : FnScope ["self", "place", "what"] ["self", "place", "what"] (defScope s_BadWeb___init__) := ⟨rfl, rfl, rfl, by decide +kernel, rfl, by decide +kernel, by decide +kernel⟩
abbrev s_BadBare___init__ : Stmt := inClass (top 11) 0
theorem sc_BadBare___init__ : FnScope ["self", "place", "what"] ["self", "place", "what"] (defScope s_BadBare___init__) := ⟨rfl, rfl, rfl, by decide +kernel, rfl, by decide +kernel, by decide +kernel⟩
abbrev s_Step___init__ : Stmt := inClass (top 33) 0
theorem sc_Step___init__ : FnScope ["self", "kind", "operands", "name", "number"] ["self", "kind", "operands"] (defScope s_Step___init__) := ⟨rfl, rfl, rfl, by decide +kernel, rfl, by decide +kernel, by decide +kernel⟩
abbrev s_Step___eq__ : Stmt := inClass (top 33) 1
theorem sc_Step___eq__ : FnScope ["self", "other"] ["self", "other"] (defScope s_Step___eq__) := ⟨rfl, rfl, rfl, by decide +kernel, rfl, by decide +kernel, by decide +kernel⟩
abbrev s_Bare___init__ : Stmt := inClass (top 43) 0
theorem sc_Bare___init__ : FnScope ["self", "befores", "end", "listed"] ["self", "befores", "end"] (defScope s_Bare___init__) := ⟨rfl, rfl, rfl, by decide +kernel, rfl, by decide +kernel, by decide +kernel⟩
abbrev s_Bare___len__ : Stmt := inClass (top 43) 1
theorem sc_Bare___len__ : FnScope ["self"] ["self"] (defScope s_Bare___len__) := ⟨rfl, rfl, rfl, by decide +kernel, rfl, by decide +kernel, by decide +kernel⟩
abbrev s_Bare___eq__ : Stmt := inClass (top 43) 2
theorem sc_Bare___eq__ : FnScope ["self", "other"] ["self", "other"] (defScope s_Bare___eq__) := ⟨rfl, rfl, rfl, by decide +kernel, rfl, by decide +kernel, by decide +kernel⟩
abbrev s_Web___init__ : Stmt := inClass (top 48) 0
theorem sc_Web___init__ : FnScope ["self", "width", "many", "steps", "step"] ["self", "width", "many", "steps"] (defScope s_Web___init__) := ⟨rfl, rfl, rfl, by decide +kernel, rfl, by decide +kernel, by decide +kernel⟩
abbrev s_Web___len__ : Stmt := inClass (top 48) 1
theorem sc_Web___len__ : FnScope ["self"] ["self"] (defScope s_Web___len__) := ⟨rfl, rfl, rfl, by decide +kernel, rfl, by decide +kernel, by decide +kernel⟩
abbrev s_Web___iter__ : Stmt := inClass (top 48) 2
theorem sc_Web___iter__ : FnScope ["self"] ["self"] (defScope s_Web___iter__) := ⟨rfl, rfl, rfl, by decide +kernel, rfl, by decide +kernel, by decide +kernel⟩
abbrev s_Web___eq__ : Stmt := inClass (top 48) 3
theorem sc_Web___eq__ : FnScope ["self", "other"] ["self", "other"] (defScope s_Web___eq__) := ⟨rfl, rfl, rfl, by decide +kernel, rfl, by decide +kernel, by decide +kernel⟩
structure Ad where
  f_is_whole : Addr
  d_is_whole : FuncData
  f_is_within : Addr
  d_is_within : FuncData
  f_is_sequence : Addr
  d_is_sequence : FuncData
  f_mask_of : Addr
  d_mask_of : FuncData
  f_check_inputs : Addr
  d_check_inputs : FuncData
  f_is_number : Addr
  d_is_number : FuncData
  f_is_table : Addr
  d_is_table : FuncData
  f_check_kind : Addr
  d_check_kind : FuncData
  f_operand_count : Addr
  d_operand_count : FuncData
  f_step_word : Addr
  d_step_word : FuncData
  f_pair_word : Addr
  d_pair_word : FuncData
  f_single_word : Addr
  d_single_word : FuncData
  f_is_operand : Addr
  d_is_operand : FuncData
  f_checked_kind : Addr
  d_checked_kind : FuncData
  f_checked_operands : Addr
  d_checked_operands : FuncData
  f_is_place : Addr
  d_is_place : FuncData
  f_is_before_list : Addr
  d_is_before_list : FuncData
  f_checked_befores : Addr
  d_checked_befores : FuncData
  f_afters_of : Addr
  d_afters_of : FuncData
  f_ordered_of : Addr
  d_ordered_of : FuncData
  f_reached_along : Addr
  d_reached_along : FuncData
  f_check_rings : Addr
  d_check_rings : FuncData
  f_check_roads : Addr
  d_check_roads : FuncData
  f_check_shape : Addr
  d_check_shape : FuncData
  f_check_steps : Addr
  d_check_steps : FuncData
  f_check_idle : Addr
  d_check_idle : FuncData
  f_operand_word : Addr
  d_operand_word : FuncData
  f_word_over : Addr
  d_word_over : FuncData
  f_web_worths : Addr
  d_web_worths : FuncData
  f_web_worth : Addr
  d_web_worth : FuncData
  f_law_hand : Addr
  d_law_hand : FuncData
  f_law_mixed : Addr
  d_law_mixed : FuncData
  f_law_take : Addr
  d_law_take : FuncData
  f_law_whole : Addr
  d_law_whole : FuncData
  f_law_two : Addr
  d_law_two : FuncData
  f_law_kind : Addr
  d_law_kind : FuncData
  f_law_operands : Addr
  d_law_operands : FuncData
  f_law_bits : Addr
  d_law_bits : FuncData
  f_law_step_word : Addr
  d_law_step_word : FuncData
  f_law_under : Addr
  d_law_under : FuncData
  f_law_operand : Addr
  d_law_operand : FuncData
  f_law_web_words : Addr
  d_law_web_words : FuncData
  f_law_web_befores : Addr
  d_law_web_befores : FuncData
  f_law_words : Addr
  d_law_words : FuncData
  f_law_either : Addr
  d_law_either : FuncData
  f_law_pick : Addr
  d_law_pick : FuncData
  f_law_tuples : Addr
  d_law_tuples : FuncData
  f_law_full_web : Addr
  d_law_full_web : FuncData
  f_law_alive : Addr
  d_law_alive : FuncData
  f_law_chain_steps : Addr
  d_law_chain_steps : FuncData
  f_law_drawn_steps : Addr
  d_law_drawn_steps : FuncData
  f_law_step_right : Addr
  d_law_step_right : FuncData
  f_law_step_refused : Addr
  d_law_step_refused : FuncData
  f_law_odd_kind : Addr
  d_law_odd_kind : FuncData
  f_law_odd_operand : Addr
  d_law_odd_operand : FuncData
  f_law_odd_steps : Addr
  d_law_odd_steps : FuncData
  f_law_web_due : Addr
  d_law_web_due : FuncData
  f_law_spoilt_rows : Addr
  d_law_spoilt_rows : FuncData
  f_law_web_told : Addr
  d_law_web_told : FuncData
  f_law_web_right : Addr
  d_law_web_right : FuncData
  f_law_inputs_told : Addr
  d_law_inputs_told : FuncData
  f_law_inputs_right : Addr
  d_law_inputs_right : FuncData
  f_law_case : Addr
  d_law_case : FuncData
  f_law : Addr
  d_law : FuncData
  c_UndoError : Addr
  c_BadInputs : Addr
  c_BadKind : Addr
  c_BadStep : Addr
  c_BadWeb : Addr
  c_BadBare : Addr
  c_Step : Addr
  c_Bare : Addr
  c_Web : Addr
  f_BadInputs___init__ : Addr
  d_BadInputs___init__ : FuncData
  f_BadWeb___init__ : Addr
  d_BadWeb___init__ : FuncData
  f_BadBare___init__ : Addr
  d_BadBare___init__ : FuncData
  f_Step___init__ : Addr
  d_Step___init__ : FuncData
  f_Step___eq__ : Addr
  d_Step___eq__ : FuncData
  f_Bare___init__ : Addr
  d_Bare___init__ : FuncData
  f_Bare___len__ : Addr
  d_Bare___len__ : FuncData
  f_Bare___eq__ : Addr
  d_Bare___eq__ : FuncData
  f_Web___init__ : Addr
  d_Web___init__ : FuncData
  f_Web___len__ : Addr
  d_Web___len__ : FuncData
  f_Web___iter__ : Addr
  d_Web___iter__ : FuncData
  f_Web___eq__ : Addr
  d_Web___eq__ : FuncData
  p_TABLE_SIZES : Addr
  p_PAIR_SIGNS : Addr
  p_SHIFT_SIGNS : Addr
  p_OPERAND_ENDS : Addr
structure Txt (K : PySem.W.Frag) (mg : Str → Option Value) (a : Ad) : Prop where
  m_is_whole : mg "is_whole" = some (.ref a.f_is_whole)
  F_is_whole : Fun K "is_whole" "is_whole" s_is_whole a.f_is_whole a.d_is_whole
  b_is_whole : Binds K a.d_is_whole ["thing"] []
  m_is_within : mg "is_within" = some (.ref a.f_is_within)
  F_is_within : Fun K "is_within" "is_within" s_is_within a.f_is_within a.d_is_within
  b_is_within : Binds K a.d_is_within ["thing", "least", "most"] []
  m_is_sequence : mg "is_sequence" = some (.ref a.f_is_sequence)
  F_is_sequence : Fun K "is_sequence" "is_sequence" s_is_sequence a.f_is_sequence a.d_is_sequence
  b_is_sequence : Binds K a.d_is_sequence ["thing"] []
  m_mask_of : mg "mask_of" = some (.ref a.f_mask_of)
  F_mask_of : Fun K "mask_of" "mask_of" s_mask_of a.f_mask_of a.d_mask_of
  b_mask_of : Binds K a.d_mask_of ["places"] []
  m_check_inputs : mg "check_inputs" = some (.ref a.f_check_inputs)
  F_check_inputs : Fun K "check_inputs" "check_inputs" s_check_inputs a.f_check_inputs a.d_check_inputs
  b_check_inputs : Binds K a.d_check_inputs ["inputs", "many", "width"] []
  m_is_number : mg "is_number" = some (.ref a.f_is_number)
  F_is_number : Fun K "is_number" "is_number" s_is_number a.f_is_number a.d_is_number
  b_is_number : Binds K a.d_is_number ["thing"] []
  m_is_table : mg "is_table" = some (.ref a.f_is_table)
  F_is_table : Fun K "is_table" "is_table" s_is_table a.f_is_table a.d_is_table
  b_is_table : Binds K a.d_is_table ["numbers"] []
  m_check_kind : mg "check_kind" = some (.ref a.f_check_kind)
  F_check_kind : Fun K "check_kind" "check_kind" s_check_kind a.f_check_kind a.d_check_kind
  b_check_kind : Binds K a.d_check_kind ["kind"] []
  m_operand_count : mg "operand_count" = some (.ref a.f_operand_count)
  F_operand_count : Fun K "operand_count" "operand_count" s_operand_count a.f_operand_count a.d_operand_count
  b_operand_count : Binds K a.d_operand_count ["kind"] []
  m_step_word : mg "step_word" = some (.ref a.f_step_word)
  F_step_word : Fun K "step_word" "step_word" s_step_word a.f_step_word a.d_step_word
  b_step_word : Binds K a.d_step_word ["kind", "words", "width"] []
  m_pair_word : mg "pair_word" = some (.ref a.f_pair_word)
  F_pair_word : Fun K "pair_word" "pair_word" s_pair_word a.f_pair_word a.d_pair_word
  b_pair_word : Binds K a.d_pair_word ["sign", "one", "other"] []
  m_single_word : mg "single_word" = some (.ref a.f_single_word)
  F_single_word : Fun K "single_word" "single_word" s_single_word a.f_single_word a.d_single_word
  b_single_word : Binds K a.d_single_word ["kind", "word"] []
  m_is_operand : mg "is_operand" = some (.ref a.f_is_operand)
  F_is_operand : Fun K "is_operand" "is_operand" s_is_operand a.f_is_operand a.d_is_operand
  b_is_operand : Binds K a.d_is_operand ["thing"] []
  m_checked_kind : mg "checked_kind" = some (.ref a.f_checked_kind)
  F_checked_kind : Fun K "checked_kind" "checked_kind" s_checked_kind a.f_checked_kind a.d_checked_kind
  b_checked_kind : Binds K a.d_checked_kind ["kind"] []
  m_checked_operands : mg "checked_operands" = some (.ref a.f_checked_operands)
  F_checked_operands : Fun K "checked_operands" "checked_operands" s_checked_operands a.f_checked_operands a.d_checked_operands
  b_checked_operands : Binds K a.d_checked_operands ["kind", "operands"] []
  m_is_place : mg "is_place" = some (.ref a.f_is_place)
  F_is_place : Fun K "is_place" "is_place" s_is_place a.f_is_place a.d_is_place
  b_is_place : Binds K a.d_is_place ["bare", "thing"] []
  m_is_before_list : mg "is_before_list" = some (.ref a.f_is_before_list)
  F_is_before_list : Fun K "is_before_list" "is_before_list" s_is_before_list a.f_is_before_list a.d_is_before_list
  b_is_before_list : Binds K a.d_is_before_list ["thing", "place", "many"] []
  m_checked_befores : mg "checked_befores" = some (.ref a.f_checked_befores)
  F_checked_befores : Fun K "checked_befores" "checked_befores" s_checked_befores a.f_checked_befores a.d_checked_befores
  b_checked_befores : Binds K a.d_checked_befores ["befores"] []
  m_afters_of : mg "afters_of" = some (.ref a.f_afters_of)
  F_afters_of : Fun K "afters_of" "afters_of" s_afters_of a.f_afters_of a.d_afters_of
  b_afters_of : Binds K a.d_afters_of ["befores"] []
  m_ordered_of : mg "ordered_of" = some (.ref a.f_ordered_of)
  F_ordered_of : Fun K "ordered_of" "ordered_of" s_ordered_of a.f_ordered_of a.d_ordered_of
  b_ordered_of : Binds K a.d_ordered_of ["befores", "afters"] []
  m_reached_along : mg "reached_along" = some (.ref a.f_reached_along)
  F_reached_along : FunD K "reached_along" "reached_along" (defArgs s_reached_along) (defBody s_reached_along) (defScope s_reached_along) [V.int 0] [] a.f_reached_along a.d_reached_along
  b_reached_along : ∃ ds, Vals [V.int 0] ds ∧ Binds K a.d_reached_along ["arrows", "place", "barred"] ds
  m_check_rings : mg "check_rings" = some (.ref a.f_check_rings)
  F_check_rings : Fun K "check_rings" "check_rings" s_check_rings a.f_check_rings a.d_check_rings
  b_check_rings : Binds K a.d_check_rings ["befores"] []
  m_check_roads : mg "check_roads" = some (.ref a.f_check_roads)
  F_check_roads : Fun K "check_roads" "check_roads" s_check_roads a.f_check_roads a.d_check_roads
  b_check_roads : Binds K a.d_check_roads ["befores", "end"] []
  m_check_shape : mg "check_shape" = some (.ref a.f_check_shape)
  F_check_shape : Fun K "check_shape" "check_shape" s_check_shape a.f_check_shape a.d_check_shape
  b_check_shape : Binds K a.d_check_shape ["width", "many", "steps"] []
  m_check_steps : mg "check_steps" = some (.ref a.f_check_steps)
  F_check_steps : Fun K "check_steps" "check_steps" s_check_steps a.f_check_steps a.d_check_steps
  b_check_steps : Binds K a.d_check_steps ["steps", "many"] []
  m_check_idle : mg "check_idle" = some (.ref a.f_check_idle)
  F_check_idle : Fun K "check_idle" "check_idle" s_check_idle a.f_check_idle a.d_check_idle
  b_check_idle : Binds K a.d_check_idle ["steps"] []
  m_operand_word : mg "operand_word" = some (.ref a.f_operand_word)
  F_operand_word : Fun K "operand_word" "operand_word" s_operand_word a.f_operand_word a.d_operand_word
  b_operand_word : Binds K a.d_operand_word ["operand", "words", "inputs", "width"] []
  m_word_over : mg "word_over" = some (.ref a.f_word_over)
  F_word_over : Fun K "word_over" "word_over" s_word_over a.f_word_over a.d_word_over
  b_word_over : Binds K a.d_word_over ["step", "words", "inputs", "width"] []
  m_web_worths : mg "web_worths" = some (.ref a.f_web_worths)
  F_web_worths : Fun K "web_worths" "web_worths" s_web_worths a.f_web_worths a.d_web_worths
  b_web_worths : Binds K a.d_web_worths ["web", "inputs"] []
  m_web_worth : mg "web_worth" = some (.ref a.f_web_worth)
  F_web_worth : Fun K "web_worth" "web_worth" s_web_worth a.f_web_worth a.d_web_worth
  b_web_worth : Binds K a.d_web_worth ["web", "inputs"] []
  m_law_hand : mg "_law_hand" = some (.ref a.f_law_hand)
  F_law_hand : Fun K "_law_hand" "_law_hand" s_law_hand a.f_law_hand a.d_law_hand
  b_law_hand : Binds K a.d_law_hand ["_law_script"] []
  m_law_mixed : mg "_law_mixed" = some (.ref a.f_law_mixed)
  F_law_mixed : Fun K "_law_mixed" "_law_mixed" s_law_mixed a.f_law_mixed a.d_law_mixed
  b_law_mixed : Binds K a.d_law_mixed ["_law_number", "_law_turn"] []
  m_law_take : mg "_law_take" = some (.ref a.f_law_take)
  F_law_take : Fun K "_law_take" "_law_take" s_law_take a.f_law_take a.d_law_take
  b_law_take : Binds K a.d_law_take ["_law_hand_here", "_law_many"] []
  m_law_whole : mg "_law_whole" = some (.ref a.f_law_whole)
  F_law_whole : Fun K "_law_whole" "_law_whole" s_law_whole a.f_law_whole a.d_law_whole
  b_law_whole : Binds K a.d_law_whole ["_law_thing"] []
  m_law_two : mg "_law_two" = some (.ref a.f_law_two)
  F_law_two : Fun K "_law_two" "_law_two" s_law_two a.f_law_two a.d_law_two
  b_law_two : Binds K a.d_law_two ["_law_n"] []
  m_law_kind : mg "_law_kind" = some (.ref a.f_law_kind)
  F_law_kind : Fun K "_law_kind" "_law_kind" s_law_kind a.f_law_kind a.d_law_kind
  b_law_kind : Binds K a.d_law_kind ["_law_hand_here"] []
  m_law_operands : mg "_law_operands" = some (.ref a.f_law_operands)
  F_law_operands : Fun K "_law_operands" "_law_operands" s_law_operands a.f_law_operands a.d_law_operands
  b_law_operands : Binds K a.d_law_operands ["_law_kind_here"] []
  m_law_bits : mg "_law_bits" = some (.ref a.f_law_bits)
  F_law_bits : Fun K "_law_bits" "_law_bits" s_law_bits a.f_law_bits a.d_law_bits
  b_law_bits : Binds K a.d_law_bits ["_law_one", "_law_other", "_law_sign"] []
  m_law_step_word : mg "_law_step_word" = some (.ref a.f_law_step_word)
  F_law_step_word : Fun K "_law_step_word" "_law_step_word" s_law_step_word a.f_law_step_word a.d_law_step_word
  b_law_step_word : Binds K a.d_law_step_word ["_law_kind_here", "_law_words_here", "_law_width"] []
  m_law_under : mg "_law_under" = some (.ref a.f_law_under)
  F_law_under : Fun K "_law_under" "_law_under" s_law_under a.f_law_under a.d_law_under
  b_law_under : Binds K a.d_law_under ["_law_befores", "_law_place"] []
  m_law_operand : mg "_law_operand" = some (.ref a.f_law_operand)
  F_law_operand : Fun K "_law_operand" "_law_operand" s_law_operand a.f_law_operand a.d_law_operand
  b_law_operand : Binds K a.d_law_operand ["_law_hand_here", "_law_place", "_law_many"] []
  m_law_web_words : mg "_law_web_words" = some (.ref a.f_law_web_words)
  F_law_web_words : Fun K "_law_web_words" "_law_web_words" s_law_web_words a.f_law_web_words a.d_law_web_words
  b_law_web_words : Binds K a.d_law_web_words ["_law_steps", "_law_width", "_law_inputs"] []
  m_law_web_befores : mg "_law_web_befores" = some (.ref a.f_law_web_befores)
  F_law_web_befores : Fun K "_law_web_befores" "_law_web_befores" s_law_web_befores a.f_law_web_befores a.d_law_web_befores
  b_law_web_befores : Binds K a.d_law_web_befores ["_law_steps"] []
  m_law_words : mg "_law_words" = some (.ref a.f_law_words)
  F_law_words : Fun K "_law_words" "_law_words" s_law_words a.f_law_words a.d_law_words
  b_law_words : Binds K a.d_law_words ["_law_hand_here", "_law_many", "_law_width"] []
  m_law_either : mg "_law_either" = some (.ref a.f_law_either)
  F_law_either : Fun K "_law_either" "_law_either" s_law_either a.f_law_either a.d_law_either
  b_law_either : Binds K a.d_law_either ["_law_hand_here", "_law_things"] []
  m_law_pick : mg "_law_pick" = some (.ref a.f_law_pick)
  F_law_pick : Fun K "_law_pick" "_law_pick" s_law_pick a.f_law_pick a.d_law_pick
  b_law_pick : Binds K a.d_law_pick ["_law_hand_here", "_law_menu"] []
  m_law_tuples : mg "_law_tuples" = some (.ref a.f_law_tuples)
  F_law_tuples : Fun K "_law_tuples" "_law_tuples" s_law_tuples a.f_law_tuples a.d_law_tuples
  b_law_tuples : Binds K a.d_law_tuples ["_law_rows"] []
  m_law_full_web : mg "_law_full_web" = some (.ref a.f_law_full_web)
  F_law_full_web : Fun K "_law_full_web" "_law_full_web" s_law_full_web a.f_law_full_web a.d_law_full_web
  b_law_full_web : Binds K a.d_law_full_web ["_law_hand_here", "_law_many", "_law_steps"] []
  m_law_alive : mg "_law_alive" = some (.ref a.f_law_alive)
  F_law_alive : Fun K "_law_alive" "_law_alive" s_law_alive a.f_law_alive a.d_law_alive
  b_law_alive : Binds K a.d_law_alive ["_law_rows"] []
  m_law_chain_steps : mg "_law_chain_steps" = some (.ref a.f_law_chain_steps)
  F_law_chain_steps : Fun K "_law_chain_steps" "_law_chain_steps" s_law_chain_steps a.f_law_chain_steps a.d_law_chain_steps
  b_law_chain_steps : Binds K a.d_law_chain_steps ["_law_hand_here", "_law_many", "_law_steps"] []
  m_law_drawn_steps : mg "_law_drawn_steps" = some (.ref a.f_law_drawn_steps)
  F_law_drawn_steps : Fun K "_law_drawn_steps" "_law_drawn_steps" s_law_drawn_steps a.f_law_drawn_steps a.d_law_drawn_steps
  b_law_drawn_steps : Binds K a.d_law_drawn_steps ["_law_hand_here", "_law_many"] []
  m_law_step_right : mg "_law_step_right" = some (.ref a.f_law_step_right)
  F_law_step_right : Fun K "_law_step_right" "_law_step_right" s_law_step_right a.f_law_step_right a.d_law_step_right
  b_law_step_right : Binds K a.d_law_step_right ["_law_step", "_law_kind_here", "_law_operands_here"] []
  m_law_step_refused : mg "_law_step_refused" = some (.ref a.f_law_step_refused)
  F_law_step_refused : Fun K "_law_step_refused" "_law_step_refused" s_law_step_refused a.f_law_step_refused a.d_law_step_refused
  b_law_step_refused : Binds K a.d_law_step_refused ["_law_kind_here", "_law_operands_here"] []
  m_law_odd_kind : mg "_law_odd_kind" = some (.ref a.f_law_odd_kind)
  F_law_odd_kind : Fun K "_law_odd_kind" "_law_odd_kind" s_law_odd_kind a.f_law_odd_kind a.d_law_odd_kind
  b_law_odd_kind : Binds K a.d_law_odd_kind ["_law_hand_here"] []
  m_law_odd_operand : mg "_law_odd_operand" = some (.ref a.f_law_odd_operand)
  F_law_odd_operand : Fun K "_law_odd_operand" "_law_odd_operand" s_law_odd_operand a.f_law_odd_operand a.d_law_odd_operand
  b_law_odd_operand : Binds K a.d_law_odd_operand ["_law_hand_here"] []
  m_law_odd_steps : mg "_law_odd_steps" = some (.ref a.f_law_odd_steps)
  F_law_odd_steps : Fun K "_law_odd_steps" "_law_odd_steps" s_law_odd_steps a.f_law_odd_steps a.d_law_odd_steps
  b_law_odd_steps : Binds K a.d_law_odd_steps ["_law_hand_here", "_law_kind_here", "_law_operands_here"] []
  m_law_web_due : mg "_law_web_due" = some (.ref a.f_law_web_due)
  F_law_web_due : Fun K "_law_web_due" "_law_web_due" s_law_web_due a.f_law_web_due a.d_law_web_due
  b_law_web_due : Binds K a.d_law_web_due ["_law_width", "_law_many", "_law_rows"] []
  m_law_spoilt_rows : mg "_law_spoilt_rows" = some (.ref a.f_law_spoilt_rows)
  F_law_spoilt_rows : Fun K "_law_spoilt_rows" "_law_spoilt_rows" s_law_spoilt_rows a.f_law_spoilt_rows a.d_law_spoilt_rows
  b_law_spoilt_rows : Binds K a.d_law_spoilt_rows ["_law_hand_here", "_law_rows"] []
  m_law_web_told : mg "_law_web_told" = some (.ref a.f_law_web_told)
  F_law_web_told : Fun K "_law_web_told" "_law_web_told" s_law_web_told a.f_law_web_told a.d_law_web_told
  b_law_web_told : Binds K a.d_law_web_told ["_law_hand_here", "_law_width", "_law_many", "_law_rows"] []
  m_law_web_right : mg "_law_web_right" = some (.ref a.f_law_web_right)
  F_law_web_right : Fun K "_law_web_right" "_law_web_right" s_law_web_right a.f_law_web_right a.d_law_web_right
  b_law_web_right : Binds K a.d_law_web_right ["_law_made", "_law_width", "_law_many", "_law_rows"] []
  m_law_inputs_told : mg "_law_inputs_told" = some (.ref a.f_law_inputs_told)
  F_law_inputs_told : Fun K "_law_inputs_told" "_law_inputs_told" s_law_inputs_told a.f_law_inputs_told a.d_law_inputs_told
  b_law_inputs_told : Binds K a.d_law_inputs_told ["_law_made", "_law_inputs"] []
  m_law_inputs_right : mg "_law_inputs_right" = some (.ref a.f_law_inputs_right)
  F_law_inputs_right : Fun K "_law_inputs_right" "_law_inputs_right" s_law_inputs_right a.f_law_inputs_right a.d_law_inputs_right
  b_law_inputs_right : Binds K a.d_law_inputs_right ["_law_hand_here", "_law_made", "_law_width", "_law_many", "_law_rows"] []
  m_law_case : mg "_law_case" = some (.ref a.f_law_case)
  F_law_case : Fun K "_law_case" "_law_case" s_law_case a.f_law_case a.d_law_case
  b_law_case : Binds K a.d_law_case ["_law_hand_here"] []
  m_law : mg "law" = some (.ref a.f_law)
  F_law : Fun K "law" "law" s_law a.f_law a.d_law
  b_law : Binds K a.d_law ["_law_script"] []
  m_BadInputs : mg "BadInputs" = some (.ref a.c_BadInputs)
  x_BadInputs : OexC K a.c_BadInputs
  xf_BadInputs : XfC K a.c_BadInputs
  xi_BadInputs : PySem.W.findIn K (.ref a.c_BadInputs) "__init__" = some (some (.ref a.f_BadInputs___init__))
  xt_BadInputs : PySem.W.typeIn K (.ref a.f_BadInputs___init__) = some (.type "function")
  xe_BadInputs : PySem.W.exmOne K (.ref a.c_BadInputs) (.ref a.c_BadInputs) = some true
  xn_BadInputs_index : PySem.W.findIn K (.ref a.c_BadInputs) "index" = some none
  xn_BadInputs_what : PySem.W.findIn K (.ref a.c_BadInputs) "what" = some none
  F_BadInputs___init__ : Fun K "__init__" "BadInputs.__init__" s_BadInputs___init__ a.f_BadInputs___init__ a.d_BadInputs___init__
  b_BadInputs___init__ : Binds K a.d_BadInputs___init__ ["self", "index", "what"] []
  m_BadWeb : mg "BadWeb" = some (.ref a.c_BadWeb)
  x_BadWeb : OexC K a.c_BadWeb
  xf_BadWeb : XfC K a.c_BadWeb
  xi_BadWeb : PySem.W.findIn K (.ref a.c_BadWeb) "__init__" = some (some (.ref a.f_BadWeb___init__))
  xt_BadWeb : PySem.W.typeIn K (.ref a.f_BadWeb___init__) = some (.type "function")
  xe_BadWeb : PySem.W.exmOne K (.ref a.c_BadWeb) (.ref a.c_BadWeb) = some true
  xn_BadWeb_place : PySem.W.findIn K (.ref a.c_BadWeb) "place" = some none
  xn_BadWeb_what : PySem.W.findIn K (.ref a.c_BadWeb) "what" = some none
  F_BadWeb___init__ : Fun K "__init__" "BadWeb.__init__" s_BadWeb___init__ a.f_BadWeb___init__ a.d_BadWeb___init__
  b_BadWeb___init__ : Binds K a.d_BadWeb___init__ ["self", "place", "what"] []
  m_BadBare : mg "BadBare" = some (.ref a.c_BadBare)
  x_BadBare : OexC K a.c_BadBare
  xf_BadBare : XfC K a.c_BadBare
  xi_BadBare : PySem.W.findIn K (.ref a.c_BadBare) "__init__" = some (some (.ref a.f_BadBare___init__))
  xt_BadBare : PySem.W.typeIn K (.ref a.f_BadBare___init__) = some (.type "function")
  xe_BadBare : PySem.W.exmOne K (.ref a.c_BadBare) (.ref a.c_BadBare) = some true
  xn_BadBare_place : PySem.W.findIn K (.ref a.c_BadBare) "place" = some none
  xn_BadBare_what : PySem.W.findIn K (.ref a.c_BadBare) "what" = some none
  F_BadBare___init__ : Fun K "__init__" "BadBare.__init__" s_BadBare___init__ a.f_BadBare___init__ a.d_BadBare___init__
  b_BadBare___init__ : Binds K a.d_BadBare___init__ ["self", "place", "what"] []
  m_Step : mg "Step" = some (.ref a.c_Step)
  F_Step___init__ : Fun K "__init__" "Step.__init__" s_Step___init__ a.f_Step___init__ a.d_Step___init__
  b_Step___init__ : Binds K a.d_Step___init__ ["self", "kind", "operands"] []
  F_Step___eq__ : Fun K "__eq__" "Step.__eq__" s_Step___eq__ a.f_Step___eq__ a.d_Step___eq__
  b_Step___eq__ : Binds K a.d_Step___eq__ ["self", "other"] []
  at_Step___eq__ : PySem.W.findIn K (.ref a.c_Step) "__eq__" = some (some (.ref a.f_Step___eq__))
  fn_Step___eq__ : PySem.W.isFn K (.ref a.f_Step___eq__) = true
  mk_Step : Mk K a.c_Step a.f_Step___init__
  ic_Step : C8.InsC K a.c_Step
  ne_Step : PySem.W.findIn K (.ref a.c_Step) "__ne__" = some (some (.builtin "object.__ne__"))
  na_Step_kind : NoAttr K a.c_Step "kind"
  na_Step_operands : NoAttr K a.c_Step "operands"
  na_Step_befores : NoAttr K a.c_Step "befores"
  m_Bare : mg "Bare" = some (.ref a.c_Bare)
  F_Bare___init__ : Fun K "__init__" "Bare.__init__" s_Bare___init__ a.f_Bare___init__ a.d_Bare___init__
  b_Bare___init__ : Binds K a.d_Bare___init__ ["self", "befores", "end"] []
  F_Bare___len__ : Fun K "__len__" "Bare.__len__" s_Bare___len__ a.f_Bare___len__ a.d_Bare___len__
  b_Bare___len__ : Binds K a.d_Bare___len__ ["self"] []
  at_Bare___len__ : PySem.W.findIn K (.ref a.c_Bare) "__len__" = some (some (.ref a.f_Bare___len__))
  fn_Bare___len__ : PySem.W.isFn K (.ref a.f_Bare___len__) = true
  F_Bare___eq__ : Fun K "__eq__" "Bare.__eq__" s_Bare___eq__ a.f_Bare___eq__ a.d_Bare___eq__
  b_Bare___eq__ : Binds K a.d_Bare___eq__ ["self", "other"] []
  at_Bare___eq__ : PySem.W.findIn K (.ref a.c_Bare) "__eq__" = some (some (.ref a.f_Bare___eq__))
  fn_Bare___eq__ : PySem.W.isFn K (.ref a.f_Bare___eq__) = true
  mk_Bare : Mk K a.c_Bare a.f_Bare___init__
  ic_Bare : C8.InsC K a.c_Bare
  ne_Bare : PySem.W.findIn K (.ref a.c_Bare) "__ne__" = some (some (.builtin "object.__ne__"))
  na_Bare_befores : NoAttr K a.c_Bare "befores"
  na_Bare_end : NoAttr K a.c_Bare "end"
  na_Bare_afters : NoAttr K a.c_Bare "afters"
  na_Bare_ordered : NoAttr K a.c_Bare "ordered"
  na_Bare_needs : NoAttr K a.c_Bare "needs"
  m_Web : mg "Web" = some (.ref a.c_Web)
  F_Web___init__ : Fun K "__init__" "Web.__init__" s_Web___init__ a.f_Web___init__ a.d_Web___init__
  b_Web___init__ : Binds K a.d_Web___init__ ["self", "width", "many", "steps"] []
  F_Web___len__ : Fun K "__len__" "Web.__len__" s_Web___len__ a.f_Web___len__ a.d_Web___len__
  b_Web___len__ : Binds K a.d_Web___len__ ["self"] []
  at_Web___len__ : PySem.W.findIn K (.ref a.c_Web) "__len__" = some (some (.ref a.f_Web___len__))
  fn_Web___len__ : PySem.W.isFn K (.ref a.f_Web___len__) = true
  F_Web___iter__ : Fun K "__iter__" "Web.__iter__" s_Web___iter__ a.f_Web___iter__ a.d_Web___iter__
  b_Web___iter__ : Binds K a.d_Web___iter__ ["self"] []
  at_Web___iter__ : PySem.W.findIn K (.ref a.c_Web) "__iter__" = some (some (.ref a.f_Web___iter__))
  fn_Web___iter__ : PySem.W.isFn K (.ref a.f_Web___iter__) = true
  F_Web___eq__ : Fun K "__eq__" "Web.__eq__" s_Web___eq__ a.f_Web___eq__ a.d_Web___eq__
  b_Web___eq__ : Binds K a.d_Web___eq__ ["self", "other"] []
  at_Web___eq__ : PySem.W.findIn K (.ref a.c_Web) "__eq__" = some (some (.ref a.f_Web___eq__))
  fn_Web___eq__ : PySem.W.isFn K (.ref a.f_Web___eq__) = true
  mk_Web : Mk K a.c_Web a.f_Web___init__
  ic_Web : C8.InsC K a.c_Web
  ne_Web : PySem.W.findIn K (.ref a.c_Web) "__ne__" = some (some (.builtin "object.__ne__"))
  na_Web_width : NoAttr K a.c_Web "width"
  na_Web_many : NoAttr K a.c_Web "many"
  na_Web_steps : NoAttr K a.c_Web "steps"
  na_Web_end : NoAttr K a.c_Web "end"
  na_Web_bare : NoAttr K a.c_Web "bare"
  m_BadKind : mg "BadKind" = some (.ref a.c_BadKind)
  q_BadKind : PySem.W.excIn K a.c_BadKind [.type "ValueError", .type "Exception", .type "BaseException", .type "object"] "ValueError.__new__" = true
  k_BadKind : PySem.W.keepIn K (.ref a.c_BadKind) = true
  sb_BadKind : PySem.W.subIn K (.ref a.c_BadKind) (.type "BaseException") = some true
  ty_BadKind : PySem.W.typeIn K (.ref a.c_BadKind) = some (.type "type")
  xe_BadKind : PySem.W.exmOne K (.ref a.c_BadKind) (.ref a.c_BadKind) = some true
  m_BadStep : mg "BadStep" = some (.ref a.c_BadStep)
  q_BadStep : PySem.W.excIn K a.c_BadStep [.type "ValueError", .type "Exception", .type "BaseException", .type "object"] "ValueError.__new__" = true
  k_BadStep : PySem.W.keepIn K (.ref a.c_BadStep) = true
  sb_BadStep : PySem.W.subIn K (.ref a.c_BadStep) (.type "BaseException") = some true
  ty_BadStep : PySem.W.typeIn K (.ref a.c_BadStep) = some (.type "type")
  xe_BadStep : PySem.W.exmOne K (.ref a.c_BadStep) (.ref a.c_BadStep) = some true
  g_MOST_WIDTH : ∃ u, mg "MOST_WIDTH" = some u ∧ RelV (.int 12) u
  g_MOST_NUMBER : ∃ u, mg "MOST_NUMBER" = some u ∧ RelV (.int 4095) u
  g_TABLE_SIZES : ∃ u, mg "TABLE_SIZES" = some u ∧ RelV (.ref a.p_TABLE_SIZES) u
  t_TABLE_SIZES : ∀ H, SqT K H a.p_TABLE_SIZES [.int 1, .int 2, .int 4, .int 8, .int 16]
  g_PAIR_SIGNS : ∃ u, mg "PAIR_SIGNS" = some u ∧ RelV (.ref a.p_PAIR_SIGNS) u
  t_PAIR_SIGNS : ∀ H, SqT K H a.p_PAIR_SIGNS [.str "+", .str "-", .str "*", .str "&", .str "|", .str "^", .str "==", .str "<"]
  g_SHIFT_SIGNS : ∃ u, mg "SHIFT_SIGNS" = some u ∧ RelV (.ref a.p_SHIFT_SIGNS) u
  t_SHIFT_SIGNS : ∀ H, SqT K H a.p_SHIFT_SIGNS [.str "<<", .str ">>"]
  g_MOST_PLACES : ∃ u, mg "MOST_PLACES" = some u ∧ RelV (.int 200) u
  g_MOST_GIVEN : ∃ u, mg "MOST_GIVEN" = some u ∧ RelV (.int 6) u
  g_OPERAND_ENDS : ∃ u, mg "OPERAND_ENDS" = some u ∧ RelV (.ref a.p_OPERAND_ENDS) u
  z_ValueError : mg "ValueError" = none
  z_abs : mg "abs" = none
  z_all : mg "all" = none
  z_any : mg "any" = none
  z_bool : mg "bool" = none
  z_enumerate : mg "enumerate" = none
  z_int : mg "int" = none
  z_isinstance : mg "isinstance" = none
  z_iter : mg "iter" = none
  z_len : mg "len" = none
  z_list : mg "list" = none
  z_range : mg "range" = none
  z_set : mg "set" = none
  z_sorted : mg "sorted" = none
  z_str : mg "str" = none
  z_tuple : mg "tuple" = none
/-! ### steps of readings -/
theorem cx_K {CX : CXT} {P : Program} {w : World} {K : PySem.W.Frag} {mg : Str → Option Value} {base : Heap} {N : List Str} {qual : Str} {scope : Scope} {f : Addr} {cd : Value} {A : Around} {outer : List Env} {s : Shared} {H : Hp} {E : XK} :
    (cxOf CX P w K mg base N qual scope f cd A outer s H E).K = K := rfl
theorem ixl {K : PySem.W.Frag} {H : Hp} {p : Addr} {xs : List V} {i : Int} {v : V} {Q : VK} (h : SqL K H p xs) (e : atI xs i = some v) (q : Q v H) : rIxL K (.ref p) (.int i) H Q := ⟨p, xs, i, v, rfl, rfl, h, e, q⟩
theorem setl {H : Hp} {p : Addr} {xs : List V} {k : Int} {j : Nat} {v : V} {Q : Hp → Prop} (h : H p = some (.lst xs)) (e : ixN xs.length k = some j) (q : Q (upd H p (.lst (xs.set j v)))) : rSetL (.ref p) (.int k) v H Q := ⟨p, xs, k, j, rfl, rfl, h, e, q⟩
theorem atI_int {ns : List Int} {i : Int} (h0 : 0 ≤ i) (h1 : i < (ns.length : Int)) : ∃ z, z ∈ ns ∧ atI (ns.map V.int) i = some (.int z) := by
  obtain ⟨k, rfl⟩ : ∃ k : Nat, i = (k : Int) := ⟨i.toNat, by omega⟩
  have hk : k < ns.length := by omega
  exact ⟨ns[k], List.getElem_mem hk, atI_nat (by rw [List.getElem?_map, List.getElem?_eq_getElem hk] <;> rfl)⟩
theorem str1 {a b : Nat} : ((⟨#[a]⟩ : Str) = ⟨#[b]⟩) = (a = b) := by
  apply propext
  constructor
  · intro h
    have q : (#[a] : Array Nat) = #[b] := congrArg Str.cps h
    have q2 : ([a] : List Nat) = [b] := congrArg Array.toList q
    exact (List.cons.inj q2).1
  · intro h; rw [h]
theorem int_at {ns : List Int} {i : Nat} {x : V} (h : (ns.map V.int)[i]? = some x) : ∃ z, ns[i]? = some z ∧ x = .int z := by
  rw [List.getElem?_map] at h
  cases e : ns[i]? with
  | none => rw [e] at h; cases h
  | some z => rw [e] at h; exact ⟨z, rfl, (Option.some.inj h).symm⟩
/-- C(x, ..) made: what is asked once the arguments stand -/
def mkO (C : Addr) (sp : Sp) (dvs : List V) (vs : List V) (H1 : Hp) (Q : XK) : Prop := vs.length ≤ 1000 ∧ ∀ e, H1 e = none → sp (.ref e :: (vs ++ dvs)) (upd H1 e (exo e C none))
  (fun v H2 => v = .non ∧ ∃ (d : Addr) (fs : List (Str × V)), H2 e = some (exo e C (some d)) ∧ H2 d = some (exd d fs) ∧ H1 d = none ∧ Q (.ref C) (some d) (upd (del H2 e) d (.xd fs))) (fun _ _ _ => False)
theorem tMkO_eq {C : Addr} {sp : Sp} {dvs : List V} {ta : TA} : tMkO C sp dvs ta = fun σ H Q => ta σ H fun vs H1 => mkO C sp dvs vs H1 Q := rfl
/-- what a comprehension asks behind its iterator's making -/
def LcG (J : It) (g : TG) (tt : TT) (te : TE) (vs : List Nat) (σ : L2.St) (Q : VK) (H1 : Hp) : Prop := ∀ D, H1 D = none → ∃ W : Nat → Nat → Hp → Prop, (∃ m, W 0 m (upd H1 D (.lst []))) ∧ ∀ i m H, W i m H →
  (J.stop i H ∧ Q (.ref D) H) ∨ (J.go i H ∧ ∃ Nx : Hp → Prop, (∀ H', Nx H' → ∃ m', m' < m ∧ W (i + 1) m' H') ∧ ∀ x H', J.yld i H x H' → g x (wipe σ vs) H' fun σ2 H2 => wipe σ2 vs = wipe σ vs ∧ tt σ2 H2 fun b H3 =>
    if b = true then te σ2 H3 fun y H4 => ∃ acc, H4 D = some (.lst acc) ∧ acc.length < sizeLine ∧ Nx (upd H4 D (.lst (acc ++ [y]))) else Nx H3)
theorem tLc_eq {wi : TI} {g : TG} {tt : TT} {te : TE} {vs : List Nat} : tLc wi g tt te vs = fun σ H Q => wi σ H fun J H1 => LcG J g tt te vs σ Q H1 := rfl
theorem lcg_range {lo : Int} {n : Nat} {g : TG} {tt : TT} {te : TE} {vs : List Nat} {σ : L2.St} {H1 : Hp} {Q : VK} (Pv : Addr → Nat → Hp → Prop) (h0 : ∀ D, H1 D = none → Pv D 0 (upd H1 D (.lst [])))
    (hs : ∀ D i H, H1 D = none → i < n → Pv D i H → g (.int (lo + i)) (wipe σ vs) H fun σ2 H2 => wipe σ2 vs = wipe σ vs ∧ tt σ2 H2 fun b H3 =>
      if b = true then te σ2 H3 fun y H4 => ∃ acc, H4 D = some (.lst acc) ∧ acc.length < sizeLine ∧ Pv D (i + 1) (upd H4 D (.lst (acc ++ [y]))) else Pv D (i + 1) H3) (hd : ∀ D H, H1 D = none → Pv D n H → Q (.ref D) H) : LcG (Itr lo n) g tt te vs σ Q H1 :=
  fun D hD => lc_range (Qd := fun H => Q (.ref D) H) (Pv D) (h0 D hD) (fun i H hi h => hs D i H hD hi h) fun H h => hd D H hD h
theorem lcg_list {K : PySem.W.Frag} {a : Addr} {xs : List V} {g : TG} {tt : TT} {te : TE} {vs : List Nat} {σ : L2.St} {H1 : Hp} {Q : VK} (Pv : Addr → Nat → Hp → Prop) (h0 : ∀ D, H1 D = none → Pv D 0 (upd H1 D (.lst []))) (hl : ∀ D i H, H1 D = none → i ≤ xs.length → Pv D i H → SqL K H a xs)
    (hs : ∀ D i x H, H1 D = none → xs[i]? = some x → Pv D i H → g x (wipe σ vs) H fun σ2 H2 => wipe σ2 vs = wipe σ vs ∧ tt σ2 H2 fun b H3 =>
      if b = true then te σ2 H3 fun y H4 => ∃ acc, H4 D = some (.lst acc) ∧ acc.length < sizeLine ∧ Pv D (i + 1) (upd H4 D (.lst (acc ++ [y]))) else Pv D (i + 1) H3) (hd : ∀ D H, H1 D = none → Pv D xs.length H → Q (.ref D) H) : LcG (Itl K a) g tt te vs σ Q H1 :=
  fun D hD => lc_list (Qd := fun H => Q (.ref D) H) (Pv D) (h0 D hD) (fun i H hi h => hl D i H hD hi h) (fun i x H hi h => hs D i x H hD hi h) fun H h => hd D H hD h
local macro_rules | `(tactic| walk_at "cmul") => `(tactic| first | exact .inl ⟨by omega, by omega⟩ | exact .inr ⟨by omega, by omega⟩)
local macro_rules | `(tactic| walk_at "r1") => `(tactic| first | refine ⟨_, rfl, ?_⟩ | refine ⟨_, _, rfl, rfl, ?_⟩ | refine Or.inl ⟨_, rfl, ?_⟩)
local macro_rules | `(tactic| walk_at "sm") => `(tactic| try simp only [tSeq, tAsg, tRet, tRetN, tDrop, tOp, tUn, tVar, tC, tCB, tCons, tNil, tLst, tTup, tTest, tB, tAnd, tOr, tNot, tAndV, tOrV, tNotV, tIf, tIfS, tNext, tCont, tBreak, tCall, tCallS, WE, tXf, rI0, rI, rU, gName, gNil, gCons, gTup, gSub, tAug, tBM, tBM0, tM1, rNewStrs, tLc_eq, iRng1, iRng2, iList, iTup, tYes, wipe, List.foldl_cons, List.foldl_nil, rEq, rNe, scal, rIxS, rSlS, tSl, tPart, tNoPart, tChain, ipI, str1, tMkO_eq, L2.start, List.map_cons, List.map_nil, List.append_nil, List.cons_append, List.nil_append, List.length_cons, List.length_nil, List.drop, List.replicate, List.getElem?_cons_zero, List.getElem?_cons_succ, List.set_cons_zero, List.set_cons_succ, Option.some.injEq, V.int.injEq, V.str.injEq, V.ref.injEq, V.bl.injEq, List.cons.injEq, reduceCtorEq, false_and, and_false, exists_false, or_false, false_or, exists_eq_left', exists_eq_left, and_assoc, cx_K, exists_and_left, exists_and_right, and_true, true_and, decide_eq_true_eq, if_true, if_false, Bool.false_eq_true])
local macro_rules | `(tactic| walk_at "rm") => `(tactic| refine ⟨by walk_at "cmul", ?_⟩)

/-! ### a target that is a field of an exception that is being made -/
def gOst (K : PySem.W.Frag) (f : Str) (to : TE) : TG := fun y σ H Q => to σ H fun x H2 => ∃ a C : Addr, x = .ref a ∧ OexC K C ∧ PySem.W.findIn K (.ref C) f = some none ∧
  ((H2 a = some (exo a C none) ∧ ∀ dx, H2 dx = none → dx ≠ a → Q σ (upd (upd H2 dx (exd dx [(f, y)])) a (exo a C (some dx)))) ∨
    ∃ (dx : Addr) (fs : List (Str × V)), H2 a = some (exo a C (some dx)) ∧ H2 dx = some (exd dx fs) ∧ fs.length ≤ 900 ∧ Q σ (upd H2 dx (exd dx ((f, y) :: fs))))
theorem pg_ost {X : Cx} {o : Expr} {to : TE} {f : Str} {pos : Pos} (ho : PE X o to) : PG X (.Attribute o f pos) (gOst X.K f to) := by
  refine ⟨fun pins s σ H v u Q I r h => ?_⟩
  rw [assign_Attribute]
  refine wpAny_bind (wpAny_holding (thn (ho.run pins s σ H _ I h) fun ov s1 ⟨x, H1, I1, r1, q1⟩ => ?_))
  refine wpAny_bind (wpAny_standAt (wpAny_bind (wpAny_holding ?_)))
  obtain ⟨a, C, rfl, T, hno, q⟩ := q1
  obtain rfl : ov = Value.ref a := r1
  rcases q with ⟨ea, q⟩ | ⟨dx, fs, ea, ed, hl, q⟩
  · exact ost_new T I1 ea hno r fun dx s' n ne J => wpAny_release ⟨σ, _, J, q dx n ne⟩
  · exact ost_old T I1 ea ed hl hno r fun s' J => wpAny_release ⟨σ, _, J, q⟩

/-- all but p is kept -/
def Fr (p : Addr) (H H' : Hp) : Prop := ∀ b o, b ≠ p → H b = some o → H' b = some o
theorem Fr.refl {p : Addr} (H : Hp) : Fr p H H := fun _ _ _ h => h
theorem Fr.trans {p : Addr} {H H1 H2 : Hp} (a : Fr p H H1) (b : Fr p H1 H2) : Fr p H H2 := fun c o n h => b c o n (a c o n h)
theorem Fr.of {p : Addr} {H H1 : Hp} (a : Evl.Ex H H1) : Fr p H H1 := fun c o _ h => a c o h
theorem Fr.upd {p : Addr} {H : Hp} {o : HO} : Fr p H (upd H p o) := fun c u n h => by rw [upd_ne n]; exact h
/-- what is not known of H stays so -/
def spInit2 (C : Addr) (f1 f2 : Str) : Sp := fun vs H Q _ => ∃ (e : Addr) (x y : V), vs = [.ref e, x, y] ∧ H e = some (exo e C none) ∧
  ∀ (d : Addr) (H' : Hp), H d = none → d ≠ e → Fr e H H' → H' e = some (exo e C (some d)) → H' d = some (exd d [(f2, y), (f1, x)]) → Q .non H'
/-- what is asked where C(x, y) is raised -/
theorem mk2 {C : Addr} {f1 f2 : Str} {x y : V} {H1 : Hp} {Q : XK} (k : ∀ (d : Addr) (H' : Hp), Evl.Ex H1 H' → H' d = some (.xd [(f2, y), (f1, x)]) → Q (.ref C) (some d) H') :
    mkO C (spInit2 C f1 f2) [] [x, y] H1 Q := by
  refine ⟨by show 2 ≤ 1000; omega, fun e he => ⟨e, x, y, rfl, upd_same, fun d H' hd hne hf h1 h2 => ⟨rfl, d, _, h1, h2, ?_, ?_⟩⟩⟩
  · rw [upd_ne hne] at hd
    exact hd
  · refine k d _ (fun b o hb => ?_) upd_same
    have nbe : b ≠ e := ne_of_none hb he
    rw [upd_ne hne] at hd
    have nbd : b ≠ d := ne_of_none hb hd
    rw [upd_ne nbd, del_ne nbe]
    exact hf b o nbe (by rw [upd_ne nbe]; exact hb)

section
variable {P : Program} {w : World} {K : PySem.W.Frag} {mg : Str → Option Value} {base : Heap} {a : Ad}
/-! ### BadInputs(spot, what) -/
theorem ok_BadInputs_init (T : Txt K mg a) : FnOk P w K mg base CX0 1 a.f_BadInputs___init__ a.d_BadInputs___init__ ["self", "index", "what"] (spInit2 a.c_BadInputs "index" "what") := by
  refine T.F_BadInputs___init__.ok sc_BadInputs___init__ (fun vs H Q E h => ?_) (fun cdv A outer s H vs Q E hr h => ?_)
  · obtain ⟨e, x, y, rfl, _⟩ := h
    rfl
  · obtain ⟨e, x, y, rfl, he, k⟩ := h
    refine ⟨_, pss_one (ps_asg (pe_tup (pa_cons (pv 1) (pa_cons (pv 2) pa_nil))) (pg_tup rfl (pgs_cons (pg_ost (pv 0)) (pgs_cons (pg_ost (pv 0)) pgs_nil)))), ?_⟩
    refine ⟨_, rfl, _, rfl, (by show 2 ≤ sizeLine; decide), fun t ht => ?_⟩
    have net : e ≠ t := ne_of_none he ht
    refine ⟨t, _, rfl, .inl (.inl upd_same), rfl, _, _, rfl, _, rfl, e, a.c_BadInputs, rfl, T.x_BadInputs, T.xn_BadInputs_index, .inl ⟨by rw [upd_ne net]; exact he, fun dx hdx hne => ?_⟩⟩
    have ndt : dx ≠ t := fun q => by rw [q, upd_same] at hdx; cases hdx
    have hd0 : H dx = none := by rw [upd_ne ndt] at hdx; exact hdx
    refine ⟨_, _, rfl, _, rfl, e, a.c_BadInputs, rfl, T.x_BadInputs, T.xn_BadInputs_what, .inr ⟨dx, [("index", x)], upd_same, by rw [upd_ne hne, upd_same], (by show 1 ≤ 900; omega), rfl, ?_⟩⟩
    refine k dx _ hd0 hne (fun b o nb hb => ?_) (by rw [upd_ne (Ne.symm hne), upd_same]) upd_same
    rw [upd_ne (ne_of_none hb hd0), upd_ne nb, upd_ne (ne_of_none hb hd0), upd_ne (ne_of_none hb ht)]
    exact hb
/-! ### the hand -/
/-- a hand stands at p: the script's cells, how many of them are taken, the rest of a great one, the mixed sum -/
def HandAt (H : Hp) (p c : Addr) : Prop := ∃ (cells : List Int) (i g t : Int), H p = some (.lst [.ref c, .int i, .int g, .int t]) ∧ H c = some (.lst (cells.map V.int)) ∧
  cells.length ≤ 63 ∧ (∀ x ∈ cells, 0 ≤ x) ∧ 0 ≤ i ∧ i ≤ 63 ∧ 0 ≤ g ∧ 0 ≤ t ∧ t < 2147483549
def spHand (K : PySem.W.Frag) : Sp := fun vs H Q _ => ∃ (s : Addr) (ns : List Int), vs = [.ref s] ∧ SqL K H s (ns.map V.int) ∧ ns.length ≤ 63 ∧
  ∀ p c H', H p = none → Evl.Ex H H' → HandAt H' p c → Q (.ref p) H'
def ivHand (H : Hp) (sc l : Addr) (ns : List Int) : Nat → L2.St → Hp → Prop := fun i σ H' => ∃ (t : Int) (cells : List Int) (v : Option V), σ = [some (.ref sc), some (.int t), some (.ref l), v] ∧
  H' l = some (.lst (cells.map V.int)) ∧ cells.length = i ∧ i ≤ ns.length ∧ (∀ x ∈ cells, 0 ≤ x) ∧ 0 ≤ t ∧ t < 2147483549 ∧ Evl.Ex H H'
theorem ok_law_hand (T : Txt K mg a) : FnOk P w K mg base CX0 1 a.f_law_hand a.d_law_hand ["_law_script"] (spHand K) := by
  refine T.F_law_hand.ok sc_law_hand (fun vs H Q E h => ?_) (fun cdv A outer s H vs Q E hr h => ?_)
  · obtain ⟨_, _, rfl, _⟩ := h
    rfl
  · obtain ⟨sc, ns, rfl, hS, hl, k⟩ := h
    refine ⟨_, (pss_cons (ps_set (i := 1) sc_law_hand.nd rfl (by first | exact Or.inl rfl | exact Or.inr rfl) (pe_op op_add (pe_callB call_len_seq (by rfl) T.z_len (by decide +kernel) (pa_cons (pv 0) pa_nil)) pe_int))
  (pss_cons (ps_set (i := 2) sc_law_hand.nd rfl (by first | exact Or.inl rfl | exact Or.inr rfl) (pe_lst pa_nil))
  (pss_cons (ps_for PassesOwn.never rfl (pi_list (pv 0)) (pg_name (i := 3) sc_law_hand.nd rfl (by first | exact Or.inl rfl | exact Or.inr rfl)) (pss_cons (ps_set (i := 1) sc_law_hand.nd rfl (by first | exact Or.inl rfl | exact Or.inr rfl) (pe_op op_mod (pe_callTy call_int1 (by rfl) T.z_int (by decide +kernel) (pa_cons (pe_op op_add (pe_op op_mul (pv 1) pe_int) (pe_callTy call_int1 (by rfl) T.z_int (by decide +kernel) (pa_cons (pv 3) pa_nil))) pa_nil)) pe_int))
  (pss_one (ps_expr (pe_bm PySem.F.plainAttrs_list PySem.F.slot_list_append PySem.F.type_list_append mt_append (pv 2) (pa_cons (pe_callB call_abs (by rfl) T.z_abs (by decide +kernel) (pa_cons (pe_callTy call_int1 (by rfl) T.z_int (by decide +kernel) (pa_cons (pv 3) pa_nil)) pa_nil)) pa_nil))))))
  (pss_one (ps_ret (pe_lst (pa_cons (pv 2) (pa_cons pe_int (pa_cons pe_int (pa_cons (pv 1) pa_nil)))))))))), ?_⟩
    walk_at "sm"
    refine ⟨_, .inl hS, by decide, fun l hl0 => ?_⟩
    have nls : ∀ {b o}, H b = some o → b ≠ l := fun hb => ne_of_none hb hl0
    refine ⟨_, rfl, sc, rfl, ⟨_, Evl.ex_l (Evl.Ex.new hl0) hS⟩, for_list (K := K) (a := sc) (xs := ns.map V.int) (ivHand H sc l ns) ⟨_, [], none, rfl, upd_same, rfl, Nat.zero_le _, (by intro x hx; cases hx), ?_, ?_, Evl.Ex.new hl0⟩ (fun i σ H' _ ⟨_, _, _, _, _, _, _, _, _, _, e⟩ => Evl.ex_l e hS) ?_ ?_⟩
    · rw [List.length_map]; omega
    · rw [List.length_map]; omega
    · rintro i y σ H' hi ⟨t, cells, v, rfl, h1, h2, h3, h4, h5, h6, h7⟩
      obtain ⟨z, hz, rfl⟩ := int_at hi
      have hi' := (List.getElem?_eq_some_iff.mp hz).1
      walk_at "sm"
      refine ⟨.inl ⟨by omega, by omega⟩, by decide, .inl ⟨rfl, _, SqL.of h1⟩, l, _, _, rfl, rfl, h1, ?_, ?_⟩
      · rw [List.length_map]; exact Nat.lt_of_lt_of_le (by omega : cells.length < 100) (by decide)
      · refine ⟨_, cells ++ [if z < 0 then -z else z], _, rfl, by rw [upd_same, List.map_append]; rfl, by rw [List.length_append, h2]; rfl, by omega, ?_, Int.emod_nonneg _ (by decide), ?_, Evl.Ex.mut h7 hl0⟩
        · intro x hx
          rcases List.mem_append.mp hx with hx | hx
          · exact h4 x hx
          · rw [List.mem_singleton] at hx
            subst hx
            split <;> omega
        · have := Int.emod_lt_of_pos (t * 2017 + z) (show (0 : Int) < 2147483543 by decide)
          omega
    · rintro σ H' ⟨t, cells, v, rfl, h1, h2, h3, h4, h5, h6, h7⟩
      walk_at "sm"
      refine ⟨by decide, fun p hp => ?_⟩
      refine k p l _ (Evl.fresh_back h7 hp) (h7.trans (Evl.Ex.new hp)) ⟨cells, 0, 0, t, upd_same, by rw [upd_ne (ne_of_none h1 hp)]; exact h1, ?_, h4, by decide, by decide, by decide, h5, h6⟩
      rw [h2, List.length_map]; exact hl
def spMixed : Sp := fun vs H Q _ => ∃ (n t : Int), vs = [.int n, .int t] ∧ 0 ≤ n ∧ n < 2147483600 ∧ 0 ≤ t ∧ t ≤ 64 ∧ ∀ r, 0 ≤ r → Q (.int r) H
theorem ok_law_mixed (T : Txt K mg a) : FnOk P w K mg base CX0 1 a.f_law_mixed a.d_law_mixed ["_law_number", "_law_turn"] spMixed := by
  refine T.F_law_mixed.ok sc_law_mixed (fun vs H Q E h => ?_) (fun cdv A outer s H vs Q E hr h => ?_)
  · obtain ⟨_, _, rfl, _⟩ := h
    rfl
  · obtain ⟨n, t, rfl, h1, h2, h3, h4, k⟩ := h
    refine ⟨_, (pss_cons (ps_set (i := 2) sc_law_mixed.nd rfl (by first | exact Or.inl rfl | exact Or.inr rfl) (pe_op op_mod (pe_callTy call_int1 (by rfl) T.z_int (by decide +kernel) (pa_cons (pe_op op_add (pe_op op_add (pe_op op_mul (pv 0) pe_int) (pe_op op_mul (pv 1) pe_int)) pe_int) pa_nil)) pe_int))
  (pss_cons (ps_set (i := 3) sc_law_mixed.nd rfl (by first | exact Or.inl rfl | exact Or.inr rfl) (pe_op op_mod (pe_callTy call_int1 (by rfl) T.z_int (by decide +kernel) (pa_cons (pe_op op_add (pe_op op_add (pe_op op_mul (pv 2) (pv 2)) (pe_op op_mul (pv 1) pe_int)) (pe_op op_fdiv (pv 2) pe_int)) pa_nil)) pe_int))
  (pss_one (ps_ret (pe_op op_fdiv (pe_callTy call_int1 (by rfl) T.z_int (by decide +kernel) (pa_cons (pe_op op_mod (pe_callTy call_int1 (by rfl) T.z_int (by decide +kernel) (pa_cons (pe_op op_add (pe_op op_mul (pv 3) pe_int) (pe_op op_fdiv (pv 2) pe_int)) pa_nil)) pe_int) pa_nil)) pe_int))))), ?_⟩
    walk_at "sm"
    have e1 := Int.emod_nonneg (n * 40014 + t * 7331 + 60013) (show (2147483399 : Int) ≠ 0 by decide)
    have e2 := Int.emod_lt_of_pos (n * 40014 + t * 7331 + 60013) (show (0 : Int) < 2147483399 by decide)
    refine ⟨.inl ⟨by omega, by omega⟩, .inl ⟨by omega, by omega⟩, by decide, .inl ⟨by omega, by omega⟩, .inl ⟨by omega, by omega⟩, ⟨by decide, by decide⟩, by decide, .inr ⟨by decide, by decide⟩, ⟨by decide, by decide⟩, by decide, ⟨by decide, by decide⟩, k _ ?_⟩
    exact Int.ediv_nonneg (Int.emod_nonneg _ (by decide)) (by decide)
def spTake : Sp := fun vs H Q _ => ∃ (p c : Addr) (m : Int), vs = [.ref p, .int m] ∧ HandAt H p c ∧ 0 < m ∧ m < 1073741824 ∧
  ∀ r H', 0 ≤ r → r < m → Fr p H H' → HandAt H' p c → Q (.int r) H'
def midTake (H : Hp) (p c : Addr) (m : Int) : L2.St → Hp → Prop := fun σ' H' => ∃ v, σ' = [some (.ref p), some (.int m), v, none] ∧ Fr p H H' ∧ HandAt H' p c
theorem ok_law_take (T : Txt K mg a) : FnOk P w K mg base CX0 2 a.f_law_take a.d_law_take ["_law_hand_here", "_law_many"] spTake := by
  refine T.F_law_take.ok sc_law_take (fun vs H Q E h => ?_) (fun cdv A outer s H vs Q E hr h => ?_)
  · obtain ⟨_, _, _, rfl, _⟩ := h
    rfl
  · obtain ⟨p, c, m, rfl, ⟨cells, i, g, t, hp, hc, hl, hx, hi0, hi1, hg, ht0, ht1⟩, hm0, hm1, k⟩ := h
    refine ⟨_, (Evl.pss_cut (ps_if (PW.pt (pw_and (pt_cmpR op_eq (pe_ix ix_list (pv 0) pe_int (fun _ _ => rfl)) pe_int (nomark _)) (pw_and1 (pt_cmpR op_lt (pe_ix ix_list (pv 0) pe_int (fun _ _ => rfl)) (pe_callB call_len_seq (by rfl) T.z_len (by decide +kernel) (pa_cons (pe_ix ix_list (pv 0) pe_int (fun _ _ => rfl)) pa_nil)) (nomark _))))) (pss_cons (ps_set (i := 2) sc_law_take.nd rfl (by first | exact Or.inl rfl | exact Or.inr rfl) (pe_ix ix_list (pe_ix ix_list (pv 0) pe_int (fun _ _ => rfl)) (pe_ix ix_list (pv 0) pe_int (fun _ _ => rfl)) (fun _ _ => rfl)))
  (pss_cons (ps_asg (pe_op op_add (pe_ix ix_list (pv 0) pe_int (fun _ _ => rfl)) pe_int) (pg_sub (pv 0) pe_int set_list (by intro _; rfl)))
  (pss_cons (ps_if (pt_cmpR op_lt (pv 2) (pe_op op_pow pe_int pe_int) (nomark _)) (pss_one (ps_ret (pe_op op_mod (pe_callTy call_int1 (by rfl) T.z_int (by decide +kernel) (pa_cons (pe_call (ok_law_mixed T) (hr.mono (by decide)) rfl T.m_law_mixed T.F_law_mixed.kp T.b_law_mixed .nil pass0 (pa_cons (pe_op op_mod (pe_callTy call_int1 (by rfl) T.z_int (by decide +kernel) (pa_cons (pv 2) pa_nil)) pe_int) (pa_cons (pe_ix ix_list (pv 0) pe_int (fun _ _ => rfl)) pa_nil))) pa_nil)) (pv 1))))
    pss_nil)
  (pss_one (ps_asg (pv 2) (pg_sub (pv 0) pe_int set_list (by intro _; rfl)))))))
    pss_nil)
  (pss_cons (ps_if (pt_cmpR op_gt (pe_ix ix_list (pv 0) pe_int (fun _ _ => rfl)) pe_int (nomark _)) (pss_cons (ps_set (i := 3) sc_law_take.nd rfl (by first | exact Or.inl rfl | exact Or.inr rfl) (pe_ix ix_list (pv 0) pe_int (fun _ _ => rfl)))
  (pss_cons (ps_asg (pe_op op_fdiv (pe_callTy call_int1 (by rfl) T.z_int (by decide +kernel) (pa_cons (pv 3) pa_nil)) (pv 1)) (pg_sub (pv 0) pe_int set_list (by intro _; rfl)))
  (pss_one (ps_ret (pe_op op_mod (pe_callTy call_int1 (by rfl) T.z_int (by decide +kernel) (pa_cons (pv 3) pa_nil)) (pv 1))))))
    pss_nil)
  (pss_cons (ps_asg (pe_op op_mod (pe_callTy call_int1 (by rfl) T.z_int (by decide +kernel) (pa_cons (pe_op op_add (pe_ix ix_list (pv 0) pe_int (fun _ _ => rfl)) pe_int) pa_nil)) pe_int) (pg_sub (pv 0) pe_int set_list (by intro _; rfl)))
  (pss_one (ps_ret (pe_op op_mod (pe_callTy call_int1 (by rfl) T.z_int (by decide +kernel) (pa_cons (pe_call (ok_law_mixed T) (hr.mono (by decide)) rfl T.m_law_mixed T.F_law_mixed.kp T.b_law_mixed .nil pass0 (pa_cons (pe_ix ix_list (pv 0) pe_int (fun _ _ => rfl)) (pa_cons (pe_ix ix_list (pv 0) pe_int (fun _ _ => rfl)) pa_nil))) pa_nil)) (pv 1))))))), ?_⟩
    walk_at "sm"
    have ncp : c ≠ p := ne_of hc hp (by intro q; injection q with q; cases cells with
      | nil => cases q
      | cons x r => injection q with q _; cases q)
    refine ⟨midTake H p c m, ?_, ?_⟩
    · walk_at "sm"
      have sK : SqL K H p [.ref c, .int i, .int g, .int t] := SqL.of hp
      refine ixl sK rfl ?_
      walk_at "sm"
      refine ite2 (fun cg => ?_) (fun cg => ⟨_, rfl, Fr.refl H, cells, i, g, t, hp, hc, hl, hx, hi0, hi1, hg, ht0, ht1⟩)
      refine ixl sK rfl (ixl sK rfl ?_)
      walk_at "sm"
      refine ⟨_, .inl (SqL.of hc), ?_⟩
      walk_at "sm"
      refine ite2 (fun ci => ?_) (fun ci => ⟨_, rfl, Fr.refl H, cells, i, g, t, hp, hc, hl, hx, hi0, hi1, hg, ht0, ht1⟩)
      rw [List.length_map] at ci
      obtain ⟨z, hz, ez⟩ := atI_int hi0 ci
      have hz0 := hx z hz
      refine ixl sK rfl (ixl sK rfl (ixl (SqL.of hc) ez (ixl sK rfl ?_)))
      walk_at "sm"
      refine setl hp rfl ?_
      have hp1 : (upd H p (.lst [.ref c, .int (i + 1), .int g, .int t])) p = some (.lst [.ref c, .int (i + 1), .int g, .int t]) := upd_same
      have hc1 : (upd H p (.lst [.ref c, .int (i + 1), .int g, .int t])) c = some (.lst (cells.map V.int)) := by rw [upd_ne ncp]; exact hc
      refine ⟨⟨by decide, by decide, by decide⟩, ite2 (fun cz => ?_) (fun cz => ?_)⟩
      · refine ⟨by decide, ixl (SqL.of hp1) rfl ⟨_, _, rfl, Int.emod_nonneg _ (by decide), ?_, by omega, by omega, fun r hr0 => ?_⟩⟩
        · have := Int.emod_lt_of_pos z (show (0 : Int) < 2147483399 by decide)
          omega
        · walk_at "sm"
          exact ⟨hm0, k _ _ (Int.emod_nonneg _ (by omega)) (Int.emod_lt_of_pos _ hm0) Fr.upd ⟨cells, i + 1, g, t, hp1, hc1, hl, hx, by omega, by omega, hg, ht0, ht1⟩⟩
      · refine setl hp1 rfl ⟨_, rfl, Fr.upd.trans Fr.upd, cells, i + 1, z, t, upd_same, by rw [upd_ne ncp]; exact hc1, hl, hx, by omega, by omega, hz0, ht0, ht1⟩
    · rintro σ' H' ⟨v, rfl, f, cells', i', g', t', hp', hc, hl', hx', hi0', hi1', hg', ht0', ht1'⟩
      have ncp' : c ≠ p := ne_of hc hp' (by intro q; injection q with q; cases cells' with
        | nil => cases q
        | cons x r => injection q with q _; cases q)
      walk_at "sm"
      have sK : SqL K H' p [.ref c, .int i', .int g', .int t'] := SqL.of hp'
      refine ixl sK rfl ?_
      walk_at "sm"
      refine ite2 (fun cg => ?_) (fun cg => ?_)
      · refine ixl sK rfl ?_
        walk_at "sm"
        refine ⟨⟨hm0, hm1⟩, setl hp' rfl ⟨hm0, k _ _ (Int.emod_nonneg _ (by omega)) (Int.emod_lt_of_pos _ hm0) (f.trans Fr.upd) ⟨cells', i', g' / m, t', upd_same, by rw [upd_ne ncp']; exact hc, hl', hx', hi0', hi1', Int.ediv_nonneg hg' (by omega), ht0', ht1'⟩⟩⟩
      · refine ixl sK rfl ?_
        walk_at "sm"
        have e0 := Int.emod_nonneg (t' + 1) (show (2147483549 : Int) ≠ 0 by decide)
        have e1 := Int.emod_lt_of_pos (t' + 1) (show (0 : Int) < 2147483549 by decide)
        refine ⟨by decide, setl hp' rfl ?_⟩
        have hp1 : (upd H' p (.lst [.ref c, .int i', .int g', .int ((t' + 1) % 2147483549)])) p = some (.lst [.ref c, .int i', .int g', .int ((t' + 1) % 2147483549)]) := upd_same
        refine ixl (SqL.of hp1) rfl (ixl (SqL.of hp1) rfl ⟨_, _, rfl, e0, by omega, by omega, by omega, fun r hr0 => ?_⟩)
        walk_at "sm"
        exact ⟨hm0, k _ _ (Int.emod_nonneg _ (by omega)) (Int.emod_lt_of_pos _ hm0) (f.trans Fr.upd) ⟨cells', i', g', (t' + 1) % 2147483549, hp1, by rw [upd_ne ncp']; exact hc, hl', hx', hi0', hi1', hg', e0, e1⟩⟩
end
open SX (S)

theorem sz {n : Nat} (h : n ≤ 100000) : n ≤ sizeLine := Evl.sz_of h
theorem kw_flat (l : List Str) : (l.map V.str).all flatV = true := by
  induction l with
  | nil => rfl
  | cons s l ih => rw [List.map_cons, List.all_cons, ih]; rfl
theorem str_at_map {l : List Str} {i : Nat} {x : V} (h : (l.map V.str)[i]? = some x) : ∃ z, l[i]? = some z ∧ x = .str z := by
  rw [List.getElem?_map] at h
  cases e : l[i]? with
  | none => rw [e] at h; cases h
  | some z => rw [e] at h; exact ⟨z, rfl, (Option.some.inj h).symm⟩
theorem in_tup {K : PySem.W.Frag} {H : Hp} {p : Addr} {xs : List V} {x : V} {Q : VK} (h : SqT K H p xs) (fx : flatV x = true) (fxs : xs.all flatV = true) (q : Q (.bl (inV x xs)) H) : rIn K false x (.ref p) H Q := ⟨p, xs, rfl, .inr h, fx, fxs, q⟩
theorem ni_tup {K : PySem.W.Frag} {H : Hp} {p : Addr} {xs : List V} {x : V} {Q : VK} (h : SqT K H p xs) (fx : flatV x = true) (fxs : xs.all flatV = true) (q : Q (.bl (!inV x xs)) H) : rIn K true x (.ref p) H Q := ⟨p, xs, rfl, .inr h, fx, fxs, q⟩
theorem isi_ty {K : PySem.W.Frag} {H : Hp} {x : V} {t : String} {n : String} {b : Bool} {Q : VK} (ht : TyX K H x (.type t)) (hk : kitB t n = some b) (q : Q (.bl b) H) : rIsi K [x, .ty n] H Q := ⟨x, .ty n, .type t, .type n, b, rfl, .ty n, ht, kit_ty hk, q⟩
theorem Paired.snoc {α β : Type} {F : α → β → Prop} {x : α} {y : β} (r : F x y) : ∀ {l : List α} {m : List β}, Paired F l m → Paired F (l ++ [x]) (m ++ [y])
  | _, _, .nil => .cons r .nil
  | _, _, .cons q t => .cons q (Paired.snoc r t)
theorem HandAt.go {H H' : Hp} {p c : Addr} (e : Evl.Ex H H') (h : HandAt H p c) : HandAt H' p c := by
  obtain ⟨cells, i, g, t, hp, hc, r⟩ := h
  exact ⟨cells, i, g, t, e _ _ hp, e _ _ hc, r⟩
theorem HandAt.lt {H : Hp} {p c l : Addr} (h : HandAt H p c) (hl : H l = none) : l ≠ p := by
  obtain ⟨cells, i, g, t, hp, _⟩ := h
  exact Ne.symm (ne_of_none hp hl)
theorem HandAt.lc {H : Hp} {p c l : Addr} (h : HandAt H p c) (hl : H l = none) : l ≠ c := by
  obtain ⟨cells, i, g, t, hp, hc, _⟩ := h
  exact Ne.symm (ne_of_none hc hl)
theorem HandAt.upd {H : Hp} {p c l : Addr} {o : HO} (h : HandAt H p c) (n1 : l ≠ p) (n2 : l ≠ c) : HandAt (upd H l o) p c := by
  obtain ⟨cells, i, g, t, hp, hc, r⟩ := h
  exact ⟨cells, i, g, t, by rw [upd_ne (Ne.symm n1)]; exact hp, by rw [upd_ne (Ne.symm n2)]; exact hc, r⟩
theorem Fr.mut {p l : Addr} {H H' : Hp} {o : HO} (f : Fr p H H') (hl : H l = none) : Fr p H (L2.upd H' l o) := fun b u n h => by
  rw [upd_ne (ne_of_none h hl)]
  exact f b u n h
theorem Fr.lst {K : PySem.W.Frag} {H H' : Hp} {p l : Addr} {xs : List V} (f : Fr p H H') (n : l ≠ p) (h : H l = some (.lst xs)) : SqL K H' l xs := SqL.of (f _ _ n h)
theorem atI_str {l : List Str} {i : Int} (h0 : 0 ≤ i) (h1 : i < (l.length : Int)) : ∃ z, z ∈ l ∧ atI (l.map V.str) i = some (.str z) := by
  obtain ⟨k, rfl⟩ : ∃ k : Nat, i = (k : Int) := ⟨i.toNat, by omega⟩
  have hk : k < l.length := by omega
  exact ⟨l[k], List.getElem_mem hk, atI_nat (by rw [List.getElem?_map, List.getElem?_eq_getElem hk] <;> rfl)⟩
theorem tk {p c : Addr} {m : Int} {H : Hp} {Q : VK} {E : XK} (h : HandAt H p c) (h0 : 0 < m) (h1 : m < 1073741824) (k : ∀ (r : Int) (H' : Hp), 0 ≤ r → r < m → Fr p H H' → HandAt H' p c → Q (.int r) H') : spTake [.ref p, .int m] H Q E := ⟨p, c, m, rfl, h, h0, h1, k⟩
def dV : V → PyData
  | .bl b => .bool b
  | .int i => .int i
  | .str x => .str x
  | _ => .none
def okF : V → Bool
  | .non => true
  | .bl _ => true
  | .int _ => true
  | .str x => PyData.strOk x
  | _ => false
theorem dp_flat {K : PySem.W.Frag} {H : Hp} {v : V} (h : okF v = true) : Dp K H v (dV v) := by
  cases v with
  | non => exact .non
  | bl b => exact .bl b
  | int i => exact .int i
  | str x => exact .str x
  | byt b => cases h
  | flt b => cases h
  | ref b => cases h
  | ty b => cases h
theorem dp_flats {K : PySem.W.Frag} {H : Hp} : ∀ {vs : List V}, vs.all okF = true → DpAll K H vs (vs.map dV)
  | [], _ => .nil
  | v :: vs, h => by
    rw [List.all_cons, Bool.and_eq_true] at h
    exact .cons (dp_flat h.1) (dp_flats h.2)
theorem lay_flat {v : V} (h : okF v = true) : (dV v).canLay0 = true ∧ (dV v).depth ≤ 1 := by
  cases v with
  | non => exact ⟨rfl, by decide⟩
  | bl b => exact ⟨rfl, by show 0 ≤ 1; omega⟩
  | int i => exact ⟨rfl, by show 0 ≤ 1; omega⟩
  | str x => exact ⟨h, by show 0 ≤ 1; omega⟩
  | byt b => cases h
  | flt b => cases h
  | ref b => cases h
  | ty b => cases h
theorem lay_all {n : Nat} : ∀ {ds : List PyData}, (∀ d ∈ ds, d.canLay0 = true ∧ d.depth ≤ n) → PyData.canLayAll0 ds = true ∧ PyData.depthAll ds ≤ n
  | [], _ => ⟨rfl, Nat.zero_le _⟩
  | d :: ds, h => by
    have h1 := h d List.mem_cons_self
    have h2 := lay_all (ds := ds) fun x hx => h x (List.mem_cons_of_mem _ hx)
    refine ⟨?_, ?_⟩
    · show (d.canLay0 && PyData.canLayAll0 ds) = true
      rw [h1.1, h2.1]; rfl
    · show max d.depth (PyData.depthAll ds) ≤ n
      omega
theorem lay_tup {n : Nat} {ds : List PyData} (h : ∀ d ∈ ds, d.canLay0 = true ∧ d.depth ≤ n) : (PyData.tuple ds).canLay0 = true ∧ (PyData.tuple ds).depth ≤ n + 1 := by
  have q := lay_all h
  exact ⟨q.1, by show PyData.depthAll ds + 1 ≤ n + 1; omega⟩
theorem lay_lst {n : Nat} {ds : List PyData} (h : ∀ d ∈ ds, d.canLay0 = true ∧ d.depth ≤ n) : (PyData.list ds).canLay0 = true ∧ (PyData.list ds).depth ≤ n + 1 := by
  have q := lay_all h
  exact ⟨q.1, by show PyData.depthAll ds + 1 ≤ n + 1; omega⟩
theorem shaped_of {d : PyData} {n : Nat} (h : d.canLay0 = true ∧ d.depth ≤ n) (hn : n ≤ 64) : SeqAt.shaped d = true := by
  unfold SeqAt.shaped
  rw [h.1, decide_eq_true (Nat.le_trans h.2 hn)]
  rfl
theorem ne_same {K : PySem.W.Frag} {H : Hp} {x y : V} {d : PyData} {Q : VK} (hx : Dp K H x d) (hy : Dp K H y d) (hs : SeqAt.shaped d = true) (q : Q (.bl false) H) : rNeD K x y H Q :=
  ⟨d, d, hx, hy, hs, hs, by rw [SeqAt.eqv_refl d (SeqAt.canLay_of_shaped hs)]; exact q⟩
theorem eq_same {K : PySem.W.Frag} {H : Hp} {x y : V} {d : PyData} {Q : VK} (hx : Dp K H x d) (hy : Dp K H y d) (hs : SeqAt.shaped d = true) (q : Q (.bl true) H) : rEqD K x y H Q :=
  ⟨d, d, hx, hy, hs, hs, by rw [SeqAt.eqv_refl d (SeqAt.canLay_of_shaped hs)]; exact q⟩
theorem op_eqD_s {X : Cx} {a : Addr} {pins : List (Addr × Obj)} (hu : (X.suite a pins).A.units + 64 < cLine) : OpR (X.suite a pins) (compareOp .Eq) (rEqD X.K) := op_eqD hu
theorem op_neD_s {X : Cx} {a : Addr} {pins : List (Addr × Obj)} (hu : (X.suite a pins).A.units + 64 < cLine) : OpR (X.suite a pins) (compareOp .NotEq) (rNeD X.K) := op_neD hu
theorem ix_list_b {X : Cx} {s : Shared} {H : Hp} {scope : Scope} {env : Env} {fp : List Addr} : IxR (X.blk s H scope env fp) (rIxL X.K) := ix_list
theorem ix_tup_b {X : Cx} {s : Shared} {H : Hp} {scope : Scope} {env : Env} {fp : List Addr} : IxR (X.blk s H scope env fp) (rIxT X.K) := ix_tup
theorem ixt {K : PySem.W.Frag} {H : Hp} {p : Addr} {xs : List V} {i : Int} {v : V} {Q : VK} (h : H p = some (.tup xs)) (e : atI xs i = some v) (q : Q v H) : rIxT K (.ref p) (.int i) H Q := ⟨p, xs, i, v, rfl, rfl, SqT.of h, e, q⟩
theorem was_true {K : PySem.W.Frag} {C : Addr} {i : Nat} {ts : Addr → Value → Option Addr → TS} {Wout : WX} {D : Ends} {d : Option Addr} {σ : L2.St} {H : Hp} (he : PySem.W.exmOne K (.ref C) (.ref C) = some true)
    (h : ∀ a, H a = none → ts a (.ref C) d { nx := fun σ' H' => D.nx (σ'.set i none) H', rt := D.rt, bk := fun σ' H' => D.bk (σ'.set i none) H', ct := fun σ' H' => D.ct (σ'.set i none) H' } (σ.set i (some (.ref a))) H) :
    wAs K (.ref C) i ts Wout D (.ref C) d σ H := ⟨true, he, fun _ => h, fun q => nomatch q⟩
/-! ### an own error made without arguments -/
theorem pmk_own0 {X : Cx} {C : Addr} {bmB : List Value} {B newId initId : String} {x : Str} {p pos : Pos} (F : ExcBaseFacts B newId initId bmB) (q : PySem.W.excIn X.K C bmB newId = true) (gC : X.mg x = some (.ref C)) (kC : PySem.W.keepIn X.K (.ref C) = true) (r : Raises X (.ref C)) (hg : Gl X x)
    (hdb : (x == ("__debug__" : Str)) = false := by decide) : PMk X (.Call (.Name x p) [] [] pos) (fun _ H Q => Q (.ref C) none H) := by
  intro pins s σ H Q I h
  refine wpAny_Call_Name_kw (ld_glob I hg gC ?_ hdb)
  refine PySem.W.callWith_K0 I.kIn kC ?_
  show wpAny _ _ (call (.ref C) []) _ _ _
  obtain ⟨bm, N, nm, qn, bs, hdct, sn, sub, ab, col, dd, k0, k1, k2, k3, k5, mN, hC, hN, hni, T⟩ := exc_obj I.kIn q
  refine wpAny_call_exc_subT F T hC hN hni (fun h' e hm => ?_) (Nat.zero_le _)
  exact mk_of I hm r h (I.hok.gone hm.new)
/-! ### a walk over what is a list or a tuple -/
theorem pi_or {X : Cx} {tg it : Expr} {r1 r2 : TI} (h1 : PI X tg it r1) (h2 : PI X tg it r2) : PI X tg it (fun σ H R => r1 σ H R ∨ r2 σ H R) :=
  ⟨fun pins s σ H R I h => h.elim (fun z => h1.run pins s σ H R I z) fun z => h2.run pins s σ H R I z⟩


/-! ### things whose class is told -/
def PlainV (H : Hp) (x : V) : Prop := x = .non ∨ (∃ b, x = .bl b) ∨ (∃ i, x = .int i) ∨ (∃ s, x = .str s) ∨ (∃ p xs, x = .ref p ∧ H p = some (.tup xs)) ∨ ∃ p xs, x = .ref p ∧ H p = some (.lst xs)
theorem PlainV.go {H H' : Hp} {x : V} (e : Evl.Ex H H') (h : PlainV H x) : PlainV H' x := by
  rcases h with h | h | h | h | ⟨p, xs, h, q⟩ | ⟨p, xs, h, q⟩
  · exact .inl h
  · exact .inr (.inl h)
  · exact .inr (.inr (.inl h))
  · exact .inr (.inr (.inr (.inl h)))
  · exact .inr (.inr (.inr (.inr (.inl ⟨p, xs, h, e _ _ q⟩))))
  · exact .inr (.inr (.inr (.inr (.inr ⟨p, xs, h, e _ _ q⟩))))
theorem plain_int {H : Hp} {i : Int} : PlainV H (.int i) := .inr (.inr (.inl ⟨i, rfl⟩))
def whB : V → Bool
  | .int _ => true
  | _ => false
def wiB (x : V) (lo hi : Int) : Bool := match x with
  | .int i => decide (lo ≤ i) && decide (i ≤ hi)
  | _ => false
def sqV : V → Bool
  | .ref _ => true
  | _ => false
theorem is_int {K : PySem.W.Frag} {H : Hp} {x : V} {Q : VK} (h : PlainV H x) (q : ∀ b c, rIsi K [x, .ty "bool"] H (fun y H' => y = .bl c ∧ H' = H) → (b && !c) = whB x → Q (.bl b) H) : rIsi K [x, .ty "int"] H Q := by
  rcases h with rfl | ⟨b, rfl⟩ | ⟨i, rfl⟩ | ⟨s, rfl⟩ | ⟨p, xs, rfl, e⟩ | ⟨p, xs, rfl, e⟩
  · exact isi_ty (t := "NoneType") (b := false) (.base .non) (by decide +kernel) (q _ false (isi_ty (t := "NoneType") (b := false) (.base .non) (by decide +kernel) ⟨rfl, rfl⟩) rfl)
  · exact isi_ty (t := "bool") (b := true) (.base (.bl _)) (by decide +kernel) (q _ true (isi_ty (t := "bool") (b := true) (.base (.bl _)) (by decide +kernel) ⟨rfl, rfl⟩) rfl)
  · exact isi_ty (t := "int") (b := true) (.base (.int _)) (by decide +kernel) (q _ false (isi_ty (t := "int") (b := false) (.base (.int _)) (by decide +kernel) ⟨rfl, rfl⟩) rfl)
  · exact isi_ty (t := "str") (b := false) (.base (.str _)) (by decide +kernel) (q _ false (isi_ty (t := "str") (b := false) (.base (.str _)) (by decide +kernel) ⟨rfl, rfl⟩) rfl)
  · exact isi_ty (t := "tuple") (b := false) (.base (.tup e)) (by decide +kernel) (q _ false (isi_ty (t := "tuple") (b := false) (.base (.tup e)) (by decide +kernel) ⟨rfl, rfl⟩) rfl)
  · exact isi_ty (t := "list") (b := false) (.base (.lst e)) (by decide +kernel) (q _ false (isi_ty (t := "list") (b := false) (.base (.lst e)) (by decide +kernel) ⟨rfl, rfl⟩) rfl)
theorem isi_mono {K : PySem.W.Frag} {H : Hp} {vs : List V} {c : Bool} {Q : VK} (h : rIsi K vs H fun y H' => y = .bl c ∧ H' = H) (q : Q (.bl c) H) : rIsi K vs H Q := by
  obtain ⟨x, y, t, u, b, e1, e2, e3, e4, e5, _⟩ := h
  cases e5
  exact ⟨x, y, t, u, _, e1, e2, e3, e4, q⟩
theorem isT2 {K : PySem.W.Frag} {H : Hp} {x : V} {tp : Addr} {t : String} {b : Bool} {Q : VK} (hT : H tp = some (.tup [.ty "list", .ty "tuple"])) (ht : TyX K H x (.type t)) (e : PySem.W.kitAny K (.type t) [.type "list", .type "tuple"] = some b) (q : Q (.bl b) H) : rIsiT K [x, .ref tp] H Q :=
  ⟨x, tp, _, _, _, b, rfl, hT, .cons (.ty _) (.cons (.ty _) .nil), ht, e, q⟩
theorem is_seq {K : PySem.W.Frag} {H : Hp} {x : V} {tp : Addr} {Q : VK} (h : PlainV H x) (hT : H tp = some (.tup [.ty "list", .ty "tuple"])) (q : Q (.bl (sqV x)) H) : rIsiT K [x, .ref tp] H Q := by
  rcases h with rfl | ⟨b, rfl⟩ | ⟨i, rfl⟩ | ⟨s, rfl⟩ | ⟨p, xs, rfl, e⟩ | ⟨p, xs, rfl, e⟩
  · exact isT2 (t := "NoneType") (b := false) hT (.base .non) (kitAny_cons (kit_ty (r := false) (by decide +kernel)) (fun _ => kitAny_cons (kit_ty (r := false) (by decide +kernel)) (fun _ => rfl) (fun h => by cases h)) (fun h => by cases h)) q
  · exact isT2 (t := "bool") (b := false) hT (.base (.bl _)) (kitAny_cons (kit_ty (r := false) (by decide +kernel)) (fun _ => kitAny_cons (kit_ty (r := false) (by decide +kernel)) (fun _ => rfl) (fun h => by cases h)) (fun h => by cases h)) q
  · exact isT2 (t := "int") (b := false) hT (.base (.int _)) (kitAny_cons (kit_ty (r := false) (by decide +kernel)) (fun _ => kitAny_cons (kit_ty (r := false) (by decide +kernel)) (fun _ => rfl) (fun h => by cases h)) (fun h => by cases h)) q
  · exact isT2 (t := "str") (b := false) hT (.base (.str _)) (kitAny_cons (kit_ty (r := false) (by decide +kernel)) (fun _ => kitAny_cons (kit_ty (r := false) (by decide +kernel)) (fun _ => rfl) (fun h => by cases h)) (fun h => by cases h)) q
  · exact isT2 (t := "tuple") (b := true) hT (.base (.tup e)) (kitAny_cons (kit_ty (r := false) (by decide +kernel)) (fun _ => kitAny_cons (kit_ty (r := true) (by decide +kernel)) (fun h => by cases h) (fun _ => rfl)) (fun h => by cases h)) q
  · exact isT2 (t := "list") (b := true) hT (.base (.lst e)) (kitAny_cons (kit_ty (r := true) (by decide +kernel)) (fun h => by cases h) (fun _ => rfl)) q
section
variable {P : Program} {w : World} {K : PySem.W.Frag} {mg : Str → Option Value} {base : Heap} {a : Ad}
def spWh : Sp := fun vs H Q _ => ∃ x, vs = [x] ∧ PlainV H x ∧ Q (.bl (whB x)) H
theorem ok_is_whole (T : Txt K mg a) : FnOk P w K mg base CX0 1 a.f_is_whole a.d_is_whole ["thing"] spWh := by
  refine T.F_is_whole.ok sc_is_whole (fun vs H Q E h => ?_) (fun cdv A outer s H vs Q E hr h => ?_)
  · obtain ⟨_, rfl, _⟩ := h
    rfl
  · obtain ⟨x, rfl, hx, k⟩ := h
    refine ⟨_, (pss_one (ps_ret (pe_and (pe_callB call_isi (by rfl) T.z_isinstance (by decide +kernel) (pa_cons (pv 0) (pa_cons (pe_bltn (v := .ty "int") (by rfl) T.z_int (by decide +kernel) rfl) pa_nil))) (pe_one (pe_not (pe_callB call_isi (by rfl) T.z_isinstance (by decide +kernel) (pa_cons (pv 0) (pa_cons (pe_bltn (v := .ty "bool") (by rfl) T.z_bool (by decide +kernel) rfl) pa_nil)))))))), ?_⟩
    walk_at "sm"
    refine is_int hx fun b c hc e => ⟨_, rfl, ?_⟩
    cases b with
    | false => exact iteF (by rw [← e] at k; exact k)
    | true => exact iteT (isi_mono hc ⟨_, rfl, by rw [← e] at k; exact k⟩)
theorem ok_law_whole (T : Txt K mg a) : FnOk P w K mg base CX0 1 a.f_law_whole a.d_law_whole ["_law_thing"] spWh := by
  refine T.F_law_whole.ok sc_law_whole (fun vs H Q E h => ?_) (fun cdv A outer s H vs Q E hr h => ?_)
  · obtain ⟨_, rfl, _⟩ := h
    rfl
  · obtain ⟨x, rfl, hx, k⟩ := h
    refine ⟨_, (pss_one (ps_ret (pe_and (pe_callB call_isi (by rfl) T.z_isinstance (by decide +kernel) (pa_cons (pv 0) (pa_cons (pe_bltn (v := .ty "int") (by rfl) T.z_int (by decide +kernel) rfl) pa_nil))) (pe_one (pe_not (pe_callB call_isi (by rfl) T.z_isinstance (by decide +kernel) (pa_cons (pv 0) (pa_cons (pe_bltn (v := .ty "bool") (by rfl) T.z_bool (by decide +kernel) rfl) pa_nil)))))))), ?_⟩
    walk_at "sm"
    refine is_int hx fun b c hc e => ⟨_, rfl, ?_⟩
    cases b with
    | false => exact iteF (by rw [← e] at k; exact k)
    | true => exact iteT (isi_mono hc ⟨_, rfl, by rw [← e] at k; exact k⟩)
def spWithin : Sp := fun vs H Q _ => ∃ (x : V) (lo hi : Int), vs = [x, .int lo, .int hi] ∧ PlainV H x ∧ Q (.bl (wiB x lo hi)) H
theorem ok_is_within (T : Txt K mg a) : FnOk P w K mg base CX0 2 a.f_is_within a.d_is_within ["thing", "least", "most"] spWithin := by
  refine T.F_is_within.ok sc_is_within (fun vs H Q E h => ?_) (fun cdv A outer s H vs Q E hr h => ?_)
  · obtain ⟨_, _, _, rfl, _⟩ := h
    rfl
  · obtain ⟨x, lo, hi, rfl, hx, k⟩ := h
    refine ⟨_, (pss_one (ps_ret (pe_and (pe_call (ok_is_whole T) (hr.mono (by decide)) rfl T.m_is_whole T.F_is_whole.kp T.b_is_whole .nil pass0 (pa_cons (pv 0) pa_nil)) (pe_one (pe_chain op_le op_le (pv 1) (pv 0) (pv 2)))))), ?_⟩
    walk_at "sm"
    refine ⟨x, rfl, hx, _, rfl, ?_⟩
    rcases hx with rfl | ⟨b, rfl⟩ | ⟨i, rfl⟩ | ⟨s, rfl⟩ | ⟨p, xs, rfl, e⟩ | ⟨p, xs, rfl, e⟩
    · exact iteF k
    · exact iteF k
    · refine iteT ?_
      walk_at "sm"
      refine ite2 (fun h => ?_) (fun h => ?_)
      · have e : wiB (.int i) lo hi = decide (i ≤ hi) := by show (decide _ && decide _) = _; rw [decide_eq_true h]; rfl
        rw [e] at k; exact k
      · have e : wiB (.int i) lo hi = false := by show (decide _ && decide _) = _; rw [decide_eq_false h]; rfl
        rw [e] at k; exact k
    · exact iteF k
    · exact iteF k
    · exact iteF k
def spSeq : Sp := fun vs H Q _ => ∃ x, vs = [x] ∧ PlainV H x ∧ ∀ H', Evl.Ex H H' → Q (.bl (sqV x)) H'
theorem ok_is_sequence (T : Txt K mg a) : FnOk P w K mg base CX0 1 a.f_is_sequence a.d_is_sequence ["thing"] spSeq := by
  refine T.F_is_sequence.ok sc_is_sequence (fun vs H Q E h => ?_) (fun cdv A outer s H vs Q E hr h => ?_)
  · obtain ⟨_, rfl, _⟩ := h
    rfl
  · obtain ⟨x, rfl, hx, k⟩ := h
    refine ⟨_, (pss_one (ps_ret (pe_callB call_isiT (by rfl) T.z_isinstance (by decide +kernel) (pa_cons (pv 0) (pa_cons (pe_tup (pa_cons (pe_bltn (v := .ty "list") (by rfl) T.z_list (by decide +kernel) rfl) (pa_cons (pe_bltn (v := .ty "tuple") (by rfl) T.z_tuple (by decide +kernel) rfl) pa_nil))) pa_nil))))), ?_⟩
    walk_at "sm"
    refine ⟨sz (by decide), fun tp htp => is_seq (hx.go (Evl.Ex.new htp)) upd_same (k _ (Evl.Ex.new htp))⟩
def spNum : Sp := fun vs H Q _ => ∃ x, vs = [x] ∧ PlainV H x ∧ Q (.bl (wiB x 0 4095)) H
theorem ok_is_number (T : Txt K mg a) : FnOk P w K mg base CX0 3 a.f_is_number a.d_is_number ["thing"] spNum := by
  refine T.F_is_number.ok sc_is_number (fun vs H Q E h => ?_) (fun cdv A outer s H vs Q E hr h => ?_)
  · obtain ⟨_, rfl, _⟩ := h
    rfl
  · obtain ⟨x, rfl, hx, k⟩ := h
    refine ⟨_, (pss_one (ps_ret (pe_call (ok_is_within T) (hr.mono (by decide)) rfl T.m_is_within T.F_is_within.kp T.b_is_within .nil pass0 (pa_cons (pv 0) (pa_cons pe_int (pa_cons (pe_glob rfl T.g_MOST_NUMBER.choose_spec.1 T.g_MOST_NUMBER.choose_spec.2) pa_nil)))))), ?_⟩
    walk_at "sm"
    exact ⟨x, 0, 4095, rfl, hx, k⟩
def spCW (C : Addr) : Sp := fun vs H Q E => ∃ x, vs = [x] ∧ PlainV H x ∧ (wiB x 1 12 = true → Q x H) ∧ (wiB x 1 12 = false → E (.ref C) none H)
def spTwo : Sp := fun vs H Q _ => ∃ n : Nat, vs = [.int n] ∧ n ≤ 62 ∧ Q (.int (2 ^ n)) H
def ivTwo (n : Nat) (H : Hp) : Nat → L2.St → Hp → Prop := fun i σ H' => ∃ v, σ = [some (.int n), some (.int (2 ^ i)), v] ∧ H' = H
theorem ok_law_two (T : Txt K mg a) : FnOk P w K mg base CX0 1 a.f_law_two a.d_law_two ["_law_n"] spTwo := by
  refine T.F_law_two.ok sc_law_two (fun vs H Q E h => ?_) (fun cdv A outer s H vs Q E hr h => ?_)
  · obtain ⟨_, rfl, _⟩ := h
    rfl
  · obtain ⟨n, rfl, hn, k⟩ := h
    refine ⟨_, (pss_cons (ps_set (i := 1) sc_law_two.nd rfl (by first | exact Or.inl rfl | exact Or.inr rfl) pe_int)
  (pss_cons (ps_for PassesOwn.never rfl (pi_range1 (by rfl) T.z_range (pa_cons (pv 0) pa_nil)) (pg_name (i := 2) sc_law_two.nd rfl (by first | exact Or.inl rfl | exact Or.inr rfl)) (pss_one (ps_set (i := 1) sc_law_two.nd rfl (by first | exact Or.inl rfl | exact Or.inr rfl) (pe_op op_mul (pv 1) pe_int))))
  (pss_one (ps_ret (pv 1))))), ?_⟩
    walk_at "sm"
    refine ⟨_, rfl, (n : Int), rfl, by omega, by omega, ?_⟩
    refine for_range (lo := 0) (n := (n : Int).toNat) (ivTwo n H) ⟨none, rfl, rfl⟩ ?_ ?_
    · rintro i σ H' hi ⟨v, rfl, rfl⟩
      walk_at "sm"
      have p1 : (2 : Int) ^ i ≤ 2 ^ 62 := by
        have := Nat.pow_le_pow_right (show 0 < 2 by decide) (show i ≤ 62 by omega)
        exact_mod_cast this
      have p0 : (0 : Int) ≤ 2 ^ i := Int.le_of_lt (Int.pow_pos (by decide))
      refine ⟨.inl ⟨by omega, by omega⟩, some (.int (0 + (i : Int))), ?_, rfl⟩
      rw [Int.pow_succ]
    · rintro σ H' ⟨v, rfl, rfl⟩
      walk_at "sm"
      exact k
end


/-! ### the kinds of steps -/
inductive Pk | add | sub | mul | band | bor | bxor | eq | lt
deriving DecidableEq
def Pk.sg : Pk → Str
  | .add => "+" | .sub => "-" | .mul => "*" | .band => "&" | .bor => "|" | .bxor => "^" | .eq => "==" | .lt => "<"
def Pk.val (k : Pk) (x y : Int) : Int := match k with
  | .add => x + y | .sub => x - y | .mul => x * y | .band => Builtin.bitAnd x y | .bor => Builtin.bitOr x y | .bxor => Builtin.bitXor x y
  | .eq => if x = y then 1 else 0 | .lt => if x < y then 1 else 0
inductive Kd | pr (k : Pk) | pick | same | sh (l : Bool) (n : Nat) | tab (ns : List Int)
def goodTab (ns : List Int) : Prop := (ns.length = 1 ∨ ns.length = 2 ∨ ns.length = 4 ∨ ns.length = 8 ∨ ns.length = 16) ∧ ∀ n ∈ ns, 0 ≤ n ∧ n ≤ 4095
def shS (l : Bool) : Str := if l = true then "<<" else ">>"
/-- at p stands a tuple that is this kind -/
def KdAt (H : Hp) (p : Addr) : Kd → Prop
  | .pr k => H p = some (.tup [.str k.sg])
  | .pick => H p = some (.tup [.str "pick"])
  | .same => H p = some (.tup [.str "same"])
  | .sh l n => H p = some (.tup [.str (shS l), .int n]) ∧ n ≤ 4095
  | .tab ns => ∃ t, H p = some (.tup [.str "table", .ref t]) ∧ H t = some (.tup (ns.map V.int)) ∧ goodTab ns
theorem KdAt.go {H H' : Hp} {p : Addr} {k : Kd} (e : Evl.Ex H H') (h : KdAt H p k) : KdAt H' p k := by
  cases k with
  | pr k => exact e _ _ h
  | pick => exact e _ _ h
  | same => exact e _ _ h
  | sh l n => exact ⟨e _ _ h.1, h.2⟩
  | tab ns => obtain ⟨t, h1, h2, h3⟩ := h; exact ⟨t, e _ _ h1, e _ _ h2, h3⟩
def Kd.many : Kd → Nat
  | .pr _ => 2 | .pick => 3 | .same => 1 | .sh _ _ => 1 | .tab _ => 1
def Kd.sg : Kd → Str
  | .pr k => k.sg | .pick => "pick" | .same => "same" | .sh l _ => shS l | .tab _ => "table"
theorem KdAt.head {H : Hp} {p : Addr} {k : Kd} (h : KdAt H p k) : ∃ r, H p = some (.tup (.str k.sg :: r)) := by
  cases k with
  | pr k => exact ⟨_, h⟩
  | pick => exact ⟨_, h⟩
  | same => exact ⟨_, h⟩
  | sh l n => exact ⟨_, h.1⟩
  | tab ns => obtain ⟨t, h1, _⟩ := h; exact ⟨_, h1⟩
def prL : List V := [.str "+", .str "-", .str "*", .str "&", .str "|", .str "^", .str "==", .str "<"]
def Kd.isPr : Kd → Bool
  | .pr _ => true
  | _ => false
theorem sg_pick (k : Kd) : k.sg = ("pick" : Str) ↔ k = .pick := by
  cases k with
  | pr k => cases k <;> exact ⟨fun h => absurd h (by decide +kernel), fun h => by cases h⟩
  | pick => exact ⟨fun _ => rfl, fun _ => rfl⟩
  | same => exact ⟨fun h => absurd h (by decide +kernel), fun h => by cases h⟩
  | sh l n => cases l <;> exact ⟨fun h => absurd h (by show ¬ (shS _ = _); decide +kernel), fun h => by cases h⟩
  | tab ns => exact ⟨fun h => absurd h (by show ¬ (("table" : Str) = _); decide +kernel), fun h => by cases h⟩
theorem sg_pr (k : Kd) : inV (.str k.sg) prL = k.isPr := by
  cases k with
  | pr k => cases k <;> decide +kernel
  | pick => decide +kernel
  | same => decide +kernel
  | sh l n => cases l <;> (show inV (.str (shS _)) prL = false) <;> decide +kernel
  | tab ns => show inV (.str "table") prL = false; decide +kernel
theorem iteN {c A B : Prop} [Decidable c] (h : ¬ c) (b : B) : if c then A else B := by rw [if_neg h]; exact b
theorem iteP {c A B : Prop} [Decidable c] (h : c) (a : A) : if c then A else B := by rw [if_pos h]; exact a
theorem ix0 {K : PySem.W.Frag} {H : Hp} {p : Addr} {x : V} {r : List V} {Q : VK} (h : H p = some (.tup (x :: r))) (q : Q x H) : rIxT K (.ref p) (.int 0) H Q := ixt h (atI_nat (j := 0) rfl) q
theorem ix1 {K : PySem.W.Frag} {H : Hp} {p : Addr} {x y : V} {r : List V} {Q : VK} (h : H p = some (.tup (x :: y :: r))) (q : Q y H) : rIxT K (.ref p) (.int 1) H Q := ixt h (atI_nat (j := 1) rfl) q
theorem ix2 {K : PySem.W.Frag} {H : Hp} {p : Addr} {x y z : V} {r : List V} {Q : VK} (h : H p = some (.tup (x :: y :: z :: r))) (q : Q z H) : rIxT K (.ref p) (.int 2) H Q := ixt h (atI_nat (j := 2) rfl) q
/-- the word of a single step's own working, and of a step at all -/
def Kd.one (k : Kd) (x : Int) : Int := match k with
  | .sh l n => if l = true then x * 2 ^ n else x / 2 ^ n
  | .tab ns => (ns[(x % ns.length).toNat]?).getD 0
  | _ => x
def Kd.word (k : Kd) (ws : List Int) (w : Nat) : Int := match k, ws with
  | .pick, [x, y, z] => if x = 0 then z else y
  | .pr k, [x, y] => k.val x y % 2 ^ w
  | k, [x] => k.one x % 2 ^ w
  | _, _ => 0
section
variable {P : Program} {w : World} {K : PySem.W.Frag} {mg : Str → Option Value} {base : Heap} {a : Ad}
def spOC : Sp := fun vs H Q _ => ∃ (p : Addr) (k : Kd), vs = [.ref p] ∧ KdAt H p k ∧ Q (.int k.many) H
theorem ok_operand_count (T : Txt K mg a) : FnOk P w K mg base CX0 1 a.f_operand_count a.d_operand_count ["kind"] spOC := by
  refine T.F_operand_count.ok sc_operand_count (fun vs H Q E h => ?_) (fun cdv A outer s H vs Q E hr h => ?_)
  · obtain ⟨_, _, rfl, _⟩ := h
    rfl
  · obtain ⟨p, kd, rfl, hk, k⟩ := h
    refine ⟨_, (pss_cons (ps_if (pt_cmpR op_eq (pe_ix ix_tup (pv 0) pe_int (fun _ _ => rfl)) pe_str (nomark _)) (pss_one (ps_ret pe_int))
    pss_nil)
  (pss_one (ps_ret (pe_ifExp (pt_cmpR op_in_seq (pe_ix ix_tup (pv 0) pe_int (fun _ _ => rfl)) (pe_glob rfl T.g_PAIR_SIGNS.choose_spec.1 T.g_PAIR_SIGNS.choose_spec.2) (by rfl)) pe_int pe_int)))), ?_⟩
    obtain ⟨r, hp⟩ := hk.head
    walk_at "sm"
    refine ix0 hp ⟨rfl, ite2 (fun e => ?_) fun e => ix0 hp (in_tup (T.t_PAIR_SIGNS H) rfl (by decide +kernel) ?_)⟩
    · rw [(sg_pick kd).mp (by simpa using e)] at k
      exact k
    · show ∃ c, _
      have e' : ¬ kd = .pick := fun q => e (by rw [q]; rfl)
      refine ⟨_, rfl, ?_⟩
      have := sg_pr kd
      unfold prL at this
      rw [this]
      cases kd with
      | pr k => exact iteT k
      | pick => exact absurd rfl e'
      | same => exact iteF k
      | sh l n => exact iteF k
      | tab ns => exact iteF k
def spPair : Sp := fun vs H Q _ => ∃ (k : Pk) (x y : Int), vs = [.str k.sg, .int x, .int y] ∧ (-(2 ^ 64) < x ∧ x < 2 ^ 64) ∧ Q (.int (k.val x y)) H
theorem ok_pair_word (T : Txt K mg a) : FnOk P w K mg base CX0 1 a.f_pair_word a.d_pair_word ["sign", "one", "other"] spPair := by
  refine T.F_pair_word.ok sc_pair_word (fun vs H Q E h => ?_) (fun cdv A outer s H vs Q E hr h => ?_)
  · obtain ⟨_, _, _, rfl, _⟩ := h
    rfl
  · obtain ⟨kd, x, y, rfl, hx, k⟩ := h
    refine ⟨_, (pss_cons (ps_if (pt_cmpR op_eq (pv 0) pe_str (nomark _)) (pss_one (ps_ret (pe_op op_add (pv 1) (pv 2))))
    pss_nil)
  (pss_cons (ps_if (pt_cmpR op_eq (pv 0) pe_str (nomark _)) (pss_one (ps_ret (pe_op op_sub (pv 1) (pv 2))))
    pss_nil)
  (pss_cons (ps_if (pt_cmpR op_eq (pv 0) pe_str (nomark _)) (pss_one (ps_ret (pe_op op_mul (pv 1) (pv 2))))
    pss_nil)
  (pss_cons (ps_if (pt_cmpR op_eq (pv 0) pe_str (nomark _)) (pss_one (ps_ret (pe_op op_and (pv 1) (pv 2))))
    pss_nil)
  (pss_cons (ps_if (pt_cmpR op_eq (pv 0) pe_str (nomark _)) (pss_one (ps_ret (pe_op op_or (pv 1) (pv 2))))
    pss_nil)
  (pss_cons (ps_if (pt_cmpR op_eq (pv 0) pe_str (nomark _)) (pss_one (ps_ret (pe_op op_xor (pv 1) (pv 2))))
    pss_nil)
  (pss_one (ps_ret (pe_ifExp (pt_cmpR op_eq (pv 0) pe_str (nomark _)) (pe_callTy call_int1 (by rfl) T.z_int (by decide +kernel) (pa_cons (pe_cmpR op_eq (pv 1) (pv 2) (nomark _)) pa_nil)) (pe_callTy call_int1 (by rfl) T.z_int (by decide +kernel) (pa_cons (pe_cmpR op_lt (pv 1) (pv 2) (nomark _)) pa_nil))))))))))), ?_⟩
    walk_at "sm"
    cases kd <;> (repeat (first | exact k | exact ⟨.inl hx, k⟩ | refine iteN (by decide +kernel) ?_ | refine iteP (by decide +kernel) ?_))
def spSingle : Sp := fun vs H Q _ => ∃ (p : Addr) (k : Kd) (x : Int), vs = [.ref p, .int x] ∧ KdAt H p k ∧ k.isPr = false ∧ k ≠ .pick ∧ 0 ≤ x ∧ x < 4096 ∧ Q (.int (k.one x)) H
theorem ok_single_word (T : Txt K mg a) : FnOk P w K mg base CX0 1 a.f_single_word a.d_single_word ["kind", "word"] spSingle := by
  refine T.F_single_word.ok sc_single_word (fun vs H Q E h => ?_) (fun cdv A outer s H vs Q E hr h => ?_)
  · obtain ⟨_, _, _, rfl, _⟩ := h
    rfl
  · obtain ⟨p, kd, x, rfl, hk, h1, h2, h3, h4, k⟩ := h
    refine ⟨_, (pss_cons (ps_if (pt_cmpR op_eq (pe_ix ix_tup (pv 0) pe_int (fun _ _ => rfl)) pe_str (nomark _)) (pss_one (ps_ret (pe_ix ix_tup (pe_ix ix_tup (pv 0) pe_int (fun _ _ => rfl)) (pe_op op_mod (pv 1) (pe_callB call_len_seq (by rfl) T.z_len (by decide +kernel) (pa_cons (pe_ix ix_tup (pv 0) pe_int (fun _ _ => rfl)) pa_nil))) (fun _ _ => rfl))))
    pss_nil)
  (pss_cons (ps_if (pt_cmpR op_eq (pe_ix ix_tup (pv 0) pe_int (fun _ _ => rfl)) pe_str (nomark _)) (pss_one (ps_ret (pv 1)))
    pss_nil)
  (pss_one (ps_ret (pe_ifExp (pt_cmpR op_eq (pe_ix ix_tup (pv 0) pe_int (fun _ _ => rfl)) pe_str (nomark _)) (pe_op op_shl (pv 1) (pe_ix ix_tup (pv 0) pe_int (fun _ _ => rfl))) (pe_op op_shr (pv 1) (pe_ix ix_tup (pv 0) pe_int (fun _ _ => rfl)))))))), ?_⟩
    obtain ⟨r, hp⟩ := hk.head
    walk_at "sm"
    refine ix0 hp ⟨rfl, ?_⟩
    cases kd with
    | pr kk => cases h1
    | pick => exact absurd rfl h2
    | same =>
      refine iteN (by decide +kernel) (ix0 hp ⟨rfl, iteP rfl k⟩)
    | sh l n =>
      obtain ⟨hp2, hn⟩ := hk
      refine iteN (by cases l <;> (show ¬ (V.str (shS _) = _)) <;> decide +kernel) (ix0 hp ⟨rfl, iteN (by cases l <;> (show ¬ (V.str (shS _) = _)) <;> decide +kernel) (ix0 hp ⟨rfl, ?_⟩)⟩)
      cases l with
      | true => exact iteP rfl (ix1 hp2 ⟨_, rfl, ⟨by omega, by omega, by omega⟩, k⟩)
      | false => exact iteN (by show ¬ (V.str (shS _) = _); decide +kernel) (ix1 hp2 ⟨_, rfl, by omega, k⟩)
    | tab ns =>
      obtain ⟨t, hp2, ht, hg, hb⟩ := hk
      have hl : 0 < ns.length := by omega
      have e0 := Int.emod_nonneg x (show (ns.length : Int) ≠ 0 by omega)
      have e1 := Int.emod_lt_of_pos x (show (0 : Int) < ns.length by omega)
      refine iteP rfl (ix1 hp2 (ix1 hp2 ⟨t, rfl, _, .inr (SqT.of ht), by rw [List.length_map]; omega, ?_⟩))
      rw [List.length_map]
      have k2 : Q (.int ((ns[(x % ns.length).toNat]?).getD 0)) H := k
      obtain ⟨j, hj⟩ : ∃ j : Nat, x % (ns.length : Int) = (j : Int) := ⟨(x % ns.length).toNat, by omega⟩
      rw [hj] at k2 e1 ⊢
      rw [Int.toNat_natCast] at k2
      have hj2 : j < ns.length := by omega
      rw [List.getElem?_eq_getElem hj2] at k2
      exact ixt ht (atI_nat (by rw [List.getElem?_map, List.getElem?_eq_getElem hj2]; rfl)) k2
end


/-! ### bit by bit -/
def Pk.nat (k : Pk) (x y : Nat) : Nat := match k with
  | .band => x &&& y | .bor => x ||| y | _ => x ^^^ y
def onB (k : Pk) (a b : Nat) : Bool := match k with
  | .band => decide (a + b = 2) | .bor => decide (0 < a + b) | _ => decide (a + b = 1)
def Pk.isBit (k : Pk) : Prop := k = .band ∨ k = .bor ∨ k = .bxor
theorem bit_step {k : Pk} (hk : k.isBit) (x y i : Nat) : k.nat x y / 2 ^ i % 2 = if onB k (x / 2 ^ i % 2) (y / 2 ^ i % 2) = true then 1 else 0 := by
  have a := Nat.testBit_eq_decide_div_mod_eq (x := x) (i := i)
  have b := Nat.testBit_eq_decide_div_mod_eq (x := y) (i := i)
  have hx := Nat.mod_lt (x / 2 ^ i) (show 0 < 2 by decide)
  have hy := Nat.mod_lt (y / 2 ^ i) (show 0 < 2 by decide)
  have c := Nat.testBit_eq_decide_div_mod_eq (x := k.nat x y) (i := i)
  have hc := Nat.mod_lt (k.nat x y / 2 ^ i) (show 0 < 2 by decide)
  have e : (k.nat x y).testBit i = onB k (x / 2 ^ i % 2) (y / 2 ^ i % 2) := by
    generalize x / 2 ^ i % 2 = p at *
    generalize y / 2 ^ i % 2 = q at *
    rcases hk with rfl | rfl | rfl
    · show (x &&& y).testBit i = decide (p + q = 2)
      rw [Nat.testBit_and, a, b]
      rcases (show p = 0 ∨ p = 1 by omega) with rfl | rfl <;> rcases (show q = 0 ∨ q = 1 by omega) with rfl | rfl <;> rfl
    · show (x ||| y).testBit i = decide (0 < p + q)
      rw [Nat.testBit_or, a, b]
      rcases (show p = 0 ∨ p = 1 by omega) with rfl | rfl <;> rcases (show q = 0 ∨ q = 1 by omega) with rfl | rfl <;> rfl
    · show (x ^^^ y).testBit i = decide (p + q = 1)
      rw [Nat.testBit_xor, a, b]
      rcases (show p = 0 ∨ p = 1 by omega) with rfl | rfl <;> rcases (show q = 0 ∨ q = 1 by omega) with rfl | rfl <;> rfl
  rw [← e, c]
  by_cases h : k.nat x y / 2 ^ i % 2 = 1
  · rw [h]; rfl
  · rw [decide_eq_false h, if_neg (by decide)]
    omega
theorem nat_lt {k : Pk} (hk : k.isBit) {x y n : Nat} (hx : x < 2 ^ n) (hy : y < 2 ^ n) : k.nat x y < 2 ^ n := by
  rcases hk with rfl | rfl | rfl
  · exact Nat.and_lt_two_pow x hy
  · exact Nat.or_lt_two_pow hx hy
  · exact Nat.xor_lt_two_pow hx hy
theorem val_nat {k : Pk} (hk : k.isBit) {x y : Int} (hx : 0 ≤ x) (hy : 0 ≤ y) : k.val x y = ((k.nat x.toNat y.toNat : Nat) : Int) := by
  rcases hk with rfl | rfl | rfl
  · exact bitAnd_pp hx hy
  · exact Bits.bitOr_pp hx hy
  · exact Bits.bitXor_pp hx hy
theorem mod_next (n i : Nat) : n % 2 ^ (i + 1) = n % 2 ^ i + 2 ^ i * (n / 2 ^ i % 2) := Nat.mod_pow_succ
section
variable {P : Program} {w : World} {K : PySem.W.Frag} {mg : Str → Option Value} {base : Heap} {a : Ad}
def spOps : Sp := fun vs H Q _ => ∃ (p : Addr) (k : Kd), vs = [.ref p] ∧ KdAt H p k ∧ ∀ H', Evl.Ex H H' → Q (.int k.many) H'
theorem sg_one (k : Kd) : inV (.str k.sg) [.str "<<", .str ">>", .str "table", .str "same"] = (!k.isPr && decide (k.sg ≠ ("pick" : Str))) := by
  cases k with
  | pr k => cases k <;> decide +kernel
  | pick => decide +kernel
  | same => decide +kernel
  | sh l n => cases l <;> (show inV (.str (shS _)) _ = (!false && decide (shS _ ≠ _))) <;> decide +kernel
  | tab ns => show inV (.str "table") _ = (!false && decide (("table" : Str) ≠ _)); decide +kernel
theorem in_lst {K : PySem.W.Frag} {H : Hp} {p : Addr} {xs : List V} {x : V} {Q : VK} (h : H p = some (.lst xs)) (fx : flatV x = true) (fxs : xs.all flatV = true) (q : Q (.bl (inV x xs)) H) : rIn K false x (.ref p) H Q := ⟨p, xs, rfl, .inl (SqL.of h), fx, fxs, q⟩
theorem ok_law_operands (T : Txt K mg a) : FnOk P w K mg base CX0 1 a.f_law_operands a.d_law_operands ["_law_kind_here"] spOps := by
  refine T.F_law_operands.ok sc_law_operands (fun vs H Q E h => ?_) (fun cdv A outer s H vs Q E hr h => ?_)
  · obtain ⟨_, _, rfl, _⟩ := h
    rfl
  · obtain ⟨p, kd, rfl, hk, k⟩ := h
    refine ⟨_, (pss_cons (ps_if (pt_cmpR op_eq (pe_ix ix_tup (pv 0) pe_int (fun _ _ => rfl)) pe_str (nomark _)) (pss_one (ps_ret pe_int))
    pss_nil)
  (pss_one (ps_ret (pe_ifExp (pt_cmpR op_in_seq (pe_ix ix_tup (pv 0) pe_int (fun _ _ => rfl)) (pe_lst (pa_cons pe_str (pa_cons pe_str (pa_cons pe_str (pa_cons pe_str pa_nil))))) (by rfl)) pe_int pe_int)))), ?_⟩
    obtain ⟨r, hp⟩ := hk.head
    walk_at "sm"
    refine ix0 hp ⟨rfl, ite2 (fun e => ?_) fun e => ix0 hp ⟨sz (by decide), fun l hl => in_lst upd_same rfl (by decide +kernel) ⟨_, rfl, ?_⟩⟩⟩
    · have e2 := (sg_pick kd).mp (by simpa using e)
      subst e2
      exact k _ (Evl.Ex.refl _)
    · have e' : kd.sg ≠ ("pick" : Str) := by simpa using e
      rw [sg_one, decide_eq_true e']
      have k2 := k _ (Evl.Ex.new (o := .lst [V.str "<<", V.str ">>", V.str "table", V.str "same"]) hl)
      cases kd with
      | pr kk => exact iteF k2
      | pick => exact absurd rfl e'
      | same => exact iteT k2
      | sh l n => exact iteT k2
      | tab ns => exact iteT k2
def spBits : Sp := fun vs H Q _ => ∃ (k : Pk) (x y : Nat), vs = [.int x, .int y, .str k.sg] ∧ k.isBit ∧ x < 4096 ∧ y < 4096 ∧ Q (.int (k.nat x y)) H
def ivBits (k : Pk) (x y : Nat) (H : Hp) : Nat → L2.St → Hp → Prop := fun i σ H' => ∃ v5 v6 v7 v8, σ = [some (.int x), some (.int y), some (.str k.sg), some (.int ((k.nat x y % 2 ^ i : Nat) : Int)), some (.int ((2 ^ i : Nat) : Int)), v5, v6, v7, v8] ∧ H' = H
theorem ok_law_bits (T : Txt K mg a) : FnOk P w K mg base CX0 1 a.f_law_bits a.d_law_bits ["_law_one", "_law_other", "_law_sign"] spBits := by
  refine T.F_law_bits.ok sc_law_bits (fun vs H Q E h => ?_) (fun cdv A outer s H vs Q E hr h => ?_)
  · obtain ⟨_, _, _, rfl, _⟩ := h
    rfl
  · obtain ⟨kd, x, y, rfl, hk, hx, hy, k⟩ := h
    refine ⟨_, (pss_cons (ps_set (i := 3) sc_law_bits.nd rfl (by first | exact Or.inl rfl | exact Or.inr rfl) pe_int)
  (pss_cons (ps_set (i := 4) sc_law_bits.nd rfl (by first | exact Or.inl rfl | exact Or.inr rfl) pe_int)
  (pss_cons (ps_for PassesOwn.never rfl (pi_range1 (by rfl) T.z_range (pa_cons pe_int pa_nil)) (pg_name (i := 5) sc_law_bits.nd rfl (by first | exact Or.inl rfl | exact Or.inr rfl)) (pss_cons (ps_set (i := 6) sc_law_bits.nd rfl (by first | exact Or.inl rfl | exact Or.inr rfl) (pe_op op_mod (pe_op op_fdiv (pe_callTy call_int1 (by rfl) T.z_int (by decide +kernel) (pa_cons (pv 0) pa_nil)) (pv 4)) pe_int))
  (pss_cons (ps_set (i := 7) sc_law_bits.nd rfl (by first | exact Or.inl rfl | exact Or.inr rfl) (pe_op op_mod (pe_op op_fdiv (pe_callTy call_int1 (by rfl) T.z_int (by decide +kernel) (pa_cons (pv 1) pa_nil)) (pv 4)) pe_int))
  (pss_cons (ps_set (i := 8) sc_law_bits.nd rfl (by first | exact Or.inl rfl | exact Or.inr rfl) (pe_ifExp (pt_cmpR op_eq (pv 2) pe_str (nomark _)) (pe_cmpR op_eq (pe_op op_add (pv 6) (pv 7)) pe_int (nomark _)) (pe_ifExp (pt_cmpR op_eq (pv 2) pe_str (nomark _)) (pe_cmpR op_gt (pe_op op_add (pv 6) (pv 7)) pe_int (nomark _)) (pe_cmpR op_eq (pe_op op_add (pv 6) (pv 7)) pe_int (nomark _)))))
  (pss_cons (ps_set (i := 3) sc_law_bits.nd rfl (by first | exact Or.inl rfl | exact Or.inr rfl) (pe_op op_add (pv 3) (pe_ifExp (pt_val (pv 8)) (pv 4) pe_int)))
  (pss_one (ps_set (i := 4) sc_law_bits.nd rfl (by first | exact Or.inl rfl | exact Or.inr rfl) (pe_op op_mul (pv 4) pe_int))))))))
  (pss_one (ps_ret (pv 3)))))), ?_⟩
    walk_at "sm"
    refine ⟨12, rfl, by decide, by decide, ?_⟩
    refine for_range (lo := 0) (n := (12 : Int).toNat) (ivBits kd x y H) ⟨none, none, none, none, by rw [Nat.pow_zero, Nat.mod_one]; rfl, rfl⟩ ?_ ?_
    · rintro i σ H' hi ⟨v5, v6, v7, v8, rfl, rfl⟩
      walk_at "sm"
      have hi2 : i < 12 := hi
      have p0 : 0 < 2 ^ i := Nat.pow_pos (by decide)
      have p1 : 2 ^ i ≤ 4096 := Nat.pow_le_pow_right (show 0 < 2 by decide) (show i ≤ 12 by omega)
      have cd : CDiv (x : Int) ((2 ^ i : Nat) : Int) ∧ CDiv (y : Int) ((2 ^ i : Nat) : Int) := ⟨⟨by omega, by omega⟩, ⟨by omega, by omega⟩⟩
      have cm : CMul ((2 ^ i : Nat) : Int) 2 := .inl ⟨by omega, by omega⟩
      refine ⟨cd.1, by decide, cd.2, by decide, ?_⟩
      have st := bit_step hk x y i
      have nx := mod_next (kd.nat x y) i
      have ea : ((x : Int) / ((2 ^ i : Nat) : Int) % 2) = ((x / 2 ^ i % 2 : Nat) : Int) := by rw [← Int.natCast_ediv]; rfl
      have eb : ((y : Int) / ((2 ^ i : Nat) : Int) % 2) = ((y / 2 ^ i % 2 : Nat) : Int) := by rw [← Int.natCast_ediv]; rfl
      rw [ea, eb]
      have ys : ∀ v5 v6 v7 v8, onB kd (x / 2 ^ i % 2) (y / 2 ^ i % 2) = true → CMul ((2 ^ i : Nat) : Int) 2 ∧ ivBits kd x y H' (i + 1) [some (.int x), some (.int y), some (.str kd.sg), some (.int (((kd.nat x y % 2 ^ i : Nat) : Int) + ((2 ^ i : Nat) : Int))), some (.int (((2 ^ i : Nat) : Int) * 2)), v5, v6, v7, v8] H' := by
        intro v5 v6 v7 v8 h
        rw [if_pos h] at st
        rw [st, Nat.mul_one] at nx
        refine ⟨cm, v5, v6, v7, v8, ?_, rfl⟩
        rw [nx, Nat.pow_succ, Int.natCast_add, Int.natCast_mul]
        rfl
      have no : ∀ v5 v6 v7 v8, ¬ onB kd (x / 2 ^ i % 2) (y / 2 ^ i % 2) = true → CMul ((2 ^ i : Nat) : Int) 2 ∧ ivBits kd x y H' (i + 1) [some (.int x), some (.int y), some (.str kd.sg), some (.int (((kd.nat x y % 2 ^ i : Nat) : Int) + 0)), some (.int (((2 ^ i : Nat) : Int) * 2)), v5, v6, v7, v8] H' := by
        intro v5 v6 v7 v8 h
        rw [if_neg h] at st
        rw [st, Nat.mul_zero] at nx
        refine ⟨cm, v5, v6, v7, v8, ?_, rfl⟩
        rw [nx, Nat.pow_succ, Int.add_zero, Nat.add_zero, Int.natCast_mul]
        rfl
      generalize x / 2 ^ i % 2 = p at *
      generalize y / 2 ^ i % 2 = q at *
      rcases hk with rfl | rfl | rfl
      · refine iteP (by decide +kernel) (ite2 (fun h => ys _ _ _ _ (decide_eq_true (by omega))) fun h => no _ _ _ _ fun z => h (by have := of_decide_eq_true z; omega))
      · refine iteN (by decide +kernel) (iteP (by decide +kernel) (ite2 (fun h => ys _ _ _ _ (decide_eq_true (by omega))) fun h => no _ _ _ _ fun z => h (by have := of_decide_eq_true z; omega)))
      · refine iteN (by decide +kernel) (iteN (by decide +kernel) (ite2 (fun h => ys _ _ _ _ (decide_eq_true (by omega))) fun h => no _ _ _ _ fun z => h (by have := of_decide_eq_true z; omega)))
    · rintro σ H' ⟨v5, v6, v7, v8, rfl, rfl⟩
      walk_at "sm"
      rw [show (12 : Int).toNat = 12 from rfl, Nat.mod_eq_of_lt (nat_lt hk (n := 12) (by omega) (by omega))]
      exact k
/-! ### the law's own word of a step -/
theorem two_le {w : Nat} (h : w ≤ 12) : (0 : Int) < 2 ^ w ∧ (2 : Int) ^ w ≤ 4096 := by
  have p1 : 2 ^ w ≤ 4096 := Nat.pow_le_pow_right (show 0 < 2 by decide) (show w ≤ 12 by omega)
  have p2 : 0 < 2 ^ w := Nat.pow_pos (by decide)
  constructor
  · exact Int.pow_pos (by decide)
  · exact_mod_cast p1
theorem shl_zero {x : Int} {n w : Nat} (h : w ≤ n) : x * 2 ^ n % 2 ^ w = 0 := by
  obtain ⟨d, rfl⟩ : ∃ d, n = w + d := ⟨n - w, by omega⟩
  rw [Int.pow_add, ← Int.mul_assoc, Int.mul_comm (x * 2 ^ w), ← Int.mul_assoc, Int.mul_emod_left]
theorem shr_zero {x : Int} {n w : Nat} (h : w ≤ n) (h0 : 0 ≤ x) (h1 : x < 2 ^ w) : x / 2 ^ n = 0 := by
  refine Int.ediv_eq_zero_of_lt h0 (Int.lt_of_lt_of_le h1 ?_)
  have := Nat.pow_le_pow_right (show 0 < 2 by decide) h
  exact_mod_cast this
theorem shr_lt {x : Int} {n w : Nat} (h0 : 0 ≤ x) (h1 : x < 2 ^ w) : 0 ≤ x / 2 ^ n ∧ x / 2 ^ n < 2 ^ w := by
  have p : (0 : Int) ≤ 2 ^ n := Int.le_of_lt (Int.pow_pos (by decide))
  refine ⟨Int.ediv_nonneg h0 p, Int.lt_of_le_of_lt (Int.ediv_le_self _ h0) h1⟩
theorem bit_mod {k : Pk} (hk : k.isBit) {x y : Int} {w : Nat} (hx : 0 ≤ x) (hy : 0 ≤ y) (gx : x < 2 ^ w) (gy : y < 2 ^ w) : k.val x y % 2 ^ w = ((k.nat x.toNat y.toNat : Nat) : Int) := by
  rw [val_nat hk hx hy]
  have hx2 : x.toNat < 2 ^ w := by
    have : ((x.toNat : Nat) : Int) < ((2 ^ w : Nat) : Int) := by rw [Int.toNat_of_nonneg hx]; exact_mod_cast gx
    exact_mod_cast this
  have hy2 : y.toNat < 2 ^ w := by
    have : ((y.toNat : Nat) : Int) < ((2 ^ w : Nat) : Int) := by rw [Int.toNat_of_nonneg hy]; exact_mod_cast gy
    exact_mod_cast this
  have := nat_lt hk hx2 hy2
  refine Int.emod_eq_of_lt (Int.natCast_nonneg _) ?_
  exact_mod_cast this
theorem one_mod {c : Prop} [Decidable c] {w : Nat} (h : 1 ≤ w) : (if c then (1 : Int) else 0) % 2 ^ w = if c then 1 else 0 := by
  have p : (2 : Int) ≤ 2 ^ w := by
    have := Nat.pow_le_pow_right (show 0 < 2 by decide) h
    exact_mod_cast this
  split
  · exact Int.emod_eq_of_lt (by decide) (by omega)
  · exact Int.zero_emod _
def spLStep : Sp := fun vs H Q _ => ∃ (p t : Addr) (k : Kd) (ws : List Int) (w : Nat), vs = [.ref p, .ref t, .int w] ∧ KdAt H p k ∧ H t = some (.lst (ws.map V.int)) ∧ ws.length = k.many ∧ (∀ x ∈ ws, 0 ≤ x ∧ x < 2 ^ w) ∧ 1 ≤ w ∧ w ≤ 12 ∧ Q (.int (k.word ws w)) H
theorem lx0 {K : PySem.W.Frag} {H : Hp} {p : Addr} {x : V} {r : List V} {Q : VK} (h : H p = some (.lst (x :: r))) (q : Q x H) : rIxL K (.ref p) (.int 0) H Q := ixl (SqL.of h) (atI_nat (j := 0) rfl) q
theorem lx1 {K : PySem.W.Frag} {H : Hp} {p : Addr} {x y : V} {r : List V} {Q : VK} (h : H p = some (.lst (x :: y :: r))) (q : Q y H) : rIxL K (.ref p) (.int 1) H Q := ixl (SqL.of h) (atI_nat (j := 1) rfl) q
theorem lx2 {K : PySem.W.Frag} {H : Hp} {p : Addr} {x y z : V} {r : List V} {Q : VK} (h : H p = some (.lst (x :: y :: z :: r))) (q : Q z H) : rIxL K (.ref p) (.int 2) H Q := ixl (SqL.of h) (atI_nat (j := 2) rfl) q
theorem ok_law_step_word (T : Txt K mg a) : FnOk P w K mg base CX0 2 a.f_law_step_word a.d_law_step_word ["_law_kind_here", "_law_words_here", "_law_width"] spLStep := by
  refine T.F_law_step_word.ok sc_law_step_word (fun vs H Q E h => ?_) (fun cdv A outer s H vs Q E hr h => ?_)
  · obtain ⟨_, _, _, _, _, rfl, _⟩ := h
    rfl
  · obtain ⟨p, t, kd, ws, wd, rfl, hk, ht, hl, hb, hw1, hw, k⟩ := h
    refine ⟨_, (pss_cons (ps_set (i := 3) sc_law_step_word.nd rfl (by first | exact Or.inl rfl | exact Or.inr rfl) (pe_call (ok_law_two T) (hr.mono (by decide)) rfl T.m_law_two T.F_law_two.kp T.b_law_two .nil pass0 (pa_cons (pv 2) pa_nil)))
  (pss_cons (ps_set (i := 4) sc_law_step_word.nd rfl (by first | exact Or.inl rfl | exact Or.inr rfl) (pe_ix ix_tup (pv 0) pe_int (fun _ _ => rfl)))
  (pss_cons (ps_if (pt_cmpR op_eq (pv 4) pe_str (nomark _)) (pss_one (ps_ret (pe_ix ix_list (pv 1) pe_int (fun _ _ => rfl))))
    pss_nil)
  (pss_cons (ps_if (pt_cmpR op_eq (pv 4) pe_str (nomark _)) (pss_one (ps_ret (pe_ifExp (pt_cmpR op_eq (pe_ix ix_list (pv 1) pe_int (fun _ _ => rfl)) pe_int (nomark _)) (pe_ix ix_list (pv 1) pe_int (fun _ _ => rfl)) (pe_ix ix_list (pv 1) pe_int (fun _ _ => rfl)))))
    pss_nil)
  (pss_cons (ps_if (pt_cmpR op_eq (pv 4) pe_str (nomark _)) (pss_one (ps_ret (pe_op op_mod (pe_callTy call_int1 (by rfl) T.z_int (by decide +kernel) (pa_cons (pe_ix ix_tup (pe_ix ix_tup (pv 0) pe_int (fun _ _ => rfl)) (pe_op op_mod (pe_callTy call_int1 (by rfl) T.z_int (by decide +kernel) (pa_cons (pe_ix ix_list (pv 1) pe_int (fun _ _ => rfl)) pa_nil)) (pe_callB call_len_seq (by rfl) T.z_len (by decide +kernel) (pa_cons (pe_ix ix_tup (pv 0) pe_int (fun _ _ => rfl)) pa_nil))) (fun _ _ => rfl)) pa_nil)) (pv 3))))
    pss_nil)
  (pss_cons (ps_if (pt_cmpR op_eq (pv 4) pe_str (nomark _)) (pss_one (ps_ret (pe_ifExp (pt_cmpR op_ge (pe_ix ix_tup (pv 0) pe_int (fun _ _ => rfl)) (pv 2) (nomark _)) pe_int (pe_op op_mod (pe_callTy call_int1 (by rfl) T.z_int (by decide +kernel) (pa_cons (pe_op op_mul (pe_ix ix_list (pv 1) pe_int (fun _ _ => rfl)) (pe_call (ok_law_two T) (hr.mono (by decide)) rfl T.m_law_two T.F_law_two.kp T.b_law_two .nil pass0 (pa_cons (pe_ix ix_tup (pv 0) pe_int (fun _ _ => rfl)) pa_nil))) pa_nil)) (pv 3)))))
    pss_nil)
  (pss_cons (ps_if (pt_cmpR op_eq (pv 4) pe_str (nomark _)) (pss_one (ps_ret (pe_ifExp (pt_cmpR op_ge (pe_ix ix_tup (pv 0) pe_int (fun _ _ => rfl)) (pv 2) (nomark _)) pe_int (pe_op op_fdiv (pe_callTy call_int1 (by rfl) T.z_int (by decide +kernel) (pa_cons (pe_ix ix_list (pv 1) pe_int (fun _ _ => rfl)) pa_nil)) (pe_call (ok_law_two T) (hr.mono (by decide)) rfl T.m_law_two T.F_law_two.kp T.b_law_two .nil pass0 (pa_cons (pe_ix ix_tup (pv 0) pe_int (fun _ _ => rfl)) pa_nil))))))
    pss_nil)
  (pss_cons (ps_if (pt_cmpR op_eq (pv 4) pe_str (nomark _)) (pss_one (ps_ret (pe_op op_mod (pe_callTy call_int1 (by rfl) T.z_int (by decide +kernel) (pa_cons (pe_op op_add (pe_ix ix_list (pv 1) pe_int (fun _ _ => rfl)) (pe_ix ix_list (pv 1) pe_int (fun _ _ => rfl))) pa_nil)) (pv 3))))
    pss_nil)
  (pss_cons (ps_if (pt_cmpR op_eq (pv 4) pe_str (nomark _)) (pss_one (ps_ret (pe_op op_mod (pe_callTy call_int1 (by rfl) T.z_int (by decide +kernel) (pa_cons (pe_op op_sub (pe_op op_add (pe_ix ix_list (pv 1) pe_int (fun _ _ => rfl)) (pv 3)) (pe_ix ix_list (pv 1) pe_int (fun _ _ => rfl))) pa_nil)) (pv 3))))
    pss_nil)
  (pss_cons (ps_if (pt_cmpR op_eq (pv 4) pe_str (nomark _)) (pss_one (ps_ret (pe_op op_mod (pe_callTy call_int1 (by rfl) T.z_int (by decide +kernel) (pa_cons (pe_op op_mul (pe_ix ix_list (pv 1) pe_int (fun _ _ => rfl)) (pe_ix ix_list (pv 1) pe_int (fun _ _ => rfl))) pa_nil)) (pv 3))))
    pss_nil)
  (pss_cons (ps_if (pt_cmpR op_eq (pv 4) pe_str (nomark _)) (pss_one (ps_ret (pe_ifExp (pt_cmpR op_eq (pe_ix ix_list (pv 1) pe_int (fun _ _ => rfl)) (pe_ix ix_list (pv 1) pe_int (fun _ _ => rfl)) (nomark _)) pe_int pe_int)))
    pss_nil)
  (pss_cons (ps_if (pt_cmpR op_eq (pv 4) pe_str (nomark _)) (pss_one (ps_ret (pe_ifExp (pt_cmpR op_lt (pe_ix ix_list (pv 1) pe_int (fun _ _ => rfl)) (pe_ix ix_list (pv 1) pe_int (fun _ _ => rfl)) (nomark _)) pe_int pe_int)))
    pss_nil)
  (pss_one (ps_ret (pe_call (ok_law_bits T) (hr.mono (by decide)) rfl T.m_law_bits T.F_law_bits.kp T.b_law_bits .nil pass0 (pa_cons (pe_ix ix_list (pv 1) pe_int (fun _ _ => rfl)) (pa_cons (pe_ix ix_list (pv 1) pe_int (fun _ _ => rfl)) (pa_cons (pv 4) pa_nil)))))))))))))))))), ?_⟩
    obtain ⟨r, hp⟩ := hk.head
    obtain ⟨t1, t2⟩ := two_le hw
    walk_at "sm"
    refine ⟨wd, rfl, by omega, ix0 hp ?_⟩
    walk_at "sm"
    cases kd with
    | same =>
      obtain ⟨x, rfl⟩ : ∃ x, ws = [x] := match ws, hl with
        | [_], _ => ⟨_, rfl⟩
      have hx := hb x List.mem_cons_self
      have e : Kd.word .same [x] wd = x := Int.emod_eq_of_lt hx.1 hx.2
      rw [e] at k
      exact iteP (by decide +kernel) (lx0 ht k)
    | pick =>
      obtain ⟨x, y, z, rfl⟩ : ∃ x y z, ws = [x, y, z] := match ws, hl with
        | [_, _, _], _ => ⟨_, _, _, rfl⟩
      have k2 : Q (.int (if x = 0 then z else y)) H := k
      refine iteN (by decide +kernel) (iteP (by decide +kernel) (lx0 ht ⟨rfl, ite2 (fun h => ?_) fun h => ?_⟩))
      · rw [if_pos (V.int.inj h)] at k2
        exact lx2 ht k2
      · rw [if_neg fun q => h (by rw [q])] at k2
        exact lx1 ht k2
    | tab ns =>
      obtain ⟨x, rfl⟩ : ∃ x, ws = [x] := match ws, hl with
        | [_], _ => ⟨_, rfl⟩
      obtain ⟨b, hp2, hbt, hg, hbb⟩ := hk
      have hl2 : 0 < ns.length := by omega
      have e0 := Int.emod_nonneg x (show (ns.length : Int) ≠ 0 by omega)
      have e1 := Int.emod_lt_of_pos x (show (0 : Int) < ns.length by omega)
      refine iteN (show ¬ (("table" : Str) = _) by decide +kernel) (iteN (show ¬ (("table" : Str) = _) by decide +kernel) (iteP rfl (ix1 hp2 (lx0 ht (.inl ⟨x, rfl, ix1 hp2 ⟨b, rfl, _, .inr (SqT.of hbt), by rw [List.length_map]; omega, ?_⟩⟩)))))
      rw [List.length_map]
      have k2 : Q (.int (((ns[(x % ns.length).toNat]?).getD 0) % 2 ^ wd)) H := k
      obtain ⟨j, hj⟩ : ∃ j : Nat, x % (ns.length : Int) = (j : Int) := ⟨(x % ns.length).toNat, by omega⟩
      rw [hj] at k2 e1 ⊢
      rw [Int.toNat_natCast] at k2
      have hj2 : j < ns.length := by omega
      rw [List.getElem?_eq_getElem hj2] at k2
      exact ixt hbt (atI_nat (by rw [List.getElem?_map, List.getElem?_eq_getElem hj2]; rfl)) (.inl ⟨_, rfl, t1, k2⟩)
    | sh l n =>
      obtain ⟨x, rfl⟩ : ∃ x, ws = [x] := match ws, hl with
        | [_], _ => ⟨_, rfl⟩
      have hx := hb x List.mem_cons_self
      obtain ⟨hp2, hn⟩ := hk
      cases l with
      | true =>
        have k2 : Q (.int (x * 2 ^ n % 2 ^ wd)) H := k
        refine iteN (show ¬ (shS true = _) by decide +kernel) (iteN (show ¬ (shS true = _) by decide +kernel) (iteN (show ¬ (shS true = _) by decide +kernel) (iteP rfl (ix1 hp2 ⟨_, rfl, ite2 (fun h => ?_) fun h => ?_⟩))))
        · rw [shl_zero (by omega)] at k2
          exact k2
        · exact lx0 ht (ix1 hp2 ⟨n, rfl, by omega, x, rfl, _, rfl, .inl ⟨by omega, by omega⟩, t1, k2⟩)
      | false =>
        have k2 : Q (.int (x / 2 ^ n % 2 ^ wd)) H := k
        refine iteN (show ¬ (shS false = _) by decide +kernel) (iteN (show ¬ (shS false = _) by decide +kernel) (iteN (show ¬ (shS false = _) by decide +kernel) (iteN (show ¬ (shS false = _) by decide +kernel) (iteP rfl (ix1 hp2 ⟨_, rfl, ite2 (fun h => ?_) fun h => ?_⟩)))))
        · rw [shr_zero (w := wd) (by omega) hx.1 hx.2, Int.zero_emod] at k2
          exact k2
        · have hs := shr_lt (n := n) hx.1 hx.2
          rw [Int.emod_eq_of_lt hs.1 hs.2] at k2
          obtain ⟨n1, n2⟩ := two_le (show n ≤ 12 by omega)
          exact lx0 ht (.inl ⟨x, rfl, ix1 hp2 ⟨n, rfl, by omega, _, rfl, ⟨n1, by omega⟩, k2⟩⟩)
    | pr kk =>
      obtain ⟨x, y, rfl⟩ : ∃ x y, ws = [x, y] := match ws, hl with
        | [_, _], _ => ⟨_, _, rfl⟩
      have hx := hb x List.mem_cons_self
      have hy := hb y (List.mem_cons_of_mem _ List.mem_cons_self)
      have bits : kk.isBit → spBits [V.int x, V.int y, V.str kk.sg] H Q E0 := fun hk2 => by
        have k2 : Q (.int (kk.val x y % 2 ^ wd)) H := k
        rw [bit_mod hk2 hx.1 hy.1 hx.2 hy.2] at k2
        exact ⟨kk, x.toNat, y.toNat, by rw [Int.toNat_of_nonneg hx.1, Int.toNat_of_nonneg hy.1], hk2, by omega, by omega, k2⟩
      cases kk with
      | add =>
        repeat (refine iteN (by decide +kernel) ?_)
        exact iteP (by decide +kernel) (lx0 ht (lx1 ht ⟨x, rfl, y, rfl, t1, k⟩))
      | sub =>
        repeat (refine iteN (by decide +kernel) ?_)
        have k2 : Q (.int ((x - y) % 2 ^ wd)) H := k
        have e : (x + 2 ^ wd - y) % 2 ^ wd = (x - y) % 2 ^ wd := by
          rw [show x + 2 ^ wd - y = (x - y) + 2 ^ wd by omega, Int.add_emod_right]
        exact iteP (by decide +kernel) (lx0 ht ⟨x, rfl, lx1 ht ⟨y, rfl, t1, by rw [e]; exact k2⟩⟩)
      | mul =>
        repeat (refine iteN (by decide +kernel) ?_)
        exact iteP (by decide +kernel) (lx0 ht (lx1 ht ⟨x, rfl, y, rfl, .inl ⟨by omega, by omega⟩, t1, k⟩))
      | eq =>
        repeat (refine iteN (by decide +kernel) ?_)
        have k2 : Q (.int ((if x = y then (1 : Int) else 0) % 2 ^ wd)) H := k
        rw [one_mod hw1] at k2
        refine iteP (by decide +kernel) (lx0 ht (lx1 ht ⟨rfl, ite2 (fun h => ?_) fun h => ?_⟩))
        · rw [if_pos (V.int.inj h)] at k2; exact k2
        · rw [if_neg fun q => h (by rw [q])] at k2; exact k2
      | lt =>
        repeat (refine iteN (by decide +kernel) ?_)
        have k2 : Q (.int ((if x < y then (1 : Int) else 0) % 2 ^ wd)) H := k
        rw [one_mod hw1] at k2
        refine iteP (by decide +kernel) (lx0 ht (lx1 ht ⟨x, rfl, y, rfl, ite2 (fun h => ?_) fun h => ?_⟩))
        · rw [if_pos h] at k2; exact k2
        · rw [if_neg h] at k2; exact k2
      | band =>
        repeat (refine iteN (by decide +kernel) ?_)
        exact lx0 ht (lx1 ht (bits (.inl rfl)))
      | bor =>
        repeat (refine iteN (by decide +kernel) ?_)
        exact lx0 ht (lx1 ht (bits (.inr (.inl rfl))))
      | bxor =>
        repeat (refine iteN (by decide +kernel) ?_)
        exact lx0 ht (lx1 ht (bits (.inr (.inr rfl))))
end


theorem lcg_tup {K : PySem.W.Frag} {a : Addr} {xs : List V} {g : TG} {tt : TT} {te : TE} {vs : List Nat} {σ : L2.St} {H1 : Hp} {Q : VK} (Pv : Addr → Nat → Hp → Prop) (h0 : ∀ D, H1 D = none → Pv D 0 (upd H1 D (.lst []))) (hl : ∀ D i H, H1 D = none → i ≤ xs.length → Pv D i H → SqT K H a xs)
    (hs : ∀ D i x H, H1 D = none → xs[i]? = some x → Pv D i H → g x (wipe σ vs) H fun σ2 H2 => wipe σ2 vs = wipe σ vs ∧ tt σ2 H2 fun b H3 =>
      if b = true then te σ2 H3 fun y H4 => ∃ acc, H4 D = some (.lst acc) ∧ acc.length < sizeLine ∧ Pv D (i + 1) (upd H4 D (.lst (acc ++ [y]))) else Pv D (i + 1) H3) (hd : ∀ D H, H1 D = none → Pv D xs.length H → Q (.ref D) H) : LcG (Itt K a) g tt te vs σ Q H1 :=
  fun D hD => lc_tup (Qd := fun H => Q (.ref D) H) (Pv D) (h0 D hD) (fun i H hi h => hl D i H hD hi h) (fun i x H hi h => hs D i x H hD hi h) fun H h => hd D H hD h
/-! ### tables and kinds that are checked -/
def SqAt (H : Hp) (p : Addr) (xs : List V) : Prop := H p = some (.tup xs) ∨ H p = some (.lst xs)
theorem SqAt.go {H H' : Hp} {p : Addr} {xs : List V} (e : Evl.Ex H H') (h : SqAt H p xs) : SqAt H' p xs := h.imp (e _ _) (e _ _)
theorem SqAt.plain {H : Hp} {p : Addr} {xs : List V} (h : SqAt H p xs) : PlainV H (.ref p) := h.elim (fun q => .inr (.inr (.inr (.inr (.inl ⟨p, xs, rfl, q⟩))))) fun q => .inr (.inr (.inr (.inr (.inr ⟨p, xs, rfl, q⟩))))
theorem SqAt.sq {K : PySem.W.Frag} {H : Hp} {p : Addr} {xs : List V} (h : SqAt H p xs) : SqL K H p xs ∨ SqT K H p xs := h.elim (fun q => .inr (SqT.of q)) fun q => .inl (SqL.of q)
def okN (y : V) : Bool := wiB y 0 4095
def tabB (xs : List V) : Bool := inV (.int xs.length) [.int 1, .int 2, .int 4, .int 8, .int 16] && xs.all okN
def ivTab (H : Hp) (xs : List V) (D : Addr) (i : Nat) (H' : Hp) : Prop := Evl.Ex H H' ∧ H' D = some (.lst ((xs.take i).map fun y => .bl (okN y)))
section
variable {P : Program} {w : World} {K : PySem.W.Frag} {mg : Str → Option Value} {base : Heap} {a : Ad}
def spTab : Sp := fun vs H Q _ => ∃ x, vs = [x] ∧ PlainV H x ∧ ((sqV x = false ∧ ∀ H', Evl.Ex H H' → Q (.bl false) H') ∨
  ∃ p xs, x = .ref p ∧ SqAt H p xs ∧ (∀ y ∈ xs, PlainV H y) ∧ xs.length ≤ 100 ∧ ∀ H', Evl.Ex H H' → Q (.bl (tabB xs)) H')
theorem ok_is_table (T : Txt K mg a) : FnOk P w K mg base CX0 4 a.f_is_table a.d_is_table ["numbers"] spTab := by
  refine T.F_is_table.ok sc_is_table (fun vs H Q E h => ?_) (fun cdv A outer s H vs Q E hr h => ?_)
  · obtain ⟨_, rfl, _⟩ := h
    rfl
  · obtain ⟨x, rfl, hx, k⟩ := h
    refine ⟨_, (pss_one (ps_ret (pe_and (pe_call (ok_is_sequence T) (hr.mono (by decide)) rfl T.m_is_sequence T.F_is_sequence.kp T.b_is_sequence .nil pass0 (pa_cons (pv 0) pa_nil)) (pe_and (pe_cmpR op_in_seq (pe_callB call_len_seq (by rfl) T.z_len (by decide +kernel) (pa_cons (pv 0) pa_nil)) (pe_glob rfl T.g_TABLE_SIZES.choose_spec.1 T.g_TABLE_SIZES.choose_spec.2) (by rfl)) (pe_one (pe_callB (cr_all rfl) (by rfl) T.z_all (by decide +kernel) (pa_cons (pe_lc (own := [("n", 1)]) (g := gName 1) (tt := tYes) rfl sc_is_table.nd (pi_or (pi_list (pv 0)) (pi_tup (pv 0))) (blkOk_by (own := [("n", 1)]) (N := ["numbers", "n"]) (sc := defScope s_is_table) (by decide +kernel)) (fun _ _ _ _ _ => pg_name (i := 1) sc_is_table.nd rfl (Or.inl rfl)) (fun _ _ _ _ _ => pts_nil) (fun _ _ _ _ _ => (pe_call (ok_is_number T) (hr.mono (by decide)) rfl T.m_is_number T.F_is_number.kp T.b_is_number .nil pass0 (pa_cons (pv 1) pa_nil)))) pa_nil))))))), ?_⟩
    walk_at "sm"
    refine ⟨x, rfl, hx, fun H1 e1 => ⟨_, rfl, ?_⟩⟩
    rcases k with ⟨hs, k⟩ | ⟨p, xs, rfl, hp, hpl, hl, k⟩
    · rw [hs]
      exact iteF (k _ e1)
    · refine iteT ⟨p, rfl, xs, (hp.go e1).sq, in_tup (T.t_TABLE_SIZES H1) rfl (by decide +kernel) ⟨_, rfl, ?_⟩⟩
      cases hb : inV (.int (xs.length : Nat)) [.int 1, .int 2, .int 4, .int 8, .int 16] with
      | false =>
        have e : tabB xs = false := by unfold tabB; rw [hb]; rfl
        rw [e] at k
        exact iteF (k _ e1)
      | true =>
        have e : tabB xs = xs.all okN := by unfold tabB; rw [hb]; rfl
        rw [e] at k
        refine iteT ?_
        have go : ∀ D i y HX, H1 D = none → xs[i]? = some y → ivTab H1 xs D i HX → gName 1 y (wipe [some (V.ref p), none] [1]) HX fun σ2 H2 => wipe σ2 [1] = wipe [some (V.ref p), none] [1] ∧ tYes σ2 H2 fun b H3 =>
            if b = true then tCall spNum [] E0 (tCons (tVar 1) tNil) σ2 H3 fun y H4 => ∃ acc, H4 D = some (.lst acc) ∧ acc.length < sizeLine ∧ ivTab H1 xs D (i + 1) (upd H4 D (.lst (acc ++ [y]))) else ivTab H1 xs D (i + 1) H3 := by
          rintro D i y HX hD hi ⟨f1, f2⟩
          walk_at "sm"
          have hm := List.mem_of_getElem? hi
          refine ⟨y, rfl, ((hpl y hm).go e1).go f1, _, f2, Nat.lt_of_le_of_lt (show _ ≤ 100 by rw [List.length_map, List.length_take]; omega) (by decide), f1.mut hD, ?_⟩
          rw [upd_same, List.take_add_one, hi, List.map_append]
          rfl
        have fin : ∀ D HX, H1 D = none → ivTab H1 xs D xs.length HX → rAll K [.ref D] HX Q := by
          rintro D HX hD ⟨f1, f2⟩
          rw [List.take_length] at f2
          refine ⟨D, xs.map okN, rfl, SqL.of (by rw [f2, List.map_map]; rfl), ?_⟩
          rw [List.all_map]
          exact k _ (e1.trans f1)
        rcases hp.go e1 with q | q
        · exact .inr ⟨p, rfl, ⟨_, SqT.of q⟩, lcg_tup (K := K) (a := p) (xs := xs) (ivTab H1 xs) (fun D hD => ⟨Evl.Ex.new hD, upd_same⟩) (fun D i HX hD hi ⟨f1, _⟩ => SqT.of (f1 _ _ q)) (fun D i y HX hD hi h => go D i y HX hD hi h) fin⟩
        · exact .inl ⟨p, rfl, ⟨_, SqL.of q⟩, lcg_list (K := K) (a := p) (xs := xs) (ivTab H1 xs) (fun D hD => ⟨Evl.Ex.new hD, upd_same⟩) (fun D i HX hD hi ⟨f1, _⟩ => SqL.of (f1 _ _ q)) (fun D i y HX hD hi h => go D i y HX hD hi h) fin⟩
end


/-! ### errors with nothing in their context; an error out of an except suite; an object made in a try -/
section
variable {P : Program} {w : World} {K : PySem.W.Frag} {mg : Str → Option Value} {base : Heap}
theorem fn_okN {x qual : Str} {st : Stmt} {f : Addr} {fd : FuncData} {N ps : List Str} {k : Nat} {sp : Sp} (F : Fun K x qual st f fd) (S : FnScope N ps (defScope st)) (len : ∀ vs H Q E, sp vs H Q E → vs.length = ps.length)
    (hb : ∀ (cdv : Value) (A : Around) (outer : List Env) (s : Shared) (H : Hp) (vs : List V) (Q : VK) (E : XK), Room k (A.deeper (envOfC qual (defScope st) s.heap.objs.size f cdv)) → sp vs H Q E →
      ∃ t, PSs (cxOf (L2N.CX P w) P w K mg base N qual (defScope st) f cdv A outer s H E) (defBody st) t ∧ t { nx := fun _ H' => Q .non H', rt := Q } (start N vs) H) : FnOk P w K mg base (L2N.CX P w) (k + 1) f fd ps sp := by
  obtain ⟨_, _, _, _, _, _, cdv, _, _, rfl, look, cd⟩ := F.ex
  exact fn_of look cd S len fun A outer s H vs Q E room asks => hb cdv A outer s H vs Q E room asks
end
section
variable {X : Cx} {C : Addr} {bmB : List Value} {B newId initId : String} {x : Str} {p pos : Pos}
theorem pmkN_own0 (F : ExcBaseFacts B newId initId bmB) (q : PySem.W.excIn X.K C bmB newId = true) (gC : X.mg x = some (.ref C)) (kC : PySem.W.keepIn X.K (.ref C) = true) (r : Raises X (.ref C)) (hg : Gl X x)
    (hdb : (x == ("__debug__" : Str)) = false := by decide) : L2N.PMk X (.Call (.Name x p) [] [] pos) (fun _ H Q => Q (.ref C) none H) := by
  intro pins s σ H Q I h
  refine wpAny_Call_Name_kw (ld_glob I hg gC ?_ hdb)
  refine PySem.W.callWith_K0 I.kIn kC ?_
  show wpAny _ _ (call (.ref C) []) _ _ _
  obtain ⟨_, _, _, _, _, _, _, _, _, _, _, _, _, _, _, _, _, hC, hN, hni, T⟩ := exc_obj I.kIn q
  refine wpAny_call_exc_subT F T hC hN hni (fun h' e hm => ?_) (Nat.zero_le _)
  exact L2N.mk_of I hm r h (I.hok.gone hm.new)
theorem pmk5_own0 (F : ExcBaseFacts B newId initId bmB) (q : PySem.W.excIn X.K C bmB newId = true) (gC : X.mg x = some (.ref C)) (kC : PySem.W.keepIn X.K (.ref C) = true) (r : Raises X (.ref C)) (hg : Gl X x)
    (hdb : (x == ("__debug__" : Str)) = false := by decide) : L2H.PMk5 X (.Call (.Name x p) [] [] pos) (fun _ H Q => Q (.ref C) none H) := by
  intro pins s σ H Q I h
  refine wpAny_Call_Name_kw (ld_glob I hg gC ?_ hdb)
  refine PySem.W.callWith_K0 I.kIn kC ?_
  show wpAny _ _ (call (.ref C) []) _ _ _
  obtain ⟨_, _, _, _, _, _, _, _, _, _, _, _, _, _, _, _, _, hC, hN, hni, T⟩ := exc_obj I.kIn q
  refine wpAny_call_exc_subT F T hC hN hni (fun h' e hm => ?_) (Nat.zero_le _)
  exact L2H.mk_of5 I hm r h (I.hok.gone hm.new)
end
/-- an object made where what is let out may tell of the names -/
def tMakeS (C : Addr) (sp : Sp) (E : L2.St → XK) (t : TA) : TE := fun σ H Q => t σ H fun vs H1 => ∀ x dx, H1 x = none → H1 dx = none → dx ≠ x → sp (.ref x :: vs) (upd (upd H1 dx (.own x)) x (.ins C dx [])) (fun v H2 => v = .non ∧ Q (.ref x) H2) (E σ)
theorem pe_makeS {X : Cx} {CX : CXT} {k : Nat} {f C : Addr} {fd : FuncData} {ps : List Str} {sp : Sp} {E : L2.St → XK} {x : Str} {e : Expr} {es : List Expr} {t : TA} {p pos : Pos} (M : Mk X.K C f) (F : FnOk X.prog X.w X.K X.mg X.base CX k f fd ps sp)
    (hr : Room (k + 1) X.A) (hg : Gl X x) (hm : X.mg x = some (.ref C)) (hb : Binds X.K fd ps []) (hx : ∀ σ, PassesAt CX X σ (E σ)) (ha : PA X (e :: es) t) (hdb : (x == ("__debug__" : Str)) = false := by decide)
    (he : starEach (e :: es) X.env = (false, eval e X.env) :: starEach es X.env := by rfl) (hpl : (backTo pos (starEach es X.env)).any (·.1) = false := by rfl) : PE X (.Call (.Name x p) (e :: es) [] pos) (tMakeS C sp E t) := by
  refine ⟨fun pins s σ H Q I h => wpAny_Call_Name_kw (ld_glob I hg hm ?_ hdb)⟩
  refine PySem.W.callWith_K (h₀ := X.base) I.ok.mod.kin M.kp (thn (ha.run pos pins s σ H _ I h) fun us s1 ⟨vs, H1, I1, rv, q⟩ => ⟨I1.kIn, ?_⟩) he hpl
  have asks := q (s1.heap.objs.size + 1) s1.heap.objs.size (I1.hok.fresh (Nat.le_succ _)) (I1.hok.fresh (Nat.le_refl _)) (Nat.ne_of_lt (Nat.lt_succ_self _))
  have I2 := Inv.made (C := C) I1
  have rs : Vals (V.ref (s1.heap.objs.size + 1) :: vs) (Value.ref (s1.heap.objs.size + 1) :: us) := .cons rfl rv
  have hl : (Value.ref (s1.heap.objs.size + 1) :: us ++ []).length = ps.length := by
    rw [List.append_nil, ← rs.length]
    exact F.len _ _ _ _ asks
  have bd := hb _ (Value.ref (s1.heap.objs.size + 1) :: us) I2.kIn hl
  rw [List.append_nil] at bd
  refine wpAny_call (make_map (f := f) I1.kIn M.makes M.init (beq_iff_eq.mp M.fn) (codeAny_mono (F.run _ X.stack _ _ ⟨Value.ref (s1.heap.objs.size + 1) :: us, []⟩ (Value.ref (s1.heap.objs.size + 1) :: us) _ _ (E σ) (hr.make C us [])
    (I2.env0.make C us []) bd rs asks) fun r s' out => ?_))
  cases r with
  | error ex => exact hx σ pins _ _ ex s' I2 out
  | ok fl =>
    cases fl with
    | ret u =>
      obtain ⟨v, H', I3, rv2, ev, q3⟩ := I2.after out
      subst ev
      exact ⟨rv2, ⟨V.ref (s1.heap.objs.size + 1), H', I3, rfl, q3⟩⟩
    | next => exact False.elim out
    | brk => exact False.elim out
    | cont => exact False.elim out
theorem only_true {K : PySem.W.Frag} {C : Addr} {ts : Addr → Value → Option Addr → TS} {Wout : WX} {D : Ends} {d : Option Addr} {σ : L2.St} {H : Hp} (he : PySem.W.exmOne K (.ref C) (.ref C) = some true)
    (h : ∀ a, H a = none → ts a (.ref C) d D σ H) : L2.wOnly K (.ref C) ts Wout D (.ref C) d σ H := ⟨true, he, fun _ => h, fun q => nomatch q⟩


/-! ### what stands in a kind, as data -/
def itD (H : Hp) (y : V) (d : PyData) : Prop := (okF y = true ∧ d = dV y) ∨ ∃ q zs, y = .ref q ∧ zs.all okF = true ∧ ((H q = some (.tup zs) ∧ d = .tuple (zs.map dV)) ∨ (H q = some (.lst zs) ∧ d = .list (zs.map dV)))
theorem itD.go {H H' : Hp} {y : V} {d : PyData} (e : Evl.Ex H H') (h : itD H y d) : itD H' y d := by
  rcases h with h | ⟨q, zs, h1, h2, ⟨h3, h4⟩ | ⟨h3, h4⟩⟩
  · exact .inl h
  · exact .inr ⟨q, zs, h1, h2, .inl ⟨e _ _ h3, h4⟩⟩
  · exact .inr ⟨q, zs, h1, h2, .inr ⟨e _ _ h3, h4⟩⟩
theorem itD.dp {K : PySem.W.Frag} {H : Hp} {y : V} {d : PyData} (h : itD H y d) : Dp K H y d := by
  rcases h with ⟨h, rfl⟩ | ⟨q, zs, rfl, h2, ⟨h3, rfl⟩ | ⟨h3, rfl⟩⟩
  · exact dp_flat h
  · exact .tup (SqT.of h3) (dp_flats h2)
  · exact .lst (SqL.of h3) (dp_flats h2)
theorem lay_flats {zs : List V} (h : zs.all okF = true) : ∀ d ∈ zs.map dV, d.canLay0 = true ∧ d.depth ≤ 1 := fun d hd => by
  obtain ⟨x, hx, rfl⟩ := List.mem_map.mp hd
  exact lay_flat (List.all_eq_true.mp h x hx)
theorem itD.lay {H : Hp} {y : V} {d : PyData} (h : itD H y d) : d.canLay0 = true ∧ d.depth ≤ 2 := by
  rcases h with ⟨h, rfl⟩ | ⟨q, zs, rfl, h2, ⟨h3, rfl⟩ | ⟨h3, rfl⟩⟩
  · exact ⟨(lay_flat h).1, Nat.le_trans (lay_flat h).2 (by decide)⟩
  · exact lay_tup (lay_flats h2)
  · exact lay_lst (lay_flats h2)
def itsD (H : Hp) : List V → List PyData → Prop := Paired (itD H)
theorem itsD.dp {K : PySem.W.Frag} {H : Hp} : ∀ {xs : List V} {ds : List PyData}, itsD H xs ds → DpAll K H xs ds
  | _, _, .nil => .nil
  | _, _, .cons h t => .cons h.dp (itsD.dp t)
theorem itsD.lay {H : Hp} : ∀ {xs : List V} {ds : List PyData}, itsD H xs ds → ∀ d ∈ ds, d.canLay0 = true ∧ d.depth ≤ 2
  | _, _, .nil, d, hd => by cases hd
  | _, _, .cons h t, d, hd => by
    rcases List.mem_cons.mp hd with rfl | q
    · exact h.lay
    · exact itsD.lay t d q
theorem itsD.go {H H' : Hp} {xs : List V} {ds : List PyData} (e : Evl.Ex H H') (h : itsD H xs ds) : itsD H' xs ds := Paired.mapP h fun _ _ q => q.go e
theorem eq_empty {K : PySem.W.Frag} {H : Hp} {p e : Addr} {xs : List V} {ds : List PyData} {Q : VK} (hp : H p = some (.tup xs)) (hd : itsD H xs ds) (he : H e = some (.tup [])) (q : Q (.bl xs.isEmpty) H) : rEqD K (.ref p) (.ref e) H Q := by
  refine ⟨.tuple ds, .tuple [], .tup (SqT.of hp) hd.dp, .tup (SqT.of he) .nil, shaped_of (lay_tup hd.lay) (by decide), by decide, ?_⟩
  have e2 : PyData.eqv (.tuple ds) (.tuple []) = xs.isEmpty := by
    cases hd with
    | nil => decide
    | cons h t => rfl
  rw [e2]
  exact q
/-- a kind as it is handed in: a tuple's numbers may stand in a list -/
def GdAt (H : Hp) (p : Addr) (k : Kd) : Prop := KdAt H p k ∨ ∃ ns l, k = .tab ns ∧ H p = some (.tup [.str "table", .ref l]) ∧ H l = some (.lst (ns.map V.int)) ∧ goodTab ns
theorem ints_flat (ns : List Int) : (ns.map V.int).all okF = true := by
  rw [List.all_map]
  exact List.all_eq_true.mpr fun _ _ => rfl
theorem sg_ok (k : Kd) : PyData.strOk k.sg = true := by
  cases k with
  | pr k => cases k <;> decide +kernel
  | pick => decide +kernel
  | same => decide +kernel
  | sh l n => cases l <;> (show PyData.strOk (shS _) = true) <;> decide +kernel
  | tab ns => show PyData.strOk ("table" : Str) = true; decide +kernel
theorem GdAt.its {H : Hp} {p : Addr} {k : Kd} (h : GdAt H p k) : ∃ x r ds, H p = some (.tup (x :: r)) ∧ itsD H (x :: r) ds := by
  rcases h with h | ⟨ns, l, rfl, h1, h2, h3⟩
  · cases k with
    | pr kk => exact ⟨_, _, _, h, .cons (.inl ⟨sg_ok (.pr kk), rfl⟩) .nil⟩
    | pick => exact ⟨_, _, _, h, .cons (.inl ⟨sg_ok .pick, rfl⟩) .nil⟩
    | same => exact ⟨_, _, _, h, .cons (.inl ⟨sg_ok .same, rfl⟩) .nil⟩
    | sh l n => exact ⟨_, _, _, h.1, .cons (.inl ⟨sg_ok (.sh l n), rfl⟩) (.cons (.inl ⟨rfl, rfl⟩) .nil)⟩
    | tab ns => obtain ⟨t, h1, h2, h3⟩ := h; exact ⟨_, _, _, h1, .cons (.inl ⟨sg_ok (.tab []), rfl⟩) (.cons (.inr ⟨t, _, rfl, ints_flat ns, .inl ⟨h2, rfl⟩⟩) .nil)⟩
  · exact ⟨_, _, _, h1, .cons (.inl ⟨sg_ok (.tab []), rfl⟩) (.cons (.inr ⟨l, _, rfl, ints_flat ns, .inr ⟨h2, rfl⟩⟩) .nil)⟩
def onL : List V := [.str "pick", .str "same"]
def shL : List V := [.str "<<", .str ">>"]
/-- two things that are no kind -/
def bad2 (H : Hp) (s : Str) (y : V) : Prop := (inV (.str s) shL = true → okN y = false) ∧ PlainV H y ∧
  (s = ("table" : Str) → sqV y = false ∨ ∃ p zs, y = .ref p ∧ SqAt H p zs ∧ (∀ z ∈ zs, PlainV H z) ∧ zs.length ≤ 100 ∧ tabB zs = false)
/-- what check_kind refuses -/
def BadKd (H : Hp) (x : V) : Prop := (x = .non ∨ (∃ s, x = .str s) ∨ (∃ i, x = .int i) ∨ ∃ p xs, x = .ref p ∧ H p = some (.lst xs)) ∨ ∃ p xs ds, x = .ref p ∧ H p = some (.tup xs) ∧ itsD H xs ds ∧
  (xs = [] ∨ (∃ s, xs = [.str s] ∧ inV (.str s) prL = false ∧ inV (.str s) onL = false) ∨ (∃ n, xs = [.int n]) ∨ (∃ s y, xs = [.str s, y] ∧ bad2 H s y) ∨ ∃ x y z, xs = [x, y, z])
theorem ints_plain {H : Hp} (ns : List Int) : ∀ z ∈ ns.map V.int, PlainV H z := fun z hz => by
  obtain ⟨n, _, rfl⟩ := List.mem_map.mp hz
  exact plain_int
theorem tab_len {ns : List Int} (h : goodTab ns) : (ns.map V.int).length ≤ 100 := by
  rw [List.length_map]
  have := h.1
  omega
theorem tab_good {ns : List Int} (h : goodTab ns) : tabB (ns.map V.int) = true := by
  unfold tabB
  rw [List.length_map, Bool.and_eq_true]
  constructor
  · rcases h.1 with e | e | e | e | e <;> rw [e] <;> decide +kernel
  · rw [List.all_map]
    refine List.all_eq_true.mpr fun n hn => ?_
    have hb := h.2 n hn
    show (decide _ && decide _) = true
    rw [decide_eq_true hb.1, decide_eq_true hb.2]
    rfl
section
variable {P : Program} {w : World} {K : PySem.W.Frag} {mg : Str → Option Value} {base : Heap} {a : Ad}
def spCK (C : Addr) : Sp := fun vs H Q E => (∃ x, vs = [x] ∧ BadKd H x ∧ ∀ H', Evl.Ex H H' → E (.ref C) none H') ∨ ∃ p k, vs = [.ref p] ∧ GdAt H p k ∧ ∀ r H', Evl.Ex H H' → KdAt H' r k → Q (.ref r) H'
theorem ok_check_kind (T : Txt K mg a) : FnOk P w K mg base (L2N.CX P w) 5 a.f_check_kind a.d_check_kind ["kind"] (spCK a.c_BadKind) := by
  refine fn_okN T.F_check_kind sc_check_kind (fun vs H Q E h => ?_) (fun cdv A outer s H vs Q E hr h => ?_)
  · obtain ⟨_, rfl, _⟩ | ⟨_, _, rfl, _⟩ := h <;> rfl
  · refine ⟨_, (pss_cons (ps_if (PW.pt (pw_or (pt_not (pt_val (pe_callB call_isi (by rfl) T.z_isinstance (by decide +kernel) (pa_cons (pv 0) (pa_cons (pe_bltn (v := .ty "tuple") (by rfl) T.z_tuple (by decide +kernel) rfl) pa_nil))))) (pw_or1 (pt_cmpR (op_eqD hr.units) (pv 0) (pe_tup pa_nil) (nomark _))))) (pss_one (L2N.ps_raise rfl (L2N.takes_of rfl rfl rfl rfl) (pmkN_own0 PySem.F.excBase_ValueError T.q_BadKind T.m_BadKind T.k_BadKind (raises_own T.sb_BadKind T.ty_BadKind) rfl)))
    pss_nil)
  (pss_cons (ps_if (PW.pt (pw_and (pt_cmpR op_eq (pe_callB call_len_seq (by rfl) T.z_len (by decide +kernel) (pa_cons (pv 0) pa_nil)) pe_int (nomark _)) (pw_and1 (PW.pt (pw_or (pt_cmpR op_in_seq (pe_ix ix_tup (pv 0) pe_int (fun _ _ => rfl)) (pe_glob rfl T.g_PAIR_SIGNS.choose_spec.1 T.g_PAIR_SIGNS.choose_spec.2) (by rfl)) (pw_or1 (pt_cmpR op_in_seq (pe_ix ix_tup (pv 0) pe_int (fun _ _ => rfl)) (pe_tup (pa_cons pe_str (pa_cons pe_str pa_nil))) (by rfl)))))))) (pss_one (ps_ret (pv 0)))
    pss_nil)
  (pss_cons (ps_if (PW.pt (pw_and (pt_cmpR op_eq (pe_callB call_len_seq (by rfl) T.z_len (by decide +kernel) (pa_cons (pv 0) pa_nil)) pe_int (nomark _)) (pw_and (pt_cmpR op_in_seq (pe_ix ix_tup (pv 0) pe_int (fun _ _ => rfl)) (pe_glob rfl T.g_SHIFT_SIGNS.choose_spec.1 T.g_SHIFT_SIGNS.choose_spec.2) (by rfl)) (pw_and1 (pt_val (pe_call (ok_is_number T) (hr.mono (by decide)) rfl T.m_is_number T.F_is_number.kp T.b_is_number .nil pass0 (pa_cons (pe_ix ix_tup (pv 0) pe_int (fun _ _ => rfl)) pa_nil))))))) (pss_one (ps_ret (pv 0)))
    pss_nil)
  (pss_cons (ps_if (PW.pt (pw_and (pt_cmpR op_eq (pe_callB call_len_seq (by rfl) T.z_len (by decide +kernel) (pa_cons (pv 0) pa_nil)) pe_int (nomark _)) (pw_and (pt_cmpR op_eq (pe_ix ix_tup (pv 0) pe_int (fun _ _ => rfl)) pe_str (nomark _)) (pw_and1 (pt_val (pe_call (ok_is_table T) (hr.mono (by decide)) rfl T.m_is_table T.F_is_table.kp T.b_is_table .nil pass0 (pa_cons (pe_ix ix_tup (pv 0) pe_int (fun _ _ => rfl)) pa_nil))))))) (pss_one (ps_ret (pe_tup (pa_cons pe_str (pa_cons (pe_callTy call_tuple_of (by rfl) T.z_tuple (by decide +kernel) (pa_cons (pe_ix ix_tup (pv 0) pe_int (fun _ _ => rfl)) pa_nil)) pa_nil)))))
    pss_nil)
  (pss_one (L2N.ps_raise rfl (L2N.takes_of rfl rfl rfl rfl) (pmkN_own0 PySem.F.excBase_ValueError T.q_BadKind T.m_BadKind T.k_BadKind (raises_own T.sb_BadKind T.ty_BadKind) rfl))))))), ?_⟩
    rcases h with ⟨x, rfl, (hx | ⟨p, xs, ds, rfl, hp, hd, hx⟩), k⟩ | ⟨p, kd, rfl, hg, k⟩
    · walk_at "sm"
      rcases hx with rfl | ⟨s, rfl⟩ | ⟨i, rfl⟩ | ⟨p, xs, rfl, hp⟩
      · exact isi_ty (t := "NoneType") (b := false) (.base .non) (by decide +kernel) ⟨_, rfl, iteT (k _ (Evl.Ex.refl _))⟩
      · exact isi_ty (t := "str") (b := false) (.base (.str _)) (by decide +kernel) ⟨_, rfl, iteT (k _ (Evl.Ex.refl _))⟩
      · exact isi_ty (t := "int") (b := false) (.base (.int _)) (by decide +kernel) ⟨_, rfl, iteT (k _ (Evl.Ex.refl _))⟩
      · exact isi_ty (t := "list") (b := false) (.base (.lst hp)) (by decide +kernel) ⟨_, rfl, iteT (k _ (Evl.Ex.refl _))⟩
    · walk_at "sm"
      refine isi_ty (t := "tuple") (b := true) (.base (.tup hp)) (by decide +kernel) ⟨_, rfl, iteF ⟨sz (by decide), fun e he => ?_⟩⟩
      have eE := Evl.Ex.new (o := .tup []) he
      refine eq_empty (eE _ _ hp) (hd.go eE) upd_same ⟨_, rfl, ?_⟩
      rcases hx with rfl | ⟨s, rfl, h1, h2⟩ | ⟨n, rfl⟩ | ⟨s, y, rfl, hb⟩ | ⟨x, y, z, rfl⟩
      · exact iteT (k _ eE)
      · have hp1 := eE _ _ hp
        refine iteF ⟨_, .inr (SqT.of hp1), iteP rfl (ix0 hp1 (in_tup (T.t_PAIR_SIGNS _) rfl (by decide +kernel) ⟨_, rfl, ?_⟩))⟩
        show if inV (V.str s) prL = true then _ else _
        rw [h1]
        refine iteF (ix0 hp1 ⟨sz (by decide), fun l hl => in_tup (SqT.of upd_same) rfl (by decide +kernel) ⟨_, rfl, ?_⟩⟩)
        show if inV (V.str s) onL = true then _ else _
        rw [h2]
        have eL := Evl.Ex.new (o := .tup [V.str "pick", V.str "same"]) hl
        exact iteF ⟨_, .inr (SqT.of (eL _ _ hp1)), iteN (by simp) ⟨_, .inr (SqT.of (eL _ _ hp1)), iteN (by simp) (k _ (eE.trans eL))⟩⟩
      · have hp1 := eE _ _ hp
        refine iteF ⟨_, .inr (SqT.of hp1), iteP rfl (ix0 hp1 (in_tup (T.t_PAIR_SIGNS _) rfl (by decide +kernel) ⟨_, rfl, ?_⟩))⟩
        rw [show inV (V.int n) [V.str "+", V.str "-", V.str "*", V.str "&", V.str "|", V.str "^", V.str "==", V.str "<"] = false from rfl]
        refine iteF (ix0 hp1 ⟨sz (by decide), fun l hl => in_tup (SqT.of upd_same) rfl (by decide +kernel) ⟨_, rfl, ?_⟩⟩)
        rw [show inV (V.int n) [V.str "pick", V.str "same"] = false from rfl]
        have eL := Evl.Ex.new (o := .tup [V.str "pick", V.str "same"]) hl
        exact iteF ⟨_, .inr (SqT.of (eL _ _ hp1)), iteN (by simp) ⟨_, .inr (SqT.of (eL _ _ hp1)), iteN (by simp) (k _ (eE.trans eL))⟩⟩
      · have hp1 := eE _ _ hp
        obtain ⟨b1, b2, b3⟩ := hb
        refine iteF ⟨_, .inr (SqT.of hp1), iteN (by simp) ⟨_, .inr (SqT.of hp1), iteP rfl (ix0 hp1 (in_tup (T.t_SHIFT_SIGNS _) rfl (by decide +kernel) ⟨_, rfl, ?_⟩))⟩⟩
        show if inV (V.str s) shL = true then _ else _
        cases hS : inV (V.str s) shL with
        | true =>
          refine iteT (ix1 hp1 ⟨y, rfl, b2.go eE, _, rfl, ?_⟩)
          have b4 := b1 hS
          unfold okN at b4
          rw [b4]
          refine iteF ⟨_, .inr (SqT.of hp1), iteP rfl (ix0 hp1 ⟨rfl, ite2 (fun hs => ix1 hp1 ⟨y, rfl, b2.go eE, ?_⟩) fun _ => k _ eE⟩)⟩
          rcases b3 (V.str.inj hs) with hq | ⟨q, zs, rfl, h1, h2, h3, h4⟩
          · exact .inl ⟨hq, fun H' e' => ⟨_, rfl, iteF (k _ (eE.trans e'))⟩⟩
          · exact .inr ⟨q, zs, rfl, h1.go eE, fun z hz => (h2 z hz).go eE, h3, fun H' e' => ⟨_, rfl, by rw [h4]; exact iteF (k _ (eE.trans e'))⟩⟩
        | false =>
          refine iteF ⟨_, .inr (SqT.of hp1), iteP rfl (ix0 hp1 ⟨rfl, ite2 (fun hs => ix1 hp1 ⟨y, rfl, b2.go eE, ?_⟩) fun _ => k _ eE⟩)⟩
          rcases b3 (V.str.inj hs) with hq | ⟨q, zs, rfl, h1, h2, h3, h4⟩
          · exact .inl ⟨hq, fun H' e' => ⟨_, rfl, iteF (k _ (eE.trans e'))⟩⟩
          · exact .inr ⟨q, zs, rfl, h1.go eE, fun z hz => (h2 z hz).go eE, h3, fun H' e' => ⟨_, rfl, by rw [h4]; exact iteF (k _ (eE.trans e'))⟩⟩
      · have hp1 := eE _ _ hp
        exact iteF ⟨_, .inr (SqT.of hp1), iteN (by simp) ⟨_, .inr (SqT.of hp1), iteN (by simp) ⟨_, .inr (SqT.of hp1), iteN (by simp) (k _ eE)⟩⟩⟩
    · obtain ⟨x, r, ds, hp, hd⟩ := hg.its
      walk_at "sm"
      refine isi_ty (t := "tuple") (b := true) (.base (.tup hp)) (by decide +kernel) ⟨_, rfl, iteF ⟨sz (by decide), fun e he => ?_⟩⟩
      have eE := Evl.Ex.new (o := .tup []) he
      refine eq_empty (eE _ _ hp) (hd.go eE) upd_same ⟨_, rfl, iteF ?_⟩
      rcases hg with hg | ⟨ns, l, rfl, h1, h2, h3⟩
      · cases kd with
        | pr kk =>
          have hp1 := eE _ _ hg
          refine ⟨_, .inr (SqT.of hp1), iteP rfl (ix0 hp1 (in_tup (T.t_PAIR_SIGNS _) rfl (by decide +kernel) ⟨_, rfl, ?_⟩))⟩
          show if inV (V.str (Kd.pr kk).sg) prL = true then _ else _
          rw [sg_pr]
          exact iteT (k _ _ eE hp1)
        | pick =>
          have hp1 := eE _ _ hg
          refine ⟨_, .inr (SqT.of hp1), iteP rfl (ix0 hp1 (in_tup (T.t_PAIR_SIGNS _) rfl (by decide +kernel) ⟨_, rfl, iteN (by decide +kernel) (ix0 hp1 ⟨sz (by decide), fun l hl => in_tup (SqT.of upd_same) rfl (by decide +kernel) ⟨_, rfl, iteP (by decide +kernel) ?_⟩⟩)⟩))⟩
          have eL := Evl.Ex.new (o := .tup [V.str "pick", V.str "same"]) hl
          exact k _ _ (eE.trans eL) (eL _ _ hp1)
        | same =>
          have hp1 := eE _ _ hg
          refine ⟨_, .inr (SqT.of hp1), iteP rfl (ix0 hp1 (in_tup (T.t_PAIR_SIGNS _) rfl (by decide +kernel) ⟨_, rfl, iteN (by decide +kernel) (ix0 hp1 ⟨sz (by decide), fun l hl => in_tup (SqT.of upd_same) rfl (by decide +kernel) ⟨_, rfl, iteP (by decide +kernel) ?_⟩⟩)⟩))⟩
          have eL := Evl.Ex.new (o := .tup [V.str "pick", V.str "same"]) hl
          exact k _ _ (eE.trans eL) (eL _ _ hp1)
        | sh l n =>
          have hp1 := eE _ _ hg.1
          refine ⟨_, .inr (SqT.of hp1), iteN (by simp) ⟨_, .inr (SqT.of hp1), iteP rfl (ix0 hp1 (in_tup (T.t_SHIFT_SIGNS _) rfl (by decide +kernel) ⟨_, rfl, iteP (by cases l <;> decide +kernel) (ix1 hp1 ⟨_, rfl, plain_int, _, rfl, iteP ?_ (k _ _ eE ⟨hp1, hg.2⟩)⟩)⟩))⟩⟩
          have := hg.2
          show (decide ((0 : Int) ≤ (n : Int)) && decide ((n : Int) ≤ 4095)) = true
          rw [decide_eq_true (show (0 : Int) ≤ n by omega), decide_eq_true (show (n : Int) ≤ 4095 by omega)]
          rfl
        | tab ns =>
          obtain ⟨t, h1, h2, h3⟩ := hg
          have hp1 := eE _ _ h1
          refine ⟨_, .inr (SqT.of hp1), iteN (by simp) ⟨_, .inr (SqT.of hp1), iteP rfl (ix0 hp1 (in_tup (T.t_SHIFT_SIGNS _) rfl (by decide +kernel) ⟨_, rfl, iteN (by decide +kernel) ⟨_, .inr (SqT.of hp1), iteP rfl (ix0 hp1 ⟨rfl, iteP rfl (ix1 hp1 ⟨_, rfl, (SqAt.plain (.inl (eE _ _ h2))), .inr ⟨t, _, rfl, .inl (eE _ _ h2), ints_plain ns, tab_len h3, fun H' e' => ⟨_, rfl, iteP (tab_good h3) (ix1 (e' _ _ hp1) ?_)⟩⟩⟩)⟩)⟩⟩))⟩⟩
          exact ⟨t, rfl, _, .inr ⟨SqT.of (e' _ _ (eE _ _ h2)), sz (by decide), fun q hq => k _ _ ((eE.trans e').trans (Evl.Ex.new hq)) ⟨t, upd_same, Evl.Ex.new hq _ _ (e' _ _ (eE _ _ h2)), h3⟩⟩⟩
      · have hp1 := eE _ _ h1
        refine ⟨_, .inr (SqT.of hp1), iteN (by simp) ⟨_, .inr (SqT.of hp1), iteP rfl (ix0 hp1 (in_tup (T.t_SHIFT_SIGNS _) rfl (by decide +kernel) ⟨_, rfl, iteN (by decide +kernel) ⟨_, .inr (SqT.of hp1), iteP rfl (ix0 hp1 ⟨rfl, iteP rfl (ix1 hp1 ⟨_, rfl, (SqAt.plain (.inr (eE _ _ h2))), .inr ⟨l, _, rfl, .inr (eE _ _ h2), ints_plain ns, tab_len h3, fun H' e' => ⟨_, rfl, iteP (tab_good h3) (ix1 (e' _ _ hp1) ?_)⟩⟩⟩)⟩)⟩⟩))⟩⟩
        exact ⟨l, rfl, _, .inl ⟨SqL.of (e' _ _ (eE _ _ h2)), fun m hm => ⟨sz (by decide), fun q hq => k _ _ (((eE.trans e').trans (Evl.Ex.new hm)).trans (Evl.Ex.new hq)) ⟨m, upd_same, Evl.Ex.new hq _ _ upd_same, h3⟩⟩⟩⟩
end


/-! ### the law's drawn kinds -/
theorem pickI {K : PySem.W.Frag} {H : Hp} {l : Addr} {L : List Str} {r : Int} {Q : VK} (hl : H l = some (.lst (L.map V.str))) (h0 : 0 ≤ r) (h1 : r < (L.length : Int)) (k : ∀ z, L[r.toNat]? = some z → Q (.str z) H) : rIxL K (.ref l) (.int r) H Q := by
  obtain ⟨j, rfl⟩ : ∃ j : Nat, r = (j : Int) := ⟨r.toNat, by omega⟩
  have hj : j < L.length := by omega
  rw [Int.toNat_natCast] at k
  exact ixl (SqL.of hl) (atI_nat (by rw [List.getElem?_map, List.getElem?_eq_getElem hj]; rfl)) (k _ (List.getElem?_eq_getElem hj))
def pkL : List Str := ["+", "-", "*", "&", "|", "^", "==", "<"]
theorem pk_at {j : Nat} {z : Str} (h : pkL[j]? = some z) : ∃ k : Pk, z = k.sg := by
  have hm := List.mem_of_getElem? h
  have : ∀ s ∈ pkL, ∃ k : Pk, s = k.sg := by
    intro s hs
    unfold pkL at hs
    simp only [List.mem_cons, List.not_mem_nil, or_false] at hs
    rcases hs with h | h | h | h | h | h | h | h
    · exact ⟨.add, h⟩
    · exact ⟨.sub, h⟩
    · exact ⟨.mul, h⟩
    · exact ⟨.band, h⟩
    · exact ⟨.bor, h⟩
    · exact ⟨.bxor, h⟩
    · exact ⟨.eq, h⟩
    · exact ⟨.lt, h⟩
  exact this z hm
theorem sh_at {j : Nat} {z : Str} (h : (["<<", ">>"] : List Str)[j]? = some z) : ∃ l, z = shS l := by
  have hm := List.mem_of_getElem? h
  simp only [List.mem_cons, List.not_mem_nil, or_false] at hm
  rcases hm with h | h
  · exact ⟨true, h⟩
  · exact ⟨false, h⟩
def ivK (H5 : Hp) (p c : Addr) (D : Addr) (i : Nat) (H' : Hp) : Prop := ∃ ns : List Int, H' D = some (.lst (ns.map V.int)) ∧ ns.length = i ∧ (∀ y ∈ ns, 0 ≤ y ∧ y ≤ 4095) ∧ Fr p H5 H' ∧ HandAt H' p c
section
variable {P : Program} {w : World} {K : PySem.W.Frag} {mg : Str → Option Value} {base : Heap} {a : Ad}
def spKind : Sp := fun vs H Q _ => ∃ p c : Addr, vs = [.ref p] ∧ HandAt H p c ∧ ∀ r kd H', Fr p H H' → HandAt H' p c → KdAt H' r kd → Q (.ref r) H'
theorem ok_law_kind (T : Txt K mg a) : FnOk P w K mg base CX0 3 a.f_law_kind a.d_law_kind ["_law_hand_here"] spKind := by
  refine T.F_law_kind.ok sc_law_kind (fun vs H Q E h => ?_) (fun cdv A outer s H vs Q E hr h => ?_)
  · obtain ⟨_, _, rfl, _⟩ := h
    rfl
  · obtain ⟨p, c, rfl, hh, k⟩ := h
    refine ⟨_, (pss_cons (ps_set (i := 1) sc_law_kind.nd rfl (by first | exact Or.inl rfl | exact Or.inr rfl) (pe_call (ok_law_take T) (hr.mono (by decide)) rfl T.m_law_take T.F_law_take.kp T.b_law_take .nil pass0 (pa_cons (pv 0) (pa_cons pe_int pa_nil))))
  (pss_cons (ps_if (pt_cmpR op_lt (pv 1) pe_int (nomark _)) (pss_one (ps_ret (pe_tup (pa_cons (pe_ix ix_list (pe_lst (pa_cons pe_str (pa_cons pe_str (pa_cons pe_str (pa_cons pe_str (pa_cons pe_str (pa_cons pe_str (pa_cons pe_str (pa_cons pe_str pa_nil))))))))) (pv 1) (fun _ _ => rfl)) pa_nil))))
    pss_nil)
  (pss_cons (ps_if (pt_cmpR op_lt (pv 1) pe_int (nomark _)) (pss_one (ps_ret (pe_tup (pa_cons (pe_ix ix_list (pe_lst (pa_cons pe_str (pa_cons pe_str pa_nil))) (pe_op op_sub (pv 1) pe_int) (fun _ _ => rfl)) (pa_cons (pe_ifExp (pt_cmpR op_gt (pe_call (ok_law_take T) (hr.mono (by decide)) rfl T.m_law_take T.F_law_take.kp T.b_law_take .nil pass0 (pa_cons (pv 0) (pa_cons pe_int pa_nil))) pe_int (nomark _)) (pe_call (ok_law_take T) (hr.mono (by decide)) rfl T.m_law_take T.F_law_take.kp T.b_law_take .nil pass0 (pa_cons (pv 0) (pa_cons pe_int pa_nil))) (pe_call (ok_law_take T) (hr.mono (by decide)) rfl T.m_law_take T.F_law_take.kp T.b_law_take .nil pass0 (pa_cons (pv 0) (pa_cons pe_int pa_nil)))) pa_nil)))))
    pss_nil)
  (pss_cons (ps_if (pt_cmpR op_lt (pv 1) pe_int (nomark _)) (pss_one (ps_ret (pe_tup (pa_cons pe_str pa_nil))))
    pss_nil)
  (pss_one (ps_ret (pe_tup (pa_cons pe_str (pa_cons (pe_callTy call_tuple_of (by rfl) T.z_tuple (by decide +kernel) (pa_cons (pe_lc (own := [("_law_k", 2)]) (g := gName 2) (tt := tYes) rfl sc_law_kind.nd (pi_range1 (by rfl) T.z_range (pa_cons (pe_call (ok_law_two T) (hr.mono (by decide)) rfl T.m_law_two T.F_law_two.kp T.b_law_two .nil pass0 (pa_cons (pe_call (ok_law_take T) (hr.mono (by decide)) rfl T.m_law_take T.F_law_take.kp T.b_law_take .nil pass0 (pa_cons (pv 0) (pa_cons pe_int pa_nil))) pa_nil)) pa_nil)) (blkOk_by (own := [("_law_k", 2)]) (N := ["_law_hand_here", "_law_at", "_law_k"]) (sc := defScope s_law_kind) (by decide +kernel)) (fun _ _ _ _ _ => pg_name (i := 2) sc_law_kind.nd rfl (Or.inl rfl)) (fun _ _ _ _ _ => pts_nil) (fun _ _ _ _ _ => (pe_ifExp (pt_cmpR op_eq (pe_call (ok_law_take T) (hr.mono (by decide)) rfl T.m_law_take T.F_law_take.kp T.b_law_take .nil pass0 (pa_cons (pv 0) (pa_cons pe_int pa_nil))) pe_int (nomark _)) (pe_call (ok_law_take T) (hr.mono (by decide)) rfl T.m_law_take T.F_law_take.kp T.b_law_take .nil pass0 (pa_cons (pv 0) (pa_cons pe_int pa_nil))) (pe_call (ok_law_take T) (hr.mono (by decide)) rfl T.m_law_take T.F_law_take.kp T.b_law_take .nil pass0 (pa_cons (pv 0) (pa_cons pe_int pa_nil)))))) pa_nil)) pa_nil))))))))), ?_⟩
    walk_at "sm"
    refine tk hh (by decide) (by decide) fun at1 H1 a0 a1 f1 hh1 => ?_
    walk_at "sm"
    refine ite2 (fun h8 => ⟨sz (by decide), fun l hl => pickI (L := pkL) upd_same a0 (by exact h8) fun z hz => ⟨sz (by decide), fun q hq => ?_⟩⟩) fun h8 => ite2 (fun h10 => ?_) fun h10 => ite2 (fun h12 => ⟨sz (by decide), fun q hq => ?_⟩) fun h12 => ?_
    · obtain ⟨kk, rfl⟩ := pk_at hz
      have eL := (Evl.Ex.new (o := .lst (pkL.map V.str)) hl).trans (Evl.Ex.new (o := .tup [.str kk.sg]) hq)
      exact k q (.pr kk) _ (f1.trans (Fr.of eL)) (hh1.go eL) upd_same
    · refine ⟨sz (by decide), fun l hl => pickI (L := ["<<", ">>"]) upd_same (by omega) (by show _ < (2 : Int); omega) fun z hz => ?_⟩
      obtain ⟨lr, rfl⟩ := sh_at hz
      have eL := Evl.Ex.new (o := .lst ((["<<", ">>"] : List Str).map V.str)) hl
      refine tk (hh1.go eL) (by decide) (by decide) fun r2 H2 b0 b1 f2 hh2 => ?_
      walk_at "sm"
      have go : ∀ m : Int, 0 < m → m ≤ 4096 → spTake [V.ref p, V.int m] H2 (fun x H1 => 0 + 1 + 1 ≤ sizeLine ∧ ∀ (p : Addr), H1 p = none → Q (V.ref p) (upd H1 p (HO.tup [V.str (shS lr), x]))) E0 := fun m m0 m1 => tk hh2 m0 (by omega) fun r3 H3 c0 c1 f3 hh3 => ⟨sz (by decide), fun q hq => by
        obtain ⟨n, rfl⟩ : ∃ n : Nat, r3 = (n : Int) := ⟨r3.toNat, by omega⟩
        have eQ := Evl.Ex.new (o := .tup [.str (shS lr), .int n]) hq
        exact k q (.sh lr n) _ ((((f1.trans (Fr.of eL)).trans f2).trans f3).trans (Fr.of eQ)) (hh3.go eQ) ⟨upd_same, by omega⟩⟩
      exact ite2 (fun _ => go 15 (by decide) (by decide)) fun _ => go 4096 (by decide) (by decide)
    · have eQ := Evl.Ex.new (o := .tup [.str "pick"]) hq
      exact k q .pick _ (f1.trans (Fr.of eQ)) (hh1.go eQ) upd_same
    · refine tk hh1 (by decide) (by decide) fun r2 H2 b0 b1 f2 hh2 => ?_
      walk_at "sm"
      obtain ⟨n, rfl⟩ : ∃ n : Nat, r2 = (n : Int) := ⟨r2.toNat, by omega⟩
      obtain ⟨t1, t2⟩ := two_le (show n ≤ 12 by omega)
      refine ⟨n, rfl, by omega, _, rfl, by omega, by omega, ?_⟩
      refine lcg_range (ivK H2 p c) (fun D hD => ⟨[], upd_same, rfl, (by intro y hy; cases hy), (Fr.refl H2).mut hD, hh2.upd (hh2.lt hD) (hh2.lc hD)⟩) (fun D i H6 hD hi ⟨ns, h1, h2, h3, f6, hh6⟩ => ?_) (fun lp H6 hlp ⟨ns, h1, h2, h3, f6, hh6⟩ => ?_)
      · walk_at "sm"
        have nDp := hh2.lt hD
        refine tk hh6 (by decide) (by decide) fun r3 H7 c0 c1 f7 hh7 => ?_
        walk_at "sm"
        have fin : ∀ m : Int, 0 < m → m ≤ 4096 → spTake [V.ref p, V.int m] H7 (fun y H4 => ∃ acc, H4 D = some (HO.lst acc) ∧ acc.length < sizeLine ∧ ivK H2 p c D (i + 1) (upd H4 D (HO.lst (acc ++ [y])))) E0 := fun m m0 m1 => tk hh7 m0 (by omega) fun r4 H8 d0 d1 f8 hh8 => by
          refine ⟨_, f8 _ _ nDp (f7 _ _ nDp h1), Nat.lt_of_le_of_lt (show (ns.map V.int).length ≤ 5000 by rw [List.length_map]; omega) (by decide), ns ++ [r4], by rw [upd_same, List.map_append]; rfl, by rw [List.length_append, h2]; rfl, ?_, ((f6.trans f7).trans f8).mut hD, hh8.upd nDp (hh2.lc hD)⟩
          intro y hy
          rcases List.mem_append.mp hy with q | q
          · exact h3 y q
          · rw [List.mem_singleton] at q
            rw [q]; omega
        exact ite2 (fun _ => fin 4096 (by decide) (by decide)) fun _ => fin 16 (by decide) (by decide)
      · have gt : goodTab ns := by
          refine ⟨?_, h3⟩
          rw [h2]
          have hn : n < 5 := by omega
          rcases (show n = 0 ∨ n = 1 ∨ n = 2 ∨ n = 3 ∨ n = 4 by omega) with rfl | rfl | rfl | rfl | rfl
          · exact .inl rfl
          · exact .inr (.inl rfl)
          · exact .inr (.inr (.inl rfl))
          · exact .inr (.inr (.inr (.inl rfl)))
          · exact .inr (.inr (.inr (.inr rfl)))
        refine ⟨lp, rfl, _, .inl ⟨SqL.of h1, fun m hm => ⟨sz (by decide), fun q hq => ?_⟩⟩⟩
        have eQ := (Evl.Ex.new (o := .tup (ns.map V.int)) hm).trans (Evl.Ex.new (o := .tup [.str "table", .ref m]) hq)
        exact k q (.tab ns) _ (((f1.trans f2).trans f6).trans (Fr.of eQ)) (hh6.go eQ) ⟨m, upd_same, Evl.Ex.new hq _ _ upd_same, gt⟩
end


/-! ### rows of words -/
def RowN (H : Hp) (D : Addr) (n : Nat) (e : Int) (r : V) : Prop := ∃ (q : Addr) (ns : List Int), r = .ref q ∧ q ≠ D ∧ H q = some (.lst (ns.map V.int)) ∧ ns.length = n ∧ ∀ x ∈ ns, 0 ≤ x ∧ x < e
theorem RowN.go {H H' : Hp} {D : Addr} {n : Nat} {e : Int} {r : V} (x : Evl.Ex H H') (h : RowN H D n e r) : RowN H' D n e r := by
  obtain ⟨q, ns, h1, h2, h3, h4⟩ := h
  exact ⟨q, ns, h1, h2, x _ _ h3, h4⟩
theorem RowN.upd {H : Hp} {D : Addr} {n : Nat} {e : Int} {r : V} {o : HO} (h : RowN H D n e r) : RowN (L2.upd H D o) D n e r := by
  obtain ⟨q, ns, h1, h2, h3, h4⟩ := h
  exact ⟨q, ns, h1, h2, by rw [upd_ne h2]; exact h3, h4⟩
theorem RowN.fr {H H' : Hp} {p D : Addr} {n : Nat} {e : Int} {r : V} (f : Fr p H H') (c : Addr) (hh : HandAt H p c) (h : RowN H D n e r) : RowN H' D n e r := by
  obtain ⟨q, ns, h1, h2, h3, h4⟩ := h
  refine ⟨q, ns, h1, h2, f _ _ (fun z => ?_) h3, h4⟩
  obtain ⟨cells, i, g, t, hp, _⟩ := hh
  rw [← z, h3] at hp
  cases ns with
  | nil => cases hp
  | cons a b => cases hp
def RowsAt (H : Hp) (l : Addr) (n m : Nat) (e : Int) : Prop := ∃ rs : List V, H l = some (.lst rs) ∧ rs.length ≤ m ∧ ∀ r ∈ rs, RowN H l n e r
def ivLo (H0 : Hp) (D l : Addr) (n en k : Nat) : Nat → L2.St → Hp → Prop := fun j σ H' => ∃ (acc : List V) (v3 v4 : Option V), σ = [some (.ref l), some (.int en), some (.ref D), v3, v4] ∧ H' D = some (.lst acc) ∧ acc.length = k * en + j ∧ (∀ r ∈ acc, RowN H' D (n + 1) en r) ∧ Evl.Ex H0 H'
def ivLi (H0 : Hp) (D l : Addr) (n en k : Nat) (r : V) : Nat → L2.St → Hp → Prop := fun j σ H' => ∃ (acc : List V) (v4 : Option V), σ = [some (.ref l), some (.int en), some (.ref D), some r, v4] ∧ H' D = some (.lst acc) ∧ acc.length = k * en + j ∧ (∀ r ∈ acc, RowN H' D (n + 1) en r) ∧ Evl.Ex H0 H'
def RowQ (H : Hp) (n : Nat) (e : Int) (r : V) : Prop := ∃ (q : Addr) (ns : List Int), r = .ref q ∧ H q = some (.lst (ns.map V.int)) ∧ ns.length = n ∧ ∀ x ∈ ns, 0 ≤ x ∧ x < e
theorem RowN.q {H : Hp} {D : Addr} {n : Nat} {e : Int} {r : V} (h : RowN H D n e r) : RowQ H n e r := by
  obtain ⟨q, ns, h1, h2, h3, h4⟩ := h
  exact ⟨q, ns, h1, h3, h4⟩
theorem RowQ.go {H H' : Hp} {n : Nat} {e : Int} {r : V} (x : Evl.Ex H H') (h : RowQ H n e r) : RowQ H' n e r := by
  obtain ⟨q, ns, h1, h3, h4⟩ := h
  exact ⟨q, ns, h1, x _ _ h3, h4⟩
theorem RowQ.new {H : Hp} {D : Addr} {o : HO} {n : Nat} {e : Int} {r : V} (hD : H D = none) (h : RowQ H n e r) : RowN (L2.upd H D o) D n e r := by
  obtain ⟨q, ns, h1, h3, h4⟩ := h
  have nq := ne_of_none h3 hD
  exact ⟨q, ns, h1, nq, by rw [upd_ne nq]; exact h3, h4⟩
theorem RowsAt.mono {H : Hp} {l : Addr} {n m m2 : Nat} {e : Int} (h : RowsAt H l n m e) (hm : m ≤ m2) : RowsAt H l n m2 e := by
  obtain ⟨rs, h1, h2, h3⟩ := h
  exact ⟨rs, h1, Nat.le_trans h2 hm, h3⟩
theorem rep_flat (a : Int) : ∀ n : Nat, (List.replicate n [V.int a]).flatten = (List.replicate n a).map V.int
  | 0 => rfl
  | n + 1 => by rw [List.replicate_succ, List.flatten_cons, rep_flat a n, List.replicate_succ, List.map_cons]; rfl
theorem rep1 {H : Hp} {l : Addr} {a : Int} {n : Nat} {Q : VK} (h : H l = some (.lst [.int a])) (hn : n ≤ 10) (k : ∀ q H', Evl.Ex H H' → H' q = some (.lst ((List.replicate n a).map V.int)) → Q (.ref q) H') : rRep (.ref l) (.int n) H Q :=
  ⟨l, n, _, rfl, rfl, h, by omega, by omega, by rw [Int.toNat_natCast]; exact sz (by show 1 * n ≤ _; omega), fun q hq => k q _ (Evl.Ex.new hq) (by rw [upd_same, Int.toNat_natCast, rep_flat])⟩
theorem rowq_rep {H : Hp} {q : Addr} {n : Nat} {a e : Int} (h : H q = some (.lst ((List.replicate n a).map V.int))) (h0 : 0 ≤ a) (h1 : a < e) : RowQ H n e (.ref q) := ⟨q, _, rfl, h, List.length_replicate, fun x hx => by rw [List.mem_replicate] at hx; rw [hx.2]; exact ⟨h0, h1⟩⟩
def ivRo (H : Hp) (p : Addr) (m wd : Nat) : Nat → L2.St → Hp → Prop := fun i σ H' => ∃ l v5, σ = [some (.ref p), some (.int m), some (.int wd), some (.int (2 ^ wd)), some (.ref l), v5] ∧ RowsAt H' l i (4 ^ i) ((2 : Int) ^ wd) ∧ Evl.Ex H H'
def ivWR (H5 : Hp) (p c : Addr) (m : Nat) (e : Int) (D : Addr) (i : Nat) (H' : Hp) : Prop := ∃ rs : List V, H' D = some (.lst rs) ∧ rs.length = i ∧ (∀ r ∈ rs, RowN H' D m e r) ∧ Fr p H5 H' ∧ HandAt H' p c
section
variable {P : Program} {w : World} {K : PySem.W.Frag} {mg : Str → Option Value} {base : Heap} {a : Ad}
def spLonger : Sp := fun vs H Q _ => ∃ (l : Addr) (n m en : Nat), vs = [.ref l, .int en] ∧ RowsAt H l n m en ∧ m ≤ 64 ∧ n ≤ 10 ∧ en ≤ 4 ∧ ∀ l2 H', Evl.Ex H H' → RowsAt H' l2 (n + 1) (m * en) en → Q (.ref l2) H'
def ivW (H5 : Hp) (p c : Addr) (e : Int) (D : Addr) (i : Nat) (H' : Hp) : Prop := ∃ ns : List Int, H' D = some (.lst (ns.map V.int)) ∧ ns.length = i ∧ (∀ y ∈ ns, 0 ≤ y ∧ y < e) ∧ Fr p H5 H' ∧ HandAt H' p c
def spWords : Sp := fun vs H Q _ => ∃ (p c : Addr) (m wd : Nat), vs = [.ref p, .int m, .int wd] ∧ HandAt H p c ∧ m ≤ 10 ∧ wd ≤ 12 ∧ ∀ (l : Addr) (ns : List Int) (H' : Hp), H l = none → Fr p H H' → HandAt H' p c → H' l = some (.lst (ns.map V.int)) → ns.length = m → (∀ x ∈ ns, 0 ≤ x ∧ x < (2 : Int) ^ wd) → Q (.ref l) H'
theorem ok_law_words (T : Txt K mg a) : FnOk P w K mg base CX0 3 a.f_law_words a.d_law_words ["_law_hand_here", "_law_many", "_law_width"] spWords := by
  refine T.F_law_words.ok sc_law_words (fun vs H Q E h => ?_) (fun cdv A outer s H vs Q E hr h => ?_)
  · obtain ⟨_, _, _, _, rfl, _⟩ := h
    rfl
  · obtain ⟨p, c, m, wd, rfl, hh, hm, hw, k⟩ := h
    refine ⟨_, (pss_one (ps_ret (pe_lc (own := [("_law_k", 3)]) (g := gName 3) (tt := tYes) rfl sc_law_words.nd (pi_range1 (by rfl) T.z_range (pa_cons (pv 1) pa_nil)) (blkOk_by (own := [("_law_k", 3)]) (N := ["_law_hand_here", "_law_many", "_law_width", "_law_k"]) (sc := defScope s_law_words) (by decide +kernel)) (fun _ _ _ _ _ => pg_name (i := 3) sc_law_words.nd rfl (Or.inl rfl)) (fun _ _ _ _ _ => pts_nil) (fun _ _ _ _ _ => (pe_call (ok_law_take T) (hr.mono (by decide)) rfl T.m_law_take T.F_law_take.kp T.b_law_take .nil pass0 (pa_cons (pv 0) (pa_cons (pe_call (ok_law_two T) (hr.mono (by decide)) rfl T.m_law_two T.F_law_two.kp T.b_law_two .nil pass0 (pa_cons (pv 2) pa_nil)) pa_nil))))))), ?_⟩
    obtain ⟨t1, t2⟩ := two_le hw
    walk_at "sm"
    refine ⟨by omega, by omega, ?_⟩
    refine lcg_range (ivW H p c (2 ^ wd)) (fun D hD => ⟨[], upd_same, rfl, (by intro y hy; cases hy), (Fr.refl H).mut hD, hh.upd (hh.lt hD) (hh.lc hD)⟩) (fun D i H6 hD hi ⟨ns, h1, h2, h3, f6, hh6⟩ => ?_) (fun lp H6 hlp ⟨ns, h1, h2, h3, f6, hh6⟩ => ?_)
    · walk_at "sm"
      have nDp := hh.lt hD
      refine ⟨wd, rfl, by omega, ?_⟩
      refine tk hh6 t1 (by omega) fun r3 H7 c0 c1 f7 hh7 => ?_
      refine ⟨_, f7 _ _ nDp h1, Nat.lt_of_le_of_lt (show (ns.map V.int).length ≤ 5000 by rw [List.length_map]; omega) (by decide), ns ++ [r3], by rw [upd_same, List.map_append]; rfl, by rw [List.length_append, h2]; rfl, ?_, (f6.trans f7).mut hD, hh7.upd nDp (hh.lc hD)⟩
      intro y hy
      rcases List.mem_append.mp hy with q | q
      · exact h3 y q
      · rw [List.mem_singleton] at q
        rw [q]; exact ⟨c0, c1⟩
    · exact k lp ns _ hlp f6 hh6 h1 (by rw [h2, Int.toNat_natCast]) h3
def spRows : Sp := fun vs H Q _ => ∃ (p c : Addr) (m wd : Nat), vs = [.ref p, .int m, .int wd] ∧ HandAt H p c ∧ 1 ≤ m ∧ m ≤ 3 ∧ 1 ≤ wd ∧ wd ≤ 12 ∧ ∀ l H', Fr p H H' → HandAt H' p c → RowsAt H' l m 64 ((2 : Int) ^ wd) → Q (.ref l) H'
end


/-! ### enumerate(t), t a tuple -/
set_option maxHeartbeats 4000000 in
theorem newEnum1 {v : Value} {o : Obj} {J : Heap → Prop} (B : Begins v o J) :
    Meets (Builtin.«enumerate.__new__» ⟨[.type "enumerate", v], []⟩) (fun _ R s => J s.heap ∧
      R (.ok (.ret (.ref (s.heap.push o).objs.size))) { s with heap := (s.heap.push o).push { cls := .type "enumerate", data := .fields #[.none, .bool false, .ref s.heap.objs.size, rawInt 0, .none, .none] } }) :=
  .of_wp fun prog w A R s h => by
    obtain ⟨hp, g, d, tk, os⟩ := s
    obtain ⟨h1, h⟩ := h
    have hsub := sub_enumerate
    have go : ∀ {A1 : Around} {E1 : Value → Shared → Prop} {Q1 : Value → Shared → Prop}, Q1 (.ref hp.objs.size) ⟨hp.push o, g, d, tk, os⟩ → wpAny (model prog w) A1 (pyIter v) Q1 E1 ⟨hp, g, d, tk, os⟩ := fun q => B.iter prog w _ _ ⟨hp, g, d, tk, os⟩ _ h1 q
    wp_walk using go
    refine wpAny_stack_any fun st => wpAny_pure ?_
    split
    · rename_i c _ _ _ _ _
      cases (c == Value.type "enumerate") <;> (wp_walk using go; exact ⟨_, rfl, h⟩)
    · wp_walk using go
      exact ⟨_, rfl, h⟩
theorem callEnum1 {prog : Program} {w : World} {A : Around} {E : Value → Shared → Prop} {s : Shared} {v : Value} {o : Obj} {J : Heap → Prop} {Q : Value → Shared → Prop} (B : Begins v o J) (h1 : J s.heap)
    (h : ∀ h2, IsEnum h2 (s.heap.objs.size + 1) s.heap.objs.size 0 .none → h2.get? s.heap.objs.size = some o → (∀ b u, s.heap.get? b = some u → h2.get? b = some u) → Q (.ref (s.heap.objs.size + 1)) { s with heap := h2 }) :
    wpAny (model prog w) A (call (.type "enumerate") [v]) Q E s := by
  refine callType_new F.called_enumerate (by decide) (F.typeCall_enumerate_1 _) (F.newCall_enumerate_1 _) (fun obj => F.args_object_init_2 obj _) F.entry_enumerate_new (newEnum1 B) ⟨h1, ?_⟩
  have hz : (s.heap.push o).objs.size = s.heap.objs.size + 1 := Heap.size_push ..
  have he := Heap.get?_push_size (s.heap.push o) (o := { cls := .type "enumerate", data := .fields #[.none, .bool false, .ref s.heap.objs.size, rawInt 0, .none, .none] }) rfl
  show _ ∧ _
  rw [hz] at he ⊢
  exact ⟨⟨_, he, rfl⟩, h _ he (Heap.get?_push_of_some _ (Heap.get?_push_size _ B.free)) fun b u x => Heap.get?_push_of_some _ (Heap.get?_push_of_some _ x)⟩
def ItT (K : PySem.W.Frag) (a : Addr) : It where
  go i H := ∃ (xs : List V) (x : V), SqT K H a xs ∧ xs[i]? = some x
  yld i H v H' := ∃ T x, v = .ref T ∧ H T = none ∧ H' = upd H T (.tup [.int (i : Nat), x]) ∧ ∀ xs, SqT K H a xs → xs[i]? = some x
  stop i H := ∃ xs : List V, SqT K H a xs ∧ xs.length = i
theorem tup_ne {h : Heap} {a it : Addr} {i : Nat} {its : Array Value} (p : IsTup h a its) (q : h.IsTupleIter it a i) : a ≠ it := fun z => by
  subst z
  obtain ⟨o, e1, c1, _⟩ := p
  obtain ⟨o2, e2, c2, _⟩ := q
  rw [e1] at e2
  cases e2
  rw [c1] at c2
  injection c2 with c3
  exact absurd c3 (by decide)
theorem turn_enumT {P : Program} {w : World} {K : PySem.W.Frag} {elts : List Expr} {kk : Nat} {tpos : Pos} (a e it : Addr) :
    Turn P w K (.Tuple elts kk tpos) (ItT K a) [e, it] e (fun i h => (∃ old, IsEnum h e it ((i : Nat) : Int) old) ∧ h.IsTupleIter it a i ∧ e ≠ it) where
  mem := List.mem_cons_self
  obj := fun i h z b hb => by
    obtain ⟨⟨old, he⟩, ⟨o, ho, hc, hd⟩, _⟩ := z
    rcases List.mem_cons.mp hb with rfl | hb
    · exact ⟨_, he, fun v q => by cases q⟩
    · rw [List.mem_singleton.mp hb]; exact ⟨o, ho, fun v q => by rw [hd] at q; cases q⟩
  keep := fun i h h2 z k => by
    obtain ⟨⟨old, he⟩, hi, hne⟩ := z
    exact ⟨⟨old, k e (by simp) _ he⟩, hi.at fun o q => k it (by simp) o q, hne⟩
  item := by
    rintro X rfl rfl rfl hc i pins s σ H E I hf z ⟨xs, x, hq, hx⟩
    obtain ⟨⟨old, he⟩, hit, hne⟩ := z
    obtain ⟨its, rv, p, hz⟩ := I.tuple hq
    obtain ⟨u, hu, ru⟩ := rv.get hx
    have hil : i < its.toArray.size := by rw [List.size_toArray]; exact (List.getElem?_eq_some_iff.mp hu).1
    have hai := tup_ne p hit
    have D := Draws.tuple (prog := X.prog) (w := X.w) (A := X.A.in1) (I.ok.hd hc) it a hai its.toArray
    have hea : e ≠ a := fun q => by
      obtain ⟨o, e1, c1, _⟩ := p
      rw [← q, show s.heap.get? e = _ from he] at e1
      cases e1
      injection c1 with c3
      exact absurd c3 (by decide)
    refine wpAny_pyNext_enum_itemC D he ⟨hit, p⟩ hil hne (by simp [hne, hea]) fun y h2 tk hP ho hst hT hsz hk => ?_
    have ey : y = u := by
      have hP2 : its.toArray[i]? = some y := hP
      rw [List.getElem?_toArray, hu] at hP2
      exact (Option.some.inj hP2).symm
    subst ey
    have hel : e < s.heap.objs.size := Heap.lt_size he
    have hil2 : it < s.heap.objs.size := by obtain ⟨_, q, _⟩ := hit; exact Heap.lt_size q
    refine ⟨_, rfl, wpAny_letOwnedTupleGo_enum (s := { s with heap := h2, toks := tk + 1 }) ho fun h3 he3 sb => ?_⟩
    have hT2 := (sb.2 _ (Nat.ne_of_gt hel)).trans hT
    have nw : ObjOk X.prog X.w (upd H s.heap.objs.size (.tup [.int (i : Nat), x])) h3 s.heap.objs.size (.tup [.int (i : Nat), x]) := ⟨by show 2 ≤ sizeLine; decide, [.int i tk, y], .cons ⟨_, rfl⟩ (.cons ru .nil), ⟨_, hT2, rfl, _, rfl⟩⟩
    have I1 : Inv X pins σ (upd H s.heap.objs.size (.tup [.int (i : Nat), x])) { s with heap := h3, toks := tk + 1 } :=
      I.turnedNew (ch := [e, it]) (fun b ob hb q => (sb.2 b fun z => hb (by simp [z])).trans (hk b ob (fun z => hb (by simp [z])) (fun z => hb (by simp [z])) q)) hf (Nat.le_refl _) nw
    refine ⟨.ref s.heap.objs.size, _, I1, rfl, ⟨_, x, rfl, I.hok.fresh (Nat.le_refl _), rfl, fun ys hy => by rw [I.tuple_inj hy hq]; exact hx⟩, ⟨⟨y, ?_⟩, hst.1.at fun o q => (sb.2 it (Ne.symm hne)).trans q, hne⟩, fun b hb => ?_⟩
    · rw [show ((i + 1 : Nat) : Int) = (i : Int) + 1 by omega]
      exact he3
    · have hb2 : b < s.heap.objs.size := by
        rcases List.mem_cons.mp hb with rfl | hb1
        · exact hel
        · rw [List.mem_singleton.mp hb1]; exact hil2
      rw [upd_ne (Nat.ne_of_lt hb2)]
      exact (hf b hb).1
  done := by
    rintro X rfl rfl rfl hc i pins s σ H E I hf z ⟨xs, hq, hx⟩
    obtain ⟨⟨old, he⟩, hit, hne⟩ := z
    obtain ⟨its, rv, p, hz⟩ := I.tuple hq
    obtain ⟨f0, f1, f2, f3, f4, f5⟩ := hf it (by simp)
    have hl := rv.length
    have hn : its.toArray.size = i := by rw [List.size_toArray, ← hl]; exact hx
    have D := Draws.tuple (prog := X.prog) (w := X.w) (A := X.A.in1) (I.ok.hd hc) it a (tup_ne p hit) its.toArray
    exact wpAny_pyNext_enum_endD D he (by rw [hn]; exact ⟨hit, p⟩) fun h2 kx => ⟨rfl, I.turned (t' := s.toks) (fun b o hb q => kx b o hb q) f0 f1 f3 f4 f5⟩
  self := fun A i s Q E z h => wpAny_pyIter_enum z.1.choose_spec h
def iEnumT (K : PySem.W.Frag) (ta : TA) : TI := fun σ H R => ta σ H fun vs H1 => ∃ a xs, vs = [.ref a] ∧ SqT K H1 a xs ∧ R (ItT K a) H1
theorem pi_enumT {X : Cx} {e : Expr} {ta : TA} {p pos tpos : Pos} {elts : List Expr} {kk : Nat} (hg : Gl X "enumerate") (hm : X.mg "enumerate" = none) (ha : PA X [e] ta) (hs : starEach [e] X.env = [(false, eval e X.env)] := by rfl) :
    PI X (.Tuple elts kk tpos) (.Call (.Name "enumerate" p) [e] [] pos) (iEnumT X.K ta) := by
  refine ⟨fun pins s σ H R I h => Call_ (ld_blt I hg hm boot_enumerate (PyProof.Rows.callWith_type1 (thn (ha.run pos pins s σ H _ I h) fun us s1 ⟨vs, H1, I1, r1, a, xs, ex, hq, q⟩ => ?_) hs rfl))⟩
  subst ex
  cases r1 with
  | cons r rr =>
    cases rr
    cases r
    obtain ⟨its, rv, p2, hz⟩ := I1.tuple hq
    refine callEnum1 (begins_tuple a its.toArray) p2 fun h2 he hit hk => wpAny_pyIter_enum he ?_
    have I2 : Inv X pins σ H1 { s1 with heap := h2 } := I1.kept (t' := s1.toks) hk
    refine ⟨s1.heap.objs.size + 1, [s1.heap.objs.size + 1, s1.heap.objs.size], _, _, H1, rfl, I2, turn_enumT a (s1.heap.objs.size + 1) s1.heap.objs.size, ⟨⟨.none, he⟩, ⟨_, hit, rfl, rfl⟩, Nat.succ_ne_self _⟩, fun b hb => ?_, q⟩
    have hle : s1.heap.objs.size ≤ b := by
      rcases List.mem_cons.mp hb with rfl | hb1
      · exact Nat.le_add_right _ _
      · rw [List.mem_singleton.mp hb1]; exact Nat.le_refl _
    exact I1.fpOk hle (I1.hok.fresh hle)
theorem for_en {J : It} {n : Nat} {g : TG} {tb : TS} {D : Ends} {σ : L2.St} {H : Hp} (Pv : Nat → L2.St → Hp → Prop) (h0 : Pv 0 σ H) (hgo : ∀ i σ H, i < n → Pv i σ H → J.go i H) (hstop : ∀ σ H, Pv n σ H → J.stop n H)
    (hs : ∀ i σ H x H1, i < n → Pv i σ H → J.yld i H x H1 → g x σ H1 fun σ2 H2 => tb { D with nx := Pv (i + 1), ct := Pv (i + 1), bk := D.nx } σ2 H2) (hd : ∀ σ H, Pv n σ H → D.nx σ H) :
    ∃ W : Nat → Nat → L2.St → Hp → Prop, (∃ m, W 0 m σ H) ∧ ∀ i m σ H, W i m σ H →
      (J.stop i H ∧ D.nx σ H) ∨ (J.go i H ∧ ∃ N : L2.St → Hp → Prop, (∀ σ1 H1, N σ1 H1 → ∃ m1, m1 < m ∧ W (i + 1) m1 σ1 H1) ∧ ∀ x H1, J.yld i H x H1 → g x σ H1 fun σ2 H2 => tb { D with nx := N, ct := N, bk := D.nx } σ2 H2) := by
  refine ⟨fun i m σ H => m = n - i ∧ i ≤ n ∧ Pv i σ H, ⟨n, rfl, Nat.zero_le _, h0⟩, ?_⟩
  rintro i m σ H ⟨rfl, hi, pv⟩
  rcases Nat.lt_or_eq_of_le hi with hl | rfl
  · exact .inr ⟨hgo i σ H hl pv, Pv (i + 1), fun σ1 H1 q => ⟨n - (i + 1), by omega, rfl, hl, q⟩, fun x H1 y => hs i σ H x H1 hl pv y⟩
  · exact .inl ⟨hstop σ H pv, hd σ H pv⟩
/-! ### the inputs that are checked -/
def RzI (C : Addr) (H : Hp) (E : XK) (i : Int) (w : Str) : Prop := ∀ (d : Addr) (H' : Hp), Evl.Ex H H' → H' d = some (.xd [("what", .str w), ("index", .int i)]) → E (.ref C) (some d) H'
theorem RzI.go {C : Addr} {H H1 : Hp} {E : XK} {i : Int} {w : Str} (h : RzI C H E i w) (e : Evl.Ex H H1) : RzI C H1 E i w := fun d H' e' q => h d H' (e.trans e') q
def ivCI (H : Hp) (xs : List V) (m wd : Nat) (x : V) (good : V → Bool) : Nat → L2.St → Hp → Prop := fun i σ H' => ∃ v3 v4, σ = [some x, some (.int m), some (.int wd), v3, v4] ∧ Evl.Ex H H' ∧ ∀ (j : Nat) (y : V), j < i → xs[j]? = some y → good y = true
section
variable {P : Program} {w : World} {K : PySem.W.Frag} {mg : Str → Option Value} {base : Heap} {a : Ad}
def okW (wd : Nat) (y : V) : Bool := wiB y 0 (2 ^ wd - 1)
def spCI (C : Addr) : Sp := fun vs H Q E => ∃ (x : V) (m wd : Nat), vs = [x, .int m, .int wd] ∧ wd ≤ 12 ∧ PlainV H x ∧ ((sqV x = false ∧ RzI C H E (-1) "many") ∨ ∃ p xs, x = .ref p ∧ SqAt H p xs ∧ xs.length ≤ 100 ∧ (∀ y ∈ xs, PlainV H y) ∧
  (xs.length ≠ m → RzI C H E (-1) "many") ∧ (xs.length = m → (∀ (i : Nat) (y : V), xs[i]? = some y → (∀ (j : Nat) (z : V), j < i → xs[j]? = some z → okW wd z = true) → okW wd y = false → RzI C H E i "word") ∧
    (xs.all (okW wd) = true → ∀ q H', Evl.Ex H H' → H' q = some (.tup xs) → Q (.ref q) H')))
theorem ok_check_inputs (T : Txt K mg a) : FnOk P w K mg base (L2.CX P w) 3 a.f_check_inputs a.d_check_inputs ["inputs", "many", "width"] (spCI a.c_BadInputs) := by
  refine T.F_check_inputs.okX sc_check_inputs (fun vs H Q E h => ?_) (fun cdv A outer s H vs Q E hr h => ?_)
  · obtain ⟨_, _, _, rfl, _⟩ := h
    rfl
  · obtain ⟨x, m, wd, rfl, hw, hx, k⟩ := h
    refine ⟨_, (pss_cons (ps_if (PW.pt (pw_or (pt_not (pt_val (pe_call (ok_is_sequence T) (hr.mono (by decide)) rfl T.m_is_sequence T.F_is_sequence.kp T.b_is_sequence .nil pass0 (pa_cons (pv 0) pa_nil)))) (pw_or1 (pt_cmpR op_ne (pe_callB call_len_seq (by rfl) T.z_len (by decide +kernel) (pa_cons (pv 0) pa_nil)) (pv 1) (nomark _))))) (pss_one (ps_raise rfl (takes_of rfl rfl rfl rfl) (pmk_oex T.x_BadInputs T.xi_BadInputs T.xt_BadInputs (ok_BadInputs_init T) (hr.mono (by decide)) T.b_BadInputs___init__ .nil pass0 rfl T.m_BadInputs (pa_cons (pe_un un_neg pe_int) (pa_cons pe_str pa_nil)))))
    pss_nil)
  (pss_cons (ps_for (passes_of rfl) rfl (pi_or (pi_enum (by rfl) T.z_enumerate (pa_cons (pv 0) pa_nil)) (pi_enumT (by rfl) T.z_enumerate (pa_cons (pv 0) pa_nil))) (pg_tup rfl (pgs_cons (pg_name (i := 3) sc_check_inputs.nd rfl (by first | exact Or.inl rfl | exact Or.inr rfl)) (pgs_cons (pg_name (i := 4) sc_check_inputs.nd rfl (by first | exact Or.inl rfl | exact Or.inr rfl)) pgs_nil))) (pss_one (ps_if (pt_not (pt_val (pe_call (ok_is_within T) (hr.mono (by decide)) rfl T.m_is_within T.F_is_within.kp T.b_is_within .nil pass0 (pa_cons (pv 4) (pa_cons pe_int (pa_cons (pe_op op_sub (pe_op op_shl pe_int (pv 2)) pe_int) pa_nil)))))) (pss_one (ps_raise rfl (takes_of rfl rfl rfl rfl) (pmk_oex T.x_BadInputs T.xi_BadInputs T.xt_BadInputs (ok_BadInputs_init T) (hr.mono (by decide)) T.b_BadInputs___init__ .nil pass0 rfl T.m_BadInputs (pa_cons (pv 3) (pa_cons pe_str pa_nil)))))
    pss_nil)))
  (pss_one (ps_ret (pe_callTy call_tuple_of (by rfl) T.z_tuple (by decide +kernel) (pa_cons (pv 0) pa_nil)))))), ?_⟩
    walk_at "sm"
    refine ⟨x, rfl, hx, fun H1 e1 => ⟨_, rfl, ?_⟩⟩
    rcases k with ⟨hs, k⟩ | ⟨p, xs, rfl, hp, hl, hpl, k1, k2⟩
    · rw [hs]
      exact iteT (mk2 fun d H' e' q => k d H' (e1.trans e') q)
    · refine iteF ⟨p, rfl, xs, (hp.go e1).sq, ?_⟩
      refine ite2 (fun hne => mk2 fun d H' e' q => k1 (fun z => by rw [z] at hne; simp at hne) d H' (e1.trans e') q) fun heq => ?_
      have heq2 : xs.length = m := by
        have : ¬ (decide ((xs.length : Int) = (m : Int)) = false) := fun z => heq (by rw [z]; rfl)
        have h3 : decide ((xs.length : Int) = (m : Int)) = true := by cases h : decide ((xs.length : Int) = (m : Int)) with
          | true => rfl
          | false => exact absurd h this
        have := of_decide_eq_true h3
        omega
      obtain ⟨kb, kg⟩ := k2 heq2
      obtain ⟨t1, t2⟩ := two_le hw
      have turn : ∀ i HX Tt y v3 v4, i < xs.length → ivCI H1 xs m wd (.ref p) (okW wd) i [some (.ref p), some (.int m), some (.int wd), v3, v4] HX → HX Tt = none → xs[i]? = some y →
          ∃ x, SqT K (upd HX Tt (.tup [.int (i : Nat), y])) Tt x ∧ x.length = 2 ∧ ∃ v r, x = v :: r ∧ ∃ v1 r1, r = v1 :: r1 ∧ r1 = [] ∧ CPow 1 (wd : Int) ∧ spWithin [v1, .int 0, .int (1 * 2 ^ (wd : Int).toNat - 1)] (upd HX Tt (.tup [.int (i : Nat), y]))
            (fun x H2 => ∃ c, x = V.bl c ∧ if (!c) = true then mkO a.c_BadInputs (spInit2 a.c_BadInputs "index" "what") [] [v, .str "word"] H2 fun cls d H' => E cls d H'
              else ivCI H1 xs m wd (.ref p) (okW wd) (i + 1) [some (.ref p), some (.int m), some (.int wd), some v, some v1] H2) E0 := by
        rintro i HX Tt y v3 v4 hi ⟨_, _, _, x1, hg⟩ hT hy
        have eT := Evl.Ex.new (o := .tup [.int (i : Nat), y]) hT
        refine ⟨_, SqT.of upd_same, rfl, _, _, rfl, _, _, rfl, rfl, ⟨by omega, by omega, by decide⟩, y, 0, _, rfl, (hpl y (List.mem_of_getElem? hy)).go (e1.trans (x1.trans eT)), _, rfl, ?_⟩
        have ew : wiB y 0 (1 * 2 ^ (wd : Int).toNat - 1) = okW wd y := by rw [Int.toNat_natCast, Int.one_mul]; rfl
        rw [ew]
        cases hw2 : okW wd y with
        | false => exact iteT (mk2 fun d H' e' q => kb i y hy hg hw2 d H' (((e1.trans x1).trans eT).trans e') q)
        | true =>
          refine iteF ⟨_, _, rfl, x1.trans eT, fun j z hj hz => ?_⟩
          rcases Nat.lt_or_eq_of_le (Nat.le_of_lt_succ hj) with h | rfl
          · exact hg j z h hz
          · rw [hy] at hz; cases hz; exact hw2
      have fin : ∀ HX, Evl.Ex H1 HX → (∀ (j : Nat) (y : V), j < xs.length → xs[j]? = some y → okW wd y = true) → ∃ x, (SqL K HX p x ∧ ∀ (l : Addr), HX l = none → Q (V.ref l) (upd HX l (HO.tup x))) ∨ SqT K HX p x ∧ Q (V.ref p) HX := by
        intro HX x1 hg
        have hall : xs.all (okW wd) = true := List.all_eq_true.mpr fun y hy => by
          obtain ⟨j, hj⟩ := List.mem_iff_getElem?.mp hy
          exact hg j y (List.getElem?_eq_some_iff.mp hj).1 hj
        rcases hp.go (e1.trans x1) with q | q
        · exact ⟨xs, .inr ⟨SqT.of q, kg hall p HX (e1.trans x1) q⟩⟩
        · exact ⟨xs, .inl ⟨SqL.of q, fun l hl => kg hall l _ ((e1.trans x1).trans (Evl.Ex.new hl)) upd_same⟩⟩
      rcases hp.go e1 with q | q
      · refine .inr ⟨_, rfl, p, xs, rfl, SqT.of q, for_en (n := xs.length) (ivCI H1 xs m wd (.ref p) (okW wd)) ⟨none, none, rfl, Evl.Ex.refl _, fun j y hj => absurd hj (Nat.not_lt_zero _)⟩ (fun i σ HX hi ⟨_, _, _, x1, _⟩ => ⟨xs, xs[i], SqT.of (x1 _ _ q), List.getElem?_eq_getElem hi⟩) (fun σ HX ⟨_, _, _, x1, _⟩ => ⟨xs, SqT.of (x1 _ _ q), rfl⟩) ?_ ?_⟩
        · rintro i σ HX x HY hi ⟨v3, v4, rfl, x1, hg⟩ ⟨Tt, y, rfl, hT, rfl, hy⟩
          walk_at "sm"
          exact turn i HX Tt y v3 v4 hi ⟨_, _, rfl, x1, hg⟩ hT (hy xs (SqT.of (x1 _ _ q)))
        · rintro σ HX ⟨v3, v4, rfl, x1, hg⟩
          walk_at "sm"
          exact fin HX x1 hg
      · refine .inl ⟨_, rfl, p, xs, rfl, SqL.of q, for_en (n := xs.length) (ivCI H1 xs m wd (.ref p) (okW wd)) ⟨none, none, rfl, Evl.Ex.refl _, fun j y hj => absurd hj (Nat.not_lt_zero _)⟩ (fun i σ HX hi ⟨_, _, _, x1, _⟩ => ⟨xs, xs[i], SqL.of (x1 _ _ q), List.getElem?_eq_getElem hi⟩) (fun σ HX ⟨_, _, _, x1, _⟩ => ⟨xs, SqL.of (x1 _ _ q), Nat.le_refl _⟩) ?_ ?_⟩
        · rintro i σ HX x HY hi ⟨v3, v4, rfl, x1, hg⟩ ⟨Tt, y, rfl, hT, rfl, hy⟩
          walk_at "sm"
          exact turn i HX Tt y v3 v4 hi ⟨_, _, rfl, x1, hg⟩ hT (hy xs (SqL.of (x1 _ _ q)))
        · rintro σ HX ⟨v3, v4, rfl, x1, hg⟩
          walk_at "sm"
          exact fin HX x1 hg
end


/-! ### set(a list or tuple of ints), len of it, sorted of it -/
abbrev noInts (w : World) : Obj := { cls := .type "set", dict := none, data := .set #[] 0 (.fresh 0 0 (!w.params.followText "set-order")) }
section
variable {s : Shared} {A : Around} {E : Value → Shared → Prop} {P : Program} {w : World}
set_option maxRecDepth 100000 in
set_option maxHeartbeats 3200000 in
theorem call_setI {q : Addr} {items : Array Value} (ns : List Int) {Q : Value → Shared → Prop} (hh : A.handled = none) (hq : s.heap.IsList q items) (hv : IntsAre items.toList ns) (hb : ns.length + 1 < scanBound)
    (fin : ∀ (h' : Heap) (tk : Nat), (∃ c, c ≤ ns.length ∧ SetR w h' s.heap.objs.size (fun j => decide (j ∈ ns)) c) → (∀ b o, s.heap.get? b = some o → h'.get? b = some o) → Q (.ref s.heap.objs.size) { s with heap := h', toks := tk }) :
    wpAny (model P w) A (call (.type "set") [.ref q]) Q E s := by
  have len : items.size = ns.length := by
    have q := IntsAre.length hv
    rw [Array.length_toList] at q
    exact q
  obtain ⟨c, tl, mro⟩ := F.called_set.mro
  have k1 := F.called_set.made
  have k2 := F.called_set.sub
  have k3 := F.called_set.notType
  have k4 := F.called_set.canCreate
  have k5 := F.typeCall_set_1 (.ref q)
  refine wpAny_call (codeAny_of_tree ?_)
  show wpAny _ _ (callAny (.type "set") _) _ _ _
  refine wpAny_pure ⟨Code.quiet_builtin _ (by decide +kernel), ?_⟩
  refine codeAny_builtin F.entry_type_call ?_
  rw [Around.under_plain (weight_type_call_type "set" [.ref q] []) rfl]
  repeat (any_goals (first | assumption | wp_step))
  refine codeAny_mono (code_set_led1 (.ref q) (E := E) (Q₁ := fun obj s1 => obj = .ref s.heap.objs.size ∧ s1 = { s with heap := s.heap.push (noInts w) }) ⟨rfl, rfl⟩) fun r s1 hr => ?_
  cases r with
  | error e => exact hr
  | ok fl =>
    cases fl with
    | ret obj =>
      obtain ⟨rfl, rfl⟩ := hr
      have n1 : (s.heap.push (noInts w)).get? s.heap.objs.size = some (noInts w) := Heap.get?_push_size _ rfl
      have n2 : Shared.TypeIs { s with heap := s.heap.push (noInts w) } (.ref s.heap.objs.size) "set" := ⟨_, n1, rfl⟩
      have n3 := F.called_set.init.lookup
      have n4 := F.called_set.init.bind (.ref s.heap.objs.size)
      repeat (any_goals (first | assumption | wp_step))
      refine codeAny_mono (codeAny_call_builtin (R := wants (fun r s2 => r = .none ∧ ∃ h' tk, s2 = { s with heap := h', toks := tk } ∧ (∃ c, c ≤ ns.length ∧ SetR w h' s.heap.objs.size (fun j => decide (j ∈ ns)) c) ∧ (∀ b o, s.heap.get? b = some o → h'.get? b = some o)) E)
        F.called_set.init.plain F.entry_set_init (check_set_init_1 n2 ?_)) fun r2 s2 hr2 => ?_
      · obtain ⟨o, ho, oc, n, od⟩ := hq
        obtain ⟨ocl, odi, oda, osl⟩ := o
        simp only at oc od
        subst oc; subst od
        have ho2 : (s.heap.push (noInts w)).get? q = some { cls := .type "list", dict := odi, data := .seq items n, slots := osl } := Heap.get?_push_of_some _ ho
        have m1 := F.sub_list_set
        have m2 := F.sub_list_frozenset
        have m3 : (Value.type "list" == Value.type "dict") = false := by decide
        have lq : (s.heap.push (noInts w)).IsList q items := ⟨_, ho2, rfl, n, rfl⟩
        unfold Builtin.«set.__init__»
        unfold noKeywords Builtin.Frozenset.updateFrom
        generalize hPI : pyIter = PI
        wp_walk
        subst hPI
        refine wpAny_pyIter_list lq ?_
        refine wpAny_bind (wpAny_runValue ?_)
        have lt : q < s.heap.objs.size := Heap.lt_size ho
        have h3 : A.in1.in1.in1.handled = none := by simp [hh]
        have ne : q ≠ (s.heap.push (noInts w)).objs.size := by
          rw [Heap.size_push]; exact Nat.ne_of_lt (Nat.lt_succ_of_lt lt)
        have nf : s.heap.objs.size ∉ [(s.heap.push (noInts w)).objs.size, q] := by
          rw [Heap.size_push]
          simp only [List.mem_cons, List.mem_singleton, List.not_mem_nil, or_false, not_or]
          exact ⟨Nat.ne_of_lt (Nat.lt_succ_self _), Nat.ne_of_gt lt⟩
        have val : ∀ (i : Nat) (v : Value), items[i]? = some v → ∃ k t, ns[i]? = some k ∧ v = .int k t := fun i v e => by
          have lt2 : i < ns.length := by rw [← len]; exact (Array.getElem?_eq_some_iff.mp e).1
          obtain ⟨t, ev⟩ := PyProof.Rows.IntsAre.int_at hv i v (by rw [Array.getElem?_toList]; exact e)
          refine ⟨ns[i], t, List.getElem?_eq_getElem lt2, ?_⟩
          rw [ev, List.getD_eq_getElem?_getD, List.getElem?_eq_getElem lt2] <;> rfl
        refine set_update_ints ((Walks.list h3 _ q ne items).toS) s.heap.objs.size nf ns len hb val (items.size - 0) 0 _ (by omega) (Nat.zero_le _) ⟨⟨_, Heap.get?_push_size _ rfl, rfl, rfl⟩, (lq.push _)⟩ ?st0 ?stR
        case st0 => exact ⟨0, Nat.le_refl 0, setR_new_at (Heap.get?_push_of_some _ n1)⟩
        case stR =>
          intro s' c' mv gc gs
          obtain ⟨h', g2, d2, t2, os2⟩ := s'
          obtain rfl : g2 = s.gens := mv.gens
          obtain rfl : d2 = s.drawn := mv.drawn
          obtain rfl : os2 = s.os := mv.os
          show wpAny _ _ _ _ _ _
          refine wpAny_pure ?_
          show wpAny _ _ (ret Value.none) _ _ _
          rw [len] at gc
          refine wpAny_pure ⟨rfl, h', t2, rfl, ⟨c', gc, gs⟩, fun b o e => ?_⟩
          have lb := Heap.lt_size e
          refine mv.heap b o ?_ (Heap.get?_push_of_some _ (Heap.get?_push_of_some _ e))
          rw [Heap.size_push]
          simp only [List.mem_cons, List.mem_singleton, List.not_mem_nil, or_false, not_or]
          exact ⟨Nat.ne_of_lt lb, Nat.ne_of_lt (Nat.lt_succ_of_lt lb)⟩
      · cases r2 with
        | error e => exact hr2
        | ok f2 =>
          cases f2 with
          | ret r =>
            obtain ⟨rfl, h', tk, rfl, g, kp⟩ := hr2
            repeat (any_goals (first | assumption | wp_step))
            exact fin _ _ g kp
          | _ => exact hr2.elim
    | _ => exact hr.elim
end
/-- distinct ints: as many as there are -/
theorem setR_count {w : World} {h : Heap} {a : Addr} {ns : List Int} {c : Nat} (R : SetR w h a (fun j => decide (j ∈ ns)) c) (nd : ns.Nodup) : c = ns.length := by
  obtain ⟨o, es, ep, t, _, _, _, _, nd2, hm, _, _, hc, _⟩ := R
  have pm : (es.toList.map keyOf).Perm ns := (List.perm_ext_iff_of_nodup nd2 nd).mpr fun k => by
    rw [← hm k, decide_eq_true_eq]
  have := pm.length_eq
  rw [List.length_map, Array.length_toList] at this
  omega
section
variable {X : Cx}
def rSetI (K : PySem.W.Frag) (w : World) : List V → Hp → VK → Prop := fun xs H Q => ∃ (q : Addr) (ns : List Int), xs = [.ref q] ∧ (SqL K H q (ns.map V.int) ∨ SqT K H q (ns.map V.int)) ∧ ns.length < 64 ∧
  ∀ p c, c ≤ ns.length → (ns.Nodup → c = ns.length) → H p = none → Q (.ref p) (upd H p (SetO w p (fun j => decide (j ∈ ns)) c))
theorem call_setIs (hc : X.calm = true) : CallR X (.type "set") (rSetI X.K X.w) := by
  intro pins s σ H xs us Q I r h
  obtain ⟨q, ns, rfl, hq, h64, z⟩ := h
  obtain ⟨u, rfl, rx⟩ := vals1 r
  cases rx
  have hb : ns.length + 1 < scanBound := Nat.lt_of_le_of_lt (show ns.length + 1 ≤ 64 by omega) (by decide)
  have fin : ∀ (h' : Heap) (tk c : Nat), SetR X.w h' s.heap.objs.size (fun j => decide (j ∈ ns)) c → c ≤ ns.length → (∀ b o, s.heap.get? b = some o → h'.get? b = some o) → EP X pins σ Q (.ref s.heap.objs.size) { s with heap := h', toks := tk } := fun h' tk c g gc kp =>
    ⟨.ref s.heap.objs.size, upd H s.heap.objs.size (SetO X.w s.heap.objs.size (fun j => decide (j ∈ ns)) c), I.laid (t' := tk) kp (Nat.le_refl _) (setO_new g), rfl, z _ c gc (setR_count g) (I.hok.fresh (Nat.le_refl _))⟩
  rcases hq with hq | hq
  · obtain ⟨its, rv, pl, hz⟩ := I.list hq
    exact call_setI ns (I.ok.hd hc) pl.isList (ints_of_vals rv) hb fun h' tk ⟨c, gc, g⟩ kp => fin h' tk c g gc kp
  · obtain ⟨its, rv, pt, hz⟩ := I.tuple hq
    exact call_set_tupI ns (I.ok.hd hc) (show s.heap.IsTuple q its.toArray from pt) (ints_of_vals rv) hb fun h' tk c g gc kp => fin h' tk c g gc kp
theorem call_lenS : CallR X (.builtin "len") (fun xs H Q => ∃ (a : Addr) (S : Int → Bool) (n : Nat), xs = [.ref a] ∧ H a = some (SetO X.w a S n) ∧ Q (.int n) H) := by
  intro pins s σ H xs us Q I r h
  obtain ⟨a, S, n, rfl, ha, q⟩ := h
  obtain ⟨u, rfl, rx⟩ := vals1 r
  cases rx
  obtain ⟨o, es, ep, t, ho, hx, hd, _, _, _, hb, hf, hn, _⟩ := setO_get I ha
  refine Calls.call_function_entry PySem.kind_len PySem.plain_len PySem.entry_len (PySem.args_len1 _) ?_
  refine wpAny_len_body_set ho hx hd hf (by unfold scanBound at hb; omega) ?_
  rw [hn]
  exact ⟨.int n, H, I.tok _, ⟨_, rfl⟩, q⟩
end


/-! ### operands -/
theorem ix_kd {X : Cx} {d : Addr} {es : Array DictEntry} {n : Nat} (D : KDict X.K X.w d es n) : IxR X (fun x y H Q => ∃ (z : Str) (u0 : Value) (v0 : V), x = .ref d ∧ y = .str z ∧ PySem.W.nsIn X.K d z = some (some u0) ∧ RelV v0 u0 ∧ Q v0 H) := by
  intro value slice pins s σ H x y v u Q I rx ry h hs
  obtain ⟨z, u0, v0, rfl, rfl, e, r, q⟩ := h
  cases rx
  obtain ⟨t, rfl⟩ := ry
  exact subscriptTail_builtinR (x := u0) (kd_type D I) PySem.F.slot_dict_getitem.lookup (wpAny_getItem_of (PySem.strKind_is X.prog X.w z t) (PySem.W.mapOf_K (prog := X.prog) I.kIn D.at_ D.lit) (PySem.W.find_K D.at_ e) ⟨rfl, v0, H, I.tok _, r, q⟩) hs
/-- the table of the operands' ends -/
structure Txo (w : World) (K : PySem.W.Frag) (a : Ad) : Prop where
  at_ : ∃ es n, K.lookup a.p_OPERAND_ENDS = some ⟨.type "dict", none, .dict es n, #[]⟩ ∧ PySem.W.KeysLit w.params es.toList
  low : (a.p_OPERAND_ENDS == sysModules) = false
  pl : ∃ u, PySem.W.nsIn K a.p_OPERAND_ENDS "place" = some (some u) ∧ RelV (.int 199) u
  gi : ∃ u, PySem.W.nsIn K a.p_OPERAND_ENDS "given" = some (some u) ∧ RelV (.int 5) u
  nu : ∃ u, PySem.W.nsIn K a.p_OPERAND_ENDS "number" = some (some u) ∧ RelV (.int 4095) u
  wd : PySem.W.nsIn K a.p_OPERAND_ENDS "word" = some none
theorem Txo.kd {w : World} {K : PySem.W.Frag} {a : Ad} (D : Txo w K a) : KDict K w a.p_OPERAND_ENDS D.at_.choose D.at_.choose_spec.choose := ⟨D.at_.choose_spec.choose_spec.1, D.at_.choose_spec.choose_spec.2, D.low⟩
/-- an operand -/
inductive Opd | pl (n : Nat) | gi (n : Nat) | nu (n : Nat)
deriving DecidableEq
def Opd.sg : Opd → Str
  | .pl _ => "place" | .gi _ => "given" | .nu _ => "number"
def Opd.n : Opd → Nat
  | .pl n => n | .gi n => n | .nu n => n
def Opd.end_ : Opd → Nat
  | .pl _ => 199 | .gi _ => 5 | .nu _ => 4095
def Opd.ok (o : Opd) : Prop := o.n ≤ o.end_
def OpAt (H : Hp) (p : Addr) (o : Opd) : Prop := H p = some (.tup [.str o.sg, .int o.n])
theorem OpAt.go {H H' : Hp} {p : Addr} {o : Opd} (e : Evl.Ex H H') (h : OpAt H p o) : OpAt H' p o := e _ _ h
/-- a word that stands before an operand's number -/
def EndS (s : Str) (m : Int) : Prop := (s = "place" ∧ m = 199) ∨ (s = "given" ∧ m = 5) ∨ (s = "number" ∧ m = 4095)
theorem Txo.at_end {w : World} {K : PySem.W.Frag} {a : Ad} (D : Txo w K a) {s : Str} {m : Int} (h : EndS s m) : ∃ u, PySem.W.nsIn K a.p_OPERAND_ENDS s = some (some u) ∧ RelV (.int m) u := by
  rcases h with ⟨rfl, rfl⟩ | ⟨rfl, rfl⟩ | ⟨rfl, rfl⟩
  · exact D.pl
  · exact D.gi
  · exact D.nu
theorem Opd.ends (o : Opd) : EndS o.sg o.end_ := by
  cases o
  · exact .inl ⟨rfl, rfl⟩
  · exact .inr (.inl ⟨rfl, rfl⟩)
  · exact .inr (.inr ⟨rfl, rfl⟩)
/-- is this an operand? -/
def OpV (H : Hp) (x : V) (b : Bool) : Prop := (b = false ∧ (x = .non ∨ (∃ i, x = .int i) ∨ (∃ s, x = .str s) ∨ ∃ p xs, x = .ref p ∧ H p = some (.tup xs) ∧ xs.length ≤ 100 ∧ (xs.length ≠ 2 ∨ (∃ i z, xs = [.int i, z]) ∨ ∃ z, xs = [.str "word", z]))) ∨
  ∃ p s z m, x = .ref p ∧ H p = some (.tup [.str s, z]) ∧ EndS s m ∧ PlainV H z ∧ b = wiB z 0 m
theorem OpV.go {H H' : Hp} {x : V} {b : Bool} (e : Evl.Ex H H') (h : OpV H x b) : OpV H' x b := by
  rcases h with ⟨h1, h | h | h | ⟨p, xs, h2, h3, h4⟩⟩ | ⟨p, s, z, m, h1, h2, h3, h4, h5⟩
  · exact .inl ⟨h1, .inl h⟩
  · exact .inl ⟨h1, .inr (.inl h)⟩
  · exact .inl ⟨h1, .inr (.inr (.inl h))⟩
  · exact .inl ⟨h1, .inr (.inr (.inr ⟨p, xs, h2, e _ _ h3, h4⟩))⟩
  · exact .inr ⟨p, s, z, m, h1, e _ _ h2, h3, h4.go e, h5⟩
theorem OpAt.opv {H : Hp} {p : Addr} {o : Opd} (h : OpAt H p o) (k : o.ok) : OpV H (.ref p) true := by
  refine .inr ⟨p, o.sg, .int o.n, o.end_, rfl, h, o.ends, plain_int, ?_⟩
  unfold Opd.ok at k
  show true = (decide ((0 : Int) ≤ (o.n : Int)) && decide ((o.n : Int) ≤ (o.end_ : Int)))
  rw [decide_eq_true (show (0 : Int) ≤ (o.n : Int) by omega), decide_eq_true (show (o.n : Int) ≤ (o.end_ : Int) by omega)]
  rfl
theorem iteT' {c : Bool} {A B : Prop} (h : c = true) (a : A) : if c = true then A else B := by rw [if_pos h]; exact a
theorem iteF' {c : Bool} {A B : Prop} (h : c = false) (b : B) : if c = true then A else B := by rw [h]; exact b
section
variable {P : Program} {w : World} {K : PySem.W.Frag} {mg : Str → Option Value} {base : Heap} {a : Ad}
def spIO : Sp := fun vs H Q _ => ∃ x b, vs = [x] ∧ OpV H x b ∧ Q (.bl b) H
theorem ok_is_operand (T : Txt K mg a) (D : Txo w K a) : FnOk P w K mg base CX0 3 a.f_is_operand a.d_is_operand ["thing"] spIO := by
  refine T.F_is_operand.ok sc_is_operand (fun vs H Q E h => ?_) (fun cdv A outer s H vs Q E hr h => ?_)
  · obtain ⟨_, _, rfl, _⟩ := h
    rfl
  · obtain ⟨x, b, rfl, hx, k⟩ := h
    refine ⟨_, (pss_cons (ps_if (PW.pt (pw_or (pt_not (pt_val (pe_callB call_isi (by rfl) T.z_isinstance (by decide +kernel) (pa_cons (pv 0) (pa_cons (pe_bltn (v := .ty "tuple") (by rfl) T.z_tuple (by decide +kernel) rfl) pa_nil))))) (pw_or (pt_cmpR op_ne (pe_callB call_len_seq (by rfl) T.z_len (by decide +kernel) (pa_cons (pv 0) pa_nil)) pe_int (nomark _)) (pw_or1 (pt_not (pt_val (pe_callB call_isi (by rfl) T.z_isinstance (by decide +kernel) (pa_cons (pe_ix ix_tup (pv 0) pe_int (fun _ _ => rfl)) (pa_cons (pe_bltn (v := .ty "str") (by rfl) T.z_str (by decide +kernel) rfl) pa_nil))))))))) (pss_one (ps_ret pe_bl))
    pss_nil)
  (pss_one (ps_ret (pe_and (pe_cmpR (op_in_kd D.kd) (pe_ix ix_tup (pv 0) pe_int (fun _ _ => rfl)) (pe_glob rfl T.g_OPERAND_ENDS.choose_spec.1 T.g_OPERAND_ENDS.choose_spec.2) (by rfl)) (pe_one (pe_call (ok_is_within T) (hr.mono (by decide)) rfl T.m_is_within T.F_is_within.kp T.b_is_within .nil pass0 (pa_cons (pe_ix ix_tup (pv 0) pe_int (fun _ _ => rfl)) (pa_cons pe_int (pa_cons (pe_ix (ix_kd D.kd) (pe_glob rfl T.g_OPERAND_ENDS.choose_spec.1 T.g_OPERAND_ENDS.choose_spec.2) (pe_ix ix_tup (pv 0) pe_int (fun _ _ => rfl)) (fun _ _ => rfl)) pa_nil))))))))), ?_⟩
    walk_at "sm"
    rcases hx with ⟨rfl, rfl | ⟨i, rfl⟩ | ⟨t, rfl⟩ | ⟨p, xs, rfl, hp, hl, hx⟩⟩ | ⟨p, t, z, m, rfl, hp, he, hz, rfl⟩
    · exact isi_ty (t := "NoneType") (b := false) (.base .non) (by decide +kernel) ⟨_, rfl, iteT k⟩
    · exact isi_ty (t := "int") (b := false) (.base (.int _)) (by decide +kernel) ⟨_, rfl, iteT k⟩
    · exact isi_ty (t := "str") (b := false) (.base (.str _)) (by decide +kernel) ⟨_, rfl, iteT k⟩
    · refine isi_ty (t := "tuple") (b := true) (.base (.tup hp)) (by decide +kernel) ⟨_, rfl, iteF ⟨p, rfl, xs, .inr (SqT.of hp), ?_⟩⟩
      rcases hx with hx | ⟨i, z, rfl⟩ | ⟨z, rfl⟩
      · exact iteT' (by rw [decide_eq_false (show ¬ ((xs.length : Int) = 2) by omega)]; rfl) k
      · exact iteF (ix0 hp (isi_ty (t := "int") (b := false) (.base (.int _)) (by decide +kernel) ⟨_, rfl, iteT k⟩))
      · exact iteF (ix0 hp (isi_ty (t := "str") (b := true) (.base (.str _)) (by decide +kernel) ⟨_, rfl, iteF (ix0 hp ⟨_, rfl, _, D.wd, iteF k⟩)⟩))
    · refine isi_ty (t := "tuple") (b := true) (.base (.tup hp)) (by decide +kernel) ⟨_, rfl, iteF ⟨p, rfl, _, .inr (SqT.of hp), iteF (ix0 hp (isi_ty (t := "str") (b := true) (.base (.str _)) (by decide +kernel) ⟨_, rfl, iteF (ix0 hp ?_)⟩))⟩⟩
      obtain ⟨u, hu, ru⟩ := D.at_end he
      exact ⟨_, rfl, _, hu, iteT (ix1 hp (ix0 hp ⟨_, rfl, u, hu, _, ru, z, 0, m, rfl, hz, k⟩))⟩
theorem ok_checked_kind (T : Txt K mg a) : FnOk P w K mg base (L2.CX P w) 6 a.f_checked_kind a.d_checked_kind ["kind"] (spCK a.c_BadStep) := by
  refine T.F_checked_kind.okX sc_checked_kind (fun vs H Q E h => ?_) (fun cdv A outer s H vs Q E hr h => ?_)
  · obtain ⟨_, rfl, _⟩ | ⟨_, _, rfl, _⟩ := h <;> rfl
  · refine ⟨_, (pss_one (L2H.ps_try_onlyX rfl rfl ⟨rfl, by decide, Or.inl T.m_BadKind⟩ (fun hd => L2H.passesAt_of rfl hd) (takes_of rfl rfl rfl rfl) (fun W pn xe tk tk2 po => (pss_one (ps_ret (pe_callS (ok_check_kind T) (hr.mono (by decide)) rfl T.m_check_kind T.F_check_kind.kp T.b_check_kind (fun σ => L2N.passAt tk σ) (pa_cons (pv 0) pa_nil))))) (fun a oe cls d pn hz hf tk3 hc => (pss_one (L2H.ps_raiseHN hc tk3 (pmk5_own0 PySem.F.excBase_ValueError T.q_BadStep T.m_BadStep T.k_BadStep (raises_own T.sb_BadStep T.ty_BadStep) rfl)))))), ?_⟩
    walk_at "sm"
    rcases h with ⟨x, rfl, hx, k⟩ | ⟨p, kd, rfl, hg, k⟩
    · exact ⟨_, rfl, .inl ⟨x, rfl, hx, fun H' e => only_true T.xe_BadKind fun _ _ => k H' e⟩⟩
    · exact ⟨_, rfl, .inr ⟨p, kd, rfl, hg, k⟩⟩
/-- the answers that is_operand gives, one by one -/
abbrev OpsV (H : Hp) : List V → List Bool → Prop := Paired (OpV H)
theorem paired_at {α β : Type} {F : α → β → Prop} : ∀ {l : List α} {m : List β} {i : Nat} {x : α}, Paired F l m → l[i]? = some x → ∃ y, m[i]? = some y ∧ F x y
  | _, _, _, _, .nil, h => by simp at h
  | _, _, 0, _, .cons f _, h => by
    simp at h
    exact ⟨_, rfl, h ▸ f⟩
  | _, _, i + 1, _, .cons _ t, h => by
    obtain ⟨y, h1, h2⟩ := paired_at (i := i) t (by simpa using h)
    exact ⟨y, by simpa using h1, h2⟩
theorem paired_len {α β : Type} {F : α → β → Prop} : ∀ {l : List α} {m : List β}, Paired F l m → l.length = m.length
  | _, _, .nil => rfl
  | _, _, .cons _ t => by rw [List.length_cons, List.length_cons, paired_len t]
def ivOps (H : Hp) (bs : List Bool) (D : Addr) (i : Nat) (H' : Hp) : Prop := Evl.Ex H H' ∧ H' D = some (.lst ((bs.take i).map V.bl))
def spCO (C : Addr) : Sp := fun vs H Q E => ∃ (kp : Addr) (kd : Kd) (ox : V), vs = [.ref kp, ox] ∧ KdAt H kp kd ∧ PlainV H ox ∧ ((sqV ox = false ∧ ∀ H', Evl.Ex H H' → E (.ref C) none H') ∨
  ∃ p xs bs, ox = .ref p ∧ SqAt H p xs ∧ xs.length ≤ 100 ∧ OpsV H xs bs ∧ (¬ (xs.length = kd.many ∧ bs.all id = true) → ∀ H', Evl.Ex H H' → E (.ref C) none H') ∧
    (xs.length = kd.many → bs.all id = true → ∀ q H', Evl.Ex H H' → H' q = some (.tup xs) → Q (.ref q) H'))
theorem ok_checked_operands (T : Txt K mg a) (D : Txo w K a) : FnOk P w K mg base (L2.CX P w) 4 a.f_checked_operands a.d_checked_operands ["kind", "operands"] (spCO a.c_BadStep) := by
  refine T.F_checked_operands.okX sc_checked_operands (fun vs H Q E h => ?_) (fun cdv A outer s H vs Q E hr h => ?_)
  · obtain ⟨_, _, _, rfl, _⟩ := h
    rfl
  · obtain ⟨kp, kd, ox, rfl, hk, hx, k⟩ := h
    refine ⟨_, (pss_cons (ps_if (PW.pt (pw_or (pt_not (pt_val (pe_call (ok_is_sequence T) (hr.mono (by decide)) rfl T.m_is_sequence T.F_is_sequence.kp T.b_is_sequence .nil pass0 (pa_cons (pv 1) pa_nil)))) (pw_or1 (pt_cmpR op_ne (pe_callB call_len_seq (by rfl) T.z_len (by decide +kernel) (pa_cons (pv 1) pa_nil)) (pe_call (ok_operand_count T) (hr.mono (by decide)) rfl T.m_operand_count T.F_operand_count.kp T.b_operand_count .nil pass0 (pa_cons (pv 0) pa_nil)) (nomark _))))) (pss_one (ps_raise rfl (takes_of rfl rfl rfl rfl) (pmk_own0 PySem.F.excBase_ValueError T.q_BadStep T.m_BadStep T.k_BadStep (raises_own T.sb_BadStep T.ty_BadStep) rfl)))
    pss_nil)
  (pss_cons (ps_if (pt_not (pt_val (pe_callB (cr_all rfl) (by rfl) T.z_all (by decide +kernel) (pa_cons (pe_lc (own := [("operand", 2)]) (g := gName 2) (tt := tYes) rfl sc_checked_operands.nd (pi_or (pi_list (pv 1)) (pi_tup (pv 1))) (blkOk_by (own := [("operand", 2)]) (N := ["kind", "operands", "operand"]) (sc := defScope s_checked_operands) (by decide +kernel)) (fun _ _ _ _ _ => pg_name (i := 2) sc_checked_operands.nd rfl (Or.inl rfl)) (fun _ _ _ _ _ => pts_nil) (fun _ _ _ _ _ => (pe_call (ok_is_operand T D) (hr.mono (by decide)) rfl T.m_is_operand T.F_is_operand.kp T.b_is_operand .nil pass0 (pa_cons (pv 2) pa_nil)))) pa_nil)))) (pss_one (ps_raise rfl (takes_of rfl rfl rfl rfl) (pmk_own0 PySem.F.excBase_ValueError T.q_BadStep T.m_BadStep T.k_BadStep (raises_own T.sb_BadStep T.ty_BadStep) rfl)))
    pss_nil)
  (pss_one (ps_ret (pe_callTy call_tuple_of (by rfl) T.z_tuple (by decide +kernel) (pa_cons (pv 1) pa_nil)))))), ?_⟩
    walk_at "sm"
    refine ⟨ox, rfl, hx, fun H1 e1 => ⟨_, rfl, ?_⟩⟩
    rcases k with ⟨hs, k⟩ | ⟨p, xs, bs, rfl, hp, hl, hb, k1, k2⟩
    · rw [hs]
      exact iteT (k _ e1)
    · refine iteF ⟨p, rfl, xs, (hp.go e1).sq, kp, kd, rfl, hk.go e1, rfl, ?_⟩
      by_cases hm : xs.length = kd.many
      · refine iteF' (by rw [hm]; simp) ?_
        have go : ∀ D i y HX, H1 D = none → xs[i]? = some y → ivOps H1 bs D i HX → gName 2 y (wipe [some (V.ref kp), some (V.ref p), none] [2]) HX fun σ2 H2 => wipe σ2 [2] = wipe [some (V.ref kp), some (V.ref p), none] [2] ∧ tYes σ2 H2 fun b H3 =>
            if b = true then tCall spIO [] E0 (tCons (tVar 2) tNil) σ2 H3 fun y H4 => ∃ acc, H4 D = some (.lst acc) ∧ acc.length < sizeLine ∧ ivOps H1 bs D (i + 1) (upd H4 D (.lst (acc ++ [y]))) else ivOps H1 bs D (i + 1) H3 := by
          rintro D i y HX hD hi ⟨f1, f2⟩
          walk_at "sm"
          obtain ⟨b, hb1, hb2⟩ := paired_at hb hi
          have li := (List.getElem?_eq_some_iff.mp hi).1
          refine ⟨y, b, rfl, (hb2.go e1).go f1, _, f2, Nat.lt_of_le_of_lt (show _ ≤ 100 by rw [List.length_map, List.length_take]; omega) (by decide), f1.mut hD, ?_⟩
          rw [upd_same, List.take_add_one, hb1, List.map_append]
          rfl
        have fin : ∀ D HX, H1 D = none → ivOps H1 bs D xs.length HX → rAll K [.ref D] HX fun x H1 =>
            ∃ c, x = V.bl c ∧ if (!c) = true then E (Value.ref a.c_BadStep) none H1 else ∃ p_2, V.ref p = V.ref p_2 ∧ ∃ x, (SqL K H1 p_2 x ∧ ∀ (l : Addr), H1 l = none → Q (V.ref l) (upd H1 l (HO.tup x))) ∨ SqT K H1 p_2 x ∧ Q (V.ref p_2) H1 := by
          rintro D HX hD ⟨f1, f2⟩
          rw [paired_len hb, List.take_length] at f2
          refine ⟨D, bs, rfl, SqL.of f2, _, rfl, ?_⟩
          have e2 := e1.trans f1
          cases ha : bs.all id with
          | false => exact iteT (k1 (fun q => by rw [ha] at q; exact absurd q.2 (by decide)) _ e2)
          | true =>
            refine iteF ⟨p, rfl, xs, ?_⟩
            rcases hp.go e2 with q | q
            · exact .inr ⟨SqT.of q, k2 hm ha _ _ e2 q⟩
            · exact .inl ⟨SqL.of q, fun l hl => k2 hm ha l _ (e2.trans (Evl.Ex.new hl)) upd_same⟩
        rcases hp.go e1 with q | q
        · exact .inr ⟨p, rfl, ⟨_, SqT.of q⟩, lcg_tup (K := K) (a := p) (xs := xs) (ivOps H1 bs) (fun D hD => ⟨Evl.Ex.new hD, upd_same⟩) (fun D i HX hD hi ⟨f1, _⟩ => SqT.of (f1 _ _ q)) (fun D i y HX hD hi h => go D i y HX hD hi h) fin⟩
        · exact .inl ⟨p, rfl, ⟨_, SqL.of q⟩, lcg_list (K := K) (a := p) (xs := xs) (ivOps H1 bs) (fun D hD => ⟨Evl.Ex.new hD, upd_same⟩) (fun D i HX hD hi ⟨f1, _⟩ => SqL.of (f1 _ _ q)) (fun D i y HX hD hi h => go D i y HX hD hi h) fin⟩
      · exact iteT' (by rw [decide_eq_false (fun q => hm (by have := V.int.inj q; omega))]; rfl) (k1 (fun q => hm q.1) _ e1)
end

local macro_rules | `(tactic| walk_at "sm") => `(tactic| try simp only [sFld, tFld, tMake, tMakeS, tSeq, tAsg, tRet, tRetN, tDrop, tOp, tUn, tVar, tC, tCB, tCons, tNil, tLst, tTup, tTest, tB, tAnd, tOr, tNot, tAndV, tOrV, tNotV, tIf, tIfS, tNext, tCont, tBreak, tCall, tCallS, WE, tXf, rI0, rI, rU, gName, gNil, gCons, gTup, gSub, tAug, tBM, tBM0, tM1, rNewStrs, tLc_eq, iRng1, iRng2, iList, iTup, tYes, wipe, List.foldl_cons, List.foldl_nil, rEq, rNe, scal, rIxS, rSlS, tSl, tPart, tNoPart, tChain, ipI, str1, tMkO_eq, L2.start, List.map_cons, List.map_nil, List.append_nil, List.cons_append, List.nil_append, List.length_cons, List.length_nil, List.drop, List.replicate, List.getElem?_cons_zero, List.getElem?_cons_succ, List.set_cons_zero, List.set_cons_succ, Option.some.injEq, V.int.injEq, V.str.injEq, V.ref.injEq, V.bl.injEq, List.cons.injEq, reduceCtorEq, false_and, and_false, exists_false, or_false, false_or, exists_eq_left', exists_eq_left, and_assoc, cx_K, exists_and_left, exists_and_right, and_true, true_and, decide_eq_true_eq, if_true, if_false, Bool.false_eq_true])

/-! ### steps -/
/-- the places that a step's operands name, ascending, each once -/
def befs (ops : List Opd) : List Nat := (List.range 200).filter fun k => decide (Opd.pl k ∈ ops)
theorem befs_mem {ops : List Opd} {k : Nat} (h : ∀ o ∈ ops, o.ok) : k ∈ befs ops ↔ Opd.pl k ∈ ops := by
  unfold befs
  rw [List.mem_filter, List.mem_range, decide_eq_true_eq]
  refine ⟨fun q => q.2, fun q => ⟨?_, q⟩⟩
  have this : k ≤ 199 := h _ q
  omega
theorem range_lt (n : Nat) : (List.range n).Pairwise (· < ·) := by first | exact List.pairwise_lt_range | exact List.pairwise_lt_range _
theorem befs_lt (ops : List Opd) : (befs ops).Pairwise (· < ·) := List.Pairwise.filter _ (range_lt 200)
/-- strictly ascending lists with the same members are one -/
theorem asc_uniq : ∀ {l m : List Int}, l.Pairwise (· < ·) → m.Pairwise (· < ·) → (∀ k, k ∈ l ↔ k ∈ m) → l = m
  | [], [], _, _, _ => rfl
  | [], y :: m, _, _, h => absurd ((h y).mpr List.mem_cons_self) (by simp)
  | x :: l, [], _, _, h => absurd ((h x).mp List.mem_cons_self) (by simp)
  | x :: l, y :: m, hl, hm, h => by
    obtain ⟨l1, l2⟩ := List.pairwise_cons.mp hl
    obtain ⟨m1, m2⟩ := List.pairwise_cons.mp hm
    have e : x = y := by
      rcases List.mem_cons.mp ((h x).mp List.mem_cons_self) with q | q
      · exact q
      · rcases List.mem_cons.mp ((h y).mpr List.mem_cons_self) with q2 | q2
        · exact q2.symm
        · have a1 := m1 x q
          have a2 := l1 y q2
          omega
    subst e
    rw [asc_uniq l2 m2 fun k => ?_]
    constructor
    · intro q
      rcases List.mem_cons.mp ((h k).mp (List.mem_cons_of_mem _ q)) with q2 | q2
      · have := l1 k q
        omega
      · exact q2
    · intro q
      rcases List.mem_cons.mp ((h k).mpr (List.mem_cons_of_mem _ q)) with q2 | q2
      · have := m1 k q
        omega
      · exact q2
abbrev nI (l : List Nat) : List Int := l.map fun n : Nat => (n : Int)
theorem ints_lt {l : List Nat} (h : l.Pairwise (· < ·)) : (nI l).Pairwise (· < ·) := by
  rw [List.pairwise_map]
  exact h.imp fun q => by exact_mod_cast q
theorem mem_ints {l : List Nat} {k : Int} : k ∈ nI l ↔ ∃ n : Nat, n ∈ l ∧ k = n := by
  rw [List.mem_map]
  exact ⟨fun ⟨n, h1, h2⟩ => ⟨n, h1, h2.symm⟩, fun ⟨n, h1, h2⟩ => ⟨n, h1, h2.symm⟩⟩
/-- the numbers of the operands that name a place -/
def plN (ops : List Opd) : List Int := ops.filterMap fun o => match o with
  | .pl n => some (n : Int)
  | _ => none
theorem plN_mem {ops : List Opd} {k : Int} : k ∈ plN ops ↔ ∃ n : Nat, Opd.pl n ∈ ops ∧ k = n := by
  unfold plN
  rw [List.mem_filterMap]
  constructor
  · rintro ⟨o, ho, e⟩
    cases o with
    | pl n => exact ⟨n, ho, (Option.some.inj e).symm⟩
    | gi n => cases e
    | nu n => cases e
  · rintro ⟨n, h1, rfl⟩
    exact ⟨_, h1, rfl⟩
theorem plN_len (ops : List Opd) : (plN ops).length ≤ ops.length := List.length_filterMap_le _ _
theorem befs_uniq {ops : List Opd} {ns : List Int} (h : ∀ o ∈ ops, o.ok) (h1 : ns.Pairwise (· < ·)) (h2 : ∀ k : Int, k ∈ ns ↔ decide (k ∈ plN ops) = true) : ns = nI (befs ops) := by
  refine asc_uniq h1 (ints_lt (befs_lt ops)) fun k => ?_
  rw [h2 k, decide_eq_true_eq, plN_mem, mem_ints]
  constructor
  · rintro ⟨n, h3, h4⟩
    exact ⟨n, (befs_mem h).mpr h3, h4⟩
  · rintro ⟨n, h3, h4⟩
    exact ⟨n, (befs_mem h).mp h3, h4⟩
/-- tuples and lists are kept -/
def Kp (H H' : Hp) : Prop := (∀ b xs, H b = some (.tup xs) → H' b = some (.tup xs)) ∧ ∀ b xs, H b = some (.lst xs) → H' b = some (.lst xs)
theorem Kp.ex {H H' : Hp} (e : Evl.Ex H H') : Kp H H' := ⟨fun _ _ h => e _ _ h, fun _ _ h => e _ _ h⟩
theorem Kp.fr {H H' : Hp} {x C dx : Addr} {fs : List (Str × V)} (hx : H x = some (.ins C dx fs)) (f : Fr x H H') : Kp H H' :=
  ⟨fun b xs h => f b _ (fun q => by rw [q, hx] at h; cases h) h, fun b xs h => f b _ (fun q => by rw [q, hx] at h; cases h) h⟩
theorem Kp.trans {H H1 H2 : Hp} (a : Kp H H1) (b : Kp H1 H2) : Kp H H2 := ⟨fun _ _ h => b.1 _ _ (a.1 _ _ h), fun _ _ h => b.2 _ _ (a.2 _ _ h)⟩
theorem PlainV.kp {H H' : Hp} {x : V} (e : Kp H H') (h : PlainV H x) : PlainV H' x := by
  rcases h with h | h | h | h | ⟨p, xs, h, q⟩ | ⟨p, xs, h, q⟩
  · exact .inl h
  · exact .inr (.inl h)
  · exact .inr (.inr (.inl h))
  · exact .inr (.inr (.inr (.inl h)))
  · exact .inr (.inr (.inr (.inr (.inl ⟨p, xs, h, e.1 _ _ q⟩))))
  · exact .inr (.inr (.inr (.inr (.inr ⟨p, xs, h, e.2 _ _ q⟩))))
theorem SqAt.kp {H H' : Hp} {p : Addr} {xs : List V} (e : Kp H H') (h : SqAt H p xs) : SqAt H' p xs := h.imp (e.1 _ _) (e.2 _ _)
theorem KdAt.kp {H H' : Hp} {p : Addr} {k : Kd} (e : Kp H H') (h : KdAt H p k) : KdAt H' p k := by
  cases k with
  | pr k => exact e.1 _ _ h
  | pick => exact e.1 _ _ h
  | same => exact e.1 _ _ h
  | sh l n => exact ⟨e.1 _ _ h.1, h.2⟩
  | tab ns => obtain ⟨t, h1, h2, h3⟩ := h; exact ⟨t, e.1 _ _ h1, e.1 _ _ h2, h3⟩
theorem OpV.kp {H H' : Hp} {x : V} {b : Bool} (e : Kp H H') (h : OpV H x b) : OpV H' x b := by
  rcases h with ⟨h1, h | h | h | ⟨p, xs, h2, h3, h4⟩⟩ | ⟨p, s, z, m, h1, h2, h3, h4, h5⟩
  · exact .inl ⟨h1, .inl h⟩
  · exact .inl ⟨h1, .inr (.inl h)⟩
  · exact .inl ⟨h1, .inr (.inr (.inl h))⟩
  · exact .inl ⟨h1, .inr (.inr (.inr ⟨p, xs, h2, e.1 _ _ h3, h4⟩))⟩
  · exact .inr ⟨p, s, z, m, h1, e.1 _ _ h2, h3, h4.kp e, h5⟩
/-- operands in a row -/
def opR (H : Hp) (x : V) (o : Opd) : Prop := ∃ q, x = .ref q ∧ OpAt H q o
def OpsAt (H : Hp) (p : Addr) (ops : List Opd) : Prop := ∃ xs, H p = some (.tup xs) ∧ Paired (opR H) xs ops
theorem opR.go {H H' : Hp} {x : V} {o : Opd} (e : ∀ b xs, H b = some (.tup xs) → H' b = some (.tup xs)) (h : opR H x o) : opR H' x o := by
  obtain ⟨q, h1, h2⟩ := h
  exact ⟨q, h1, e _ _ h2⟩
theorem OpsAt.go {H H' : Hp} {p : Addr} {ops : List Opd} (e : ∀ b xs, H b = some (.tup xs) → H' b = some (.tup xs)) (h : OpsAt H p ops) : OpsAt H' p ops := by
  obtain ⟨xs, h1, h2⟩ := h
  exact ⟨xs, e _ _ h1, Paired.mapP h2 fun _ _ q => q.go e⟩
/-- a step as data -/
structure Stp where
  kd : Kd
  ops : List Opd
def Stp.ok (s : Stp) : Prop := s.ops.length = s.kd.many ∧ ∀ o ∈ s.ops, o.ok
/-- the object of a step -/
def StpAt (C : Addr) (H : Hp) (p : Addr) (s : Stp) : Prop := ∃ dx kp op bp, H p = some (.ins C dx [("kind", .ref kp), ("operands", .ref op), ("befores", .ref bp)]) ∧ KdAt H kp s.kd ∧ OpsAt H op s.ops ∧ H bp = some (.tup ((nI (befs s.ops)).map V.int))
theorem StpAt.go {C : Addr} {H H' : Hp} {p : Addr} {s : Stp} (e : Evl.Ex H H') (h : StpAt C H p s) : StpAt C H' p s := by
  obtain ⟨dx, kp, op, bp, h1, h2, h3, h4⟩ := h
  exact ⟨dx, kp, op, bp, e _ _ h1, h2.go e, h3.go (fun _ _ q => e _ _ q), e _ _ h4⟩
theorem many_le (k : Kd) : k.many ≤ 3 := by
  cases k <;> simp [Kd.many]
def ivBef (H : Hp) (ops : List Opd) (D : Addr) (i : Nat) (H' : Hp) : Prop := Evl.Ex H H' ∧ H' D = some (.lst ((plN (ops.take i)).map V.int))
theorem plN_snoc (ops : List Opd) (o : Opd) : plN (ops ++ [o]) = plN ops ++ plN [o] := List.filterMap_append
section
variable {P : Program} {w : World} {K : PySem.W.Frag} {mg : Str → Option Value} {base : Heap} {a : Ad}
/-- what is handed in as operands -/
def BadOps (H : Hp) (kd : Kd) (ox : V) : Prop := (PlainV H ox ∧ sqV ox = false) ∨ ∃ p xs bs, ox = .ref p ∧ SqAt H p xs ∧ xs.length ≤ 100 ∧ OpsV H xs bs ∧ ¬ (xs.length = kd.many ∧ bs.all id = true)
def GoodOps (H : Hp) (s : Stp) (ox : V) : Prop := s.ok ∧ ∃ p xs, ox = .ref p ∧ SqAt H p xs ∧ Paired (opR H) xs s.ops
theorem ops_opsv {H : Hp} : ∀ {xs : List V} {ops : List Opd}, Paired (opR H) xs ops → (∀ o ∈ ops, o.ok) → OpsV H xs (ops.map fun _ => true)
  | _, _, .nil, _ => .nil
  | _, _, .cons f t, h => by
    obtain ⟨q, rfl, hq⟩ := f
    exact .cons (hq.opv (h _ List.mem_cons_self)) (ops_opsv t fun o ho => h o (List.mem_cons_of_mem _ ho))
def spSI (a : Ad) : Sp := fun vs H Q E => ∃ (x dx : Addr) (kx ox : V), vs = [.ref x, kx, ox] ∧ H x = some (.ins a.c_Step dx []) ∧
  (((BadKd H kx ∨ ∃ p kd, kx = .ref p ∧ GdAt H p kd ∧ BadOps H kd ox) ∧ ∀ H', Fr x H H' → E (.ref a.c_BadStep) none H') ∨
    ∃ p s, kx = .ref p ∧ GdAt H p s.kd ∧ GoodOps H s ox ∧ ∀ H', Fr x H H' → StpAt a.c_Step H' x s → Q .non H')
theorem ok_Step_init (T : Txt K mg a) (D : Txo w K a) : FnOk P w K mg base (L2.CX P w) 7 a.f_Step___init__ a.d_Step___init__ ["self", "kind", "operands"] (spSI a) := by
  refine T.F_Step___init__.okX sc_Step___init__ (fun vs H Q E h => ?_) (fun cdv A outer s H vs Q E hr h => ?_)
  · obtain ⟨_, _, _, _, rfl, _⟩ := h
    rfl
  · obtain ⟨x, dx, kx, ox, rfl, hx, h⟩ := h
    refine ⟨_, (pss_cons (ps_fld (pv 0) (pe_call (ok_checked_kind T) (hr.mono (by decide)) rfl T.m_checked_kind T.F_checked_kind.kp T.b_checked_kind .nil (passes_call (takes_of rfl rfl rfl rfl) (fun _ _ _ _ q => q)) (pa_cons (pv 1) pa_nil)) rfl)
  (pss_cons (ps_fld (pv 0) (pe_call (ok_checked_operands T D) (hr.mono (by decide)) rfl T.m_checked_operands T.F_checked_operands.kp T.b_checked_operands .nil (passes_call (takes_of rfl rfl rfl rfl) (fun _ _ _ _ q => q)) (pa_cons (pe_fld (pv 0) rfl) (pa_cons (pv 2) pa_nil))) rfl)
  (pss_one (ps_fld (pv 0) (pe_callTy call_tuple_of (by rfl) T.z_tuple (by decide +kernel) (pa_cons (pe_callB (cr_sortedSet rfl) (by rfl) T.z_sorted (by decide +kernel) (pa_cons (pe_callTy (call_setIs rfl) (by rfl) T.z_set (by decide +kernel) (pa_cons (pe_lc (own := [("name", 3), ("number", 4)]) (g := gTup K 2 (gCons (gName 3) (gCons (gName 4) (gNil))))  rfl sc_Step___init__.nd (pi_tup (pe_fld (pv 0) rfl)) (blkOk_by (own := [("name", 3), ("number", 4)]) (N := ["self", "kind", "operands", "name", "number"]) (sc := defScope s_Step___init__) (by decide +kernel)) (fun _ _ _ _ _ => pg_tup rfl (pgs_cons (pg_name (i := 3) sc_Step___init__.nd rfl (Or.inl rfl)) (pgs_cons (pg_name (i := 4) sc_Step___init__.nd rfl (Or.inl rfl)) pgs_nil))) (fun _ _ _ _ _ => (pts_one (pt_cmpR op_eq (pv 3) pe_str (nomark _)))) (fun _ _ _ _ _ => (pv 4))) pa_nil)) pa_nil)) pa_nil)) rfl)))), ?_⟩
    walk_at "sm"
    rcases h with ⟨hb | ⟨p, kd, rfl, hg, hb⟩, k⟩ | ⟨p, st, rfl, hg, ho, k⟩
    · exact .inl ⟨kx, rfl, hb, fun H' e => k H' (Fr.of e)⟩
    · refine .inr ⟨p, kd, rfl, hg, fun r H1 e1 hk => ?_⟩
      have hx1 := e1 _ _ hx
      refine ⟨_, _, _, hx1, T.ic_Step.cl, T.na_Step_kind, by decide, _, _, _, upd_same, T.ic_Step.cl, T.na_Step_kind, _, rfl, ?_⟩
      have f1 : Fr x H1 (upd H1 x (.ins a.c_Step dx (putF "kind" (.ref r) []))) := Fr.upd
      have f0 := (Fr.of e1).trans f1
      have p0 := Kp.fr hx f0
      refine ⟨r, kd, ox, rfl, hk.kp (Kp.fr hx1 f1), ?_, ?_⟩
      · rcases hb with ⟨h1, h2⟩ | ⟨q, xs, bs, rfl, h1, h2⟩
        · exact h1.kp p0
        · exact (h1.kp p0).plain
      · rcases hb with ⟨h1, h2⟩ | ⟨q, xs, bs, rfl, h1, h2, h3, h4⟩
        · exact .inl ⟨h2, fun H' e' => k H' (f0.trans (Fr.of e'))⟩
        · exact .inr ⟨q, xs, bs, rfl, h1.kp p0, h2, Paired.mapP h3 fun _ _ z => z.kp p0, fun _ H' e' => k H' (f0.trans (Fr.of e')), fun q1 q2 => absurd ⟨q1, q2⟩ h4⟩
    · refine .inr ⟨p, st.kd, rfl, hg, fun r H1 e1 hk => ?_⟩
      have hx1 := e1 _ _ hx
      refine ⟨_, _, _, hx1, T.ic_Step.cl, T.na_Step_kind, by decide, _, _, _, upd_same, T.ic_Step.cl, T.na_Step_kind, _, rfl, ?_⟩
      have f1 : Fr x H1 (upd H1 x (.ins a.c_Step dx (putF "kind" (.ref r) []))) := Fr.upd
      have f0 := (Fr.of e1).trans f1
      have p0 := Kp.fr hx f0
      have hx2 : upd H1 x (.ins a.c_Step dx (putF "kind" (.ref r) [])) x = some (.ins a.c_Step dx [("kind", .ref r)]) := upd_same
      have hk2 := hk.kp (Kp.fr hx1 f1)
      generalize upd H1 x (.ins a.c_Step dx (putF "kind" (.ref r) [])) = H2 at f1 f0 p0 hx2 hk2 ⊢
      obtain ⟨⟨hm, hok⟩, q, xs, rfl, hq, hxs⟩ := ho
      have lx : xs.length = st.kd.many := (paired_len hxs).trans hm
      refine ⟨r, st.kd, .ref q, rfl, hk2, (hq.kp p0).plain, .inr ⟨q, xs, _, rfl, hq.kp p0, by have := many_le st.kd; omega, ops_opsv (Paired.mapP hxs fun _ _ z => z.go p0.1) hok, fun z => absurd ⟨lx, by rw [List.all_map]; exact List.all_eq_true.mpr fun _ _ => rfl⟩ z, fun _ _ o H3 e3 hO => ?_⟩⟩
      have hx3 := e3 _ _ hx2
      have f3 := f0.trans (Fr.of e3)
      have hk3 := hk2.go e3
      have hs3 := Paired.mapP hxs fun _ _ z => z.go (p0.trans (Kp.ex e3)).1
      refine ⟨_, _, _, hx3, T.ic_Step.cl, T.na_Step_operands, (by show 1 < 1000; omega), _, _, _, upd_same, T.ic_Step.cl, T.na_Step_operands, _, rfl, o, rfl, ?_⟩
      have f4 : Fr x H3 (upd H3 x (.ins a.c_Step dx (putF "operands" (.ref o) [("kind", .ref r)]))) := Fr.upd
      have hx4 : upd H3 x (.ins a.c_Step dx (putF "operands" (.ref o) [("kind", .ref r)])) x = some (.ins a.c_Step dx [("kind", .ref r), ("operands", .ref o)]) := upd_same
      have p4 := Kp.fr hx3 f4
      have hO4 := p4.1 _ _ hO
      have hk4 := hk3.kp p4
      have hs4 := Paired.mapP hs3 fun _ _ z => z.go p4.1
      have f5 := f3.trans f4
      generalize upd H3 x (.ins a.c_Step dx (putF "operands" (.ref o) [("kind", .ref r)])) = H4 at f4 hx4 p4 hO4 hk4 hs4 f5 ⊢
      refine ⟨⟨_, SqT.of hO4⟩, lcg_tup (K := K) (a := o) (xs := xs) (ivBef H4 st.ops) (fun D hD => ⟨Evl.Ex.new hD, upd_same⟩) (fun D i HX hD hi ⟨g1, _⟩ => SqT.of (g1 _ _ hO4)) ?_ ?_⟩
      · rintro D i y HX hD hi ⟨g1, g2⟩
        obtain ⟨od, ho1, qd, rfl, hod⟩ := paired_at hs4 hi
        have hod2 := hod.go g1
        have li := (List.getElem?_eq_some_iff.mp hi).1
        walk_at "sm"
        refine ⟨_, SqT.of hod2, rfl, _, _, rfl, _, _, rfl, rfl, rfl, ?_⟩
        have tk1 : st.ops.take (i + 1) = st.ops.take i ++ [od] := by rw [List.take_add_one, ho1]; rfl
        have ll : (plN (st.ops.take i)).length ≤ 3 := by
          have h1 := plN_len (st.ops.take i)
          have h2 := many_le st.kd
          rw [List.length_take] at h1
          omega
        cases od with
        | pl n =>
          refine iteP rfl ⟨_, g2, Nat.lt_of_le_of_lt (show _ ≤ 3 by rw [List.length_map]; exact ll) (by decide), g1.mut hD, ?_⟩
          rw [upd_same, tk1, plN_snoc, List.map_append]
          rfl
        | gi n =>
          refine iteN (show ¬ (V.str "given" = V.str "place") by decide +kernel) ⟨g1, ?_⟩
          rw [tk1, plN_snoc, List.map_append]
          exact g2.trans (by simp [plN])
        | nu n =>
          refine iteN (show ¬ (V.str "number" = V.str "place") by decide +kernel) ⟨g1, ?_⟩
          rw [tk1, plN_snoc, List.map_append]
          exact g2.trans (by simp [plN])
      · rintro D HX hD ⟨g1, g2⟩
        walk_at "sm"
        rw [paired_len hs4, List.take_length] at g2
        have ll : (plN st.ops).length ≤ 3 := by
          have h1 := plN_len st.ops
          have h2 := many_le st.kd
          omega
        have fin : ∀ (ns : List Int) (H5 : Hp) (l : Addr), ns = nI (befs st.ops) → Evl.Ex H4 H5 → H5 l = none → ∃ x_4 x_5 x_6, upd H5 l (HO.tup (ns.map V.int)) x = some (HO.ins x_4 x_5 x_6) ∧ Cls K x_4 ∧ NoAttr K x_4 "befores" ∧ x_6.length < 1000 ∧
            Q V.non (upd (upd H5 l (HO.tup (ns.map V.int))) x (HO.ins x_4 x_5 (putF "befores" (V.ref l) x_6))) := by
          rintro ns H5 l rfl e5 hl
          have eA := e5.trans (Evl.Ex.new (o := .tup ((nI (befs st.ops)).map V.int)) hl)
          have hl5 : upd H5 l (HO.tup ((nI (befs st.ops)).map V.int)) l = some (HO.tup ((nI (befs st.ops)).map V.int)) := upd_same
          generalize upd H5 l (HO.tup ((nI (befs st.ops)).map V.int)) = H6 at eA hl5 ⊢
          have hx6 := eA _ _ hx4
          have p6 := Kp.fr (H' := upd H6 x (.ins a.c_Step dx [("kind", .ref r), ("operands", .ref o), ("befores", .ref l)])) hx6 Fr.upd
          refine ⟨_, _, _, hx6, T.ic_Step.cl, T.na_Step_befores, (by show 2 < 1000; omega), k _ ((f5.trans (Fr.of eA)).trans Fr.upd) ?_⟩
          exact ⟨dx, r, o, l, upd_same, (hk4.kp (Kp.ex eA)).kp p6, ⟨xs, p6.1 _ _ (eA _ _ hO4), Paired.mapP (Paired.mapP hs4 fun _ _ z => z.go (Kp.ex eA).1) fun _ _ z => z.go p6.1⟩, p6.1 _ _ hl5⟩
        exact ⟨D, plN st.ops, rfl, .inl (SqL.of g2), by omega, fun p2 c hc _ hp2 => ⟨p2, _, c, rfl, upd_same, by omega, fun ns p3 n1 n2 n3 hp3 => ⟨p3, rfl, _, .inl ⟨SqL.of upd_same, fun l hl => fin ns _ l (befs_uniq hok n1 n2) ((g1.trans (Evl.Ex.new hp2)).trans (Evl.Ex.new hp3)) hl⟩⟩⟩⟩
end


/-! ### == of own objects -/
section
variable {X : Cx} {n : Nat} {CX : CXT} {C f : Addr} {fd : FuncData} {ps : List Str} {sp : Sp} {E : XK} {A : Around} {pins : List (Addr × Obj)} {σ : L2.St} {H : Hp} {s : Shared} {a b : Addr} {R : Value → Shared → Prop}
/-- a call of the text's own __eq__ -/
theorem call_eqF (F : FnOk X.prog X.w X.K X.mg X.base CX n f fd ps sp) (hb : Binds X.K fd ps []) (hx : Passes CX X E) (sb : L2.Sub X n A) (I : Inv X pins σ H s) {Qv : VK} (h : sp [.ref a, .ref b] H Qv E)
    (q : ∀ v H' s' z, Inv X pins σ H' s' → RelV v z → Qv v H' → R z s') : wpAny (model X.prog X.w) A (call (.ref f) [.ref a, .ref b]) R X.xe s := by
  have here := I.env0
  have e0 : Env0 X.prog X.w X.K X.mg X.base A X.stack s H := { here with frames := by rw [sb.fr]; exact here.frames }
  have hl := F.len _ _ _ _ h
  have two : Vals [V.ref a, V.ref b] [Value.ref a, Value.ref b] := .cons rfl (.cons rfl .nil)
  have hbd := hb s [.ref a, .ref b] I.kIn (by simpa using hl)
  refine wpAny_call (codeAny_mono (F.run A X.stack s H ⟨[.ref a, .ref b], []⟩ [.ref a, .ref b] [.ref a, .ref b] Qv E sb.room e0 (by simpa using hbd) two h) fun r s' hq => ?_)
  cases r with
  | error e => exact hx pins σ H s e s' I hq
  | ok fl => cases fl with
    | ret w' =>
      obtain ⟨z, H', I', rz, ez⟩ := I.after hq
      exact q z H' s' w' I' rz ez
    | next => exact False.elim hq
    | brk => exact False.elim hq
    | cont => exact False.elim hq
/-- x == y of two objects with the own __eq__ -/
def rEqI (C : Addr) (sp : Sp) (E : XK) : R2 := fun x y H Q => ∃ a b dx dy fs gs, x = .ref a ∧ y = .ref b ∧ H a = some (.ins C dx fs) ∧ H b = some (.ins C dy gs) ∧ sp [.ref a, .ref b] H (fun v H' => ∃ r, v = .bl r ∧ Q (.bl r) H') E
theorem op_eqI (F : FnOk X.prog X.w X.K X.mg X.base CX n f fd ps sp) (hs : PySem.W.findIn X.K (.ref C) "__eq__" = some (some (.ref f))) (hf : PySem.W.isFn X.K (.ref f) = true) (hb : Binds X.K fd ps []) (hx : Passes CX X E) (hr : Room n X.A) : OpR X (compareOp .Eq) (rEqI C sp E) := by
  intro pins s σ H x y v u Q I rx ry h
  obtain ⟨a, b, dx, dy, fs, gs, rfl, rfl, ha, hb', h⟩ := h
  cases rx
  cases ry
  show wpAny (model X.prog X.w) X.A (richCompare .Eq (.ref a) (.ref b)) (EP X pins σ Q) X.xe s
  obtain ⟨mA, J, _⟩ := ins_get I.hok ha
  obtain ⟨mB, J', _⟩ := ins_get I.hok hb'
  obtain ⟨od, J, _⟩ := J.look
  obtain ⟨od', J', _⟩ := J'.look
  obtain ⟨m, hF⟩ := I.fr
  refine PySem.W.cmp_K (op := .Eq) (tb := .ref C) hr.units0 hF I.ok.mod.kin J J'.type (by simp [PySem.W.notFirst]) hs hf ?_
  refine call_eqF F hb hx ⟨hr, rfl⟩ I h fun v H' s' z I' rz ez => ?_
  obtain ⟨r, rfl, q⟩ := ez
  cases rz
  exact ⟨.bl r, H', I', rfl, q⟩
end
/-! ### == of steps -/
def Kd.ds (k : Kd) : List PyData := match k with
  | .pr k => [.str k.sg] | .pick => [.str "pick"] | .same => [.str "same"] | .sh l n => [.str (shS l), .int n] | .tab ns => [.str "table", .tuple ((ns.map V.int).map dV)]
theorem KdAt.its {H : Hp} {p : Addr} {k : Kd} (h : KdAt H p k) : ∃ xs, H p = some (.tup xs) ∧ itsD H xs k.ds := by
  cases k with
  | pr kk => exact ⟨_, h, .cons (.inl ⟨sg_ok (.pr kk), rfl⟩) .nil⟩
  | pick => exact ⟨_, h, .cons (.inl ⟨sg_ok .pick, rfl⟩) .nil⟩
  | same => exact ⟨_, h, .cons (.inl ⟨sg_ok .same, rfl⟩) .nil⟩
  | sh l n => exact ⟨_, h.1, .cons (.inl ⟨sg_ok (.sh l n), rfl⟩) (.cons (.inl ⟨rfl, rfl⟩) .nil)⟩
  | tab ns => obtain ⟨t, h1, h2, h3⟩ := h; exact ⟨_, h1, .cons (.inl ⟨sg_ok (.tab []), rfl⟩) (.cons (.inr ⟨t, _, rfl, ints_flat ns, .inl ⟨h2, rfl⟩⟩) .nil)⟩
theorem KdAt.ne {K : PySem.W.Frag} {H : Hp} {p q : Addr} {k : Kd} {Q : VK} (h : KdAt H p k) (h2 : KdAt H q k) (r : Q (.bl false) H) : rNeD K (.ref p) (.ref q) H Q := by
  obtain ⟨xs, e1, d1⟩ := h.its
  obtain ⟨ys, e2, d2⟩ := h2.its
  exact ne_same (d := .tuple k.ds) (.tup (SqT.of e1) d1.dp) (.tup (SqT.of e2) d2.dp) (shaped_of (lay_tup d1.lay) (by decide)) r
def Opd.D (o : Opd) : PyData := .tuple [.str o.sg, .int o.n]
def opsD (ops : List Opd) : PyData := .tuple (ops.map Opd.D)
theorem osg_ok (o : Opd) : PyData.strOk o.sg = true := by
  cases o with
  | pl n => show PyData.strOk ("place" : Str) = true; decide +kernel
  | gi n => show PyData.strOk ("given" : Str) = true; decide +kernel
  | nu n => show PyData.strOk ("number" : Str) = true; decide +kernel
theorem Opd.lay (o : Opd) : o.D.canLay0 = true ∧ o.D.depth ≤ 2 := lay_tup fun d hd => by
  rcases List.mem_cons.mp hd with rfl | hd
  · exact lay_flat (v := .str o.sg) (osg_ok o)
  · rw [List.mem_singleton.mp hd]
    exact lay_flat (v := .int o.n) rfl
theorem opsD_lay (ops : List Opd) : (opsD ops).canLay0 = true ∧ (opsD ops).depth ≤ 3 := lay_tup fun d hd => by
  obtain ⟨o, _, rfl⟩ := List.mem_map.mp hd
  exact o.lay
theorem OpAt.dp {K : PySem.W.Frag} {H : Hp} {p : Addr} {o : Opd} (h : OpAt H p o) : Dp K H (.ref p) o.D := .tup (SqT.of h) (.cons (.str _) (.cons (.int _) .nil))
theorem ops_dp {K : PySem.W.Frag} {H : Hp} : ∀ {xs : List V} {ops : List Opd}, Paired (opR H) xs ops → DpAll K H xs (ops.map Opd.D)
  | _, _, .nil => .nil
  | _, _, .cons f t => by
    obtain ⟨q, rfl, hq⟩ := f
    exact .cons hq.dp (ops_dp t)
theorem OpsAt.dp {K : PySem.W.Frag} {H : Hp} {p : Addr} {ops : List Opd} (h : OpsAt H p ops) : Dp K H (.ref p) (opsD ops) := by
  obtain ⟨xs, h1, h2⟩ := h
  exact .tup (SqT.of h1) (ops_dp h2)
theorem Opd.eqv (o u : Opd) : PyData.eqv o.D u.D = decide (o = u) := by
  have ei : ∀ x y : Nat, PyData.eqv (.int x) (.int y) = decide (x = y) := fun x y => by
    show decide ((x : Int) = (y : Int)) = _
    exact decide_eq_decide.mpr ⟨fun h => by exact_mod_cast h, fun h => by rw [h]⟩
  have split : PyData.eqv o.D u.D = (PyData.eqv (.str o.sg) (.str u.sg) && (PyData.eqv (.int o.n) (.int u.n) && true)) := rfl
  rw [split, ei, Bool.and_true]
  cases o with
  | pl n => cases u with
    | pl m => rw [show PyData.eqv (.str (Opd.pl n).sg) (.str (Opd.pl m).sg) = true from (by decide +kernel : PyData.eqv (.str "place") (.str "place") = true), Bool.true_and]; exact decide_eq_decide.mpr ⟨fun h => congrArg Opd.pl h, fun h => Opd.pl.inj h⟩
    | gi m => rw [show PyData.eqv (.str (Opd.pl n).sg) (.str (Opd.gi m).sg) = false from (by decide +kernel : PyData.eqv (.str "place") (.str "given") = false), Bool.false_and]; exact (decide_eq_false (fun h => Opd.noConfusion h)).symm
    | nu m => rw [show PyData.eqv (.str (Opd.pl n).sg) (.str (Opd.nu m).sg) = false from (by decide +kernel : PyData.eqv (.str "place") (.str "number") = false), Bool.false_and]; exact (decide_eq_false (fun h => Opd.noConfusion h)).symm
  | gi n => cases u with
    | pl m => rw [show PyData.eqv (.str (Opd.gi n).sg) (.str (Opd.pl m).sg) = false from (by decide +kernel : PyData.eqv (.str "given") (.str "place") = false), Bool.false_and]; exact (decide_eq_false (fun h => Opd.noConfusion h)).symm
    | gi m => rw [show PyData.eqv (.str (Opd.gi n).sg) (.str (Opd.gi m).sg) = true from (by decide +kernel : PyData.eqv (.str "given") (.str "given") = true), Bool.true_and]; exact decide_eq_decide.mpr ⟨fun h => congrArg Opd.gi h, fun h => Opd.gi.inj h⟩
    | nu m => rw [show PyData.eqv (.str (Opd.gi n).sg) (.str (Opd.nu m).sg) = false from (by decide +kernel : PyData.eqv (.str "given") (.str "number") = false), Bool.false_and]; exact (decide_eq_false (fun h => Opd.noConfusion h)).symm
  | nu n => cases u with
    | pl m => rw [show PyData.eqv (.str (Opd.nu n).sg) (.str (Opd.pl m).sg) = false from (by decide +kernel : PyData.eqv (.str "number") (.str "place") = false), Bool.false_and]; exact (decide_eq_false (fun h => Opd.noConfusion h)).symm
    | gi m => rw [show PyData.eqv (.str (Opd.nu n).sg) (.str (Opd.gi m).sg) = false from (by decide +kernel : PyData.eqv (.str "number") (.str "given") = false), Bool.false_and]; exact (decide_eq_false (fun h => Opd.noConfusion h)).symm
    | nu m => rw [show PyData.eqv (.str (Opd.nu n).sg) (.str (Opd.nu m).sg) = true from (by decide +kernel : PyData.eqv (.str "number") (.str "number") = true), Bool.true_and]; exact decide_eq_decide.mpr ⟨fun h => congrArg Opd.nu h, fun h => Opd.nu.inj h⟩
theorem opsD_eqv : ∀ l m : List Opd, PyData.eqvAll (l.map Opd.D) (m.map Opd.D) = decide (l = m)
  | [], [] => rfl
  | [], _ :: _ => rfl
  | _ :: _, [] => rfl
  | o :: l, u :: m => by
    show (PyData.eqv o.D u.D && PyData.eqvAll (l.map Opd.D) (m.map Opd.D)) = _
    rw [Opd.eqv, opsD_eqv l m, ← Bool.decide_and]
    exact decide_eq_decide.mpr ⟨fun h => by rw [h.1, h.2], fun h => by cases h; exact ⟨rfl, rfl⟩⟩
theorem eq_ops {K : PySem.W.Frag} {H : Hp} {p q : Addr} {l m : List Opd} {Q : VK} (h1 : OpsAt H p l) (h2 : OpsAt H q m) (r : Q (.bl (decide (l = m))) H) : rEqD K (.ref p) (.ref q) H Q := by
  refine ⟨opsD l, opsD m, h1.dp, h2.dp, shaped_of (opsD_lay l) (by decide), shaped_of (opsD_lay m) (by decide), ?_⟩
  rw [show PyData.eqv (opsD l) (opsD m) = PyData.eqvAll (l.map Opd.D) (m.map Opd.D) from rfl, opsD_eqv]
  exact r
theorem KdAt.eq {K : PySem.W.Frag} {H : Hp} {p q : Addr} {k : Kd} {Q : VK} (h : KdAt H p k) (h2 : KdAt H q k) (r : Q (.bl true) H) : rEqD K (.ref p) (.ref q) H Q := by
  obtain ⟨xs, e1, d1⟩ := h.its
  obtain ⟨ys, e2, d2⟩ := h2.its
  exact eq_same (d := .tuple k.ds) (.tup (SqT.of e1) d1.dp) (.tup (SqT.of e2) d2.dp) (shaped_of (lay_tup d1.lay) (by decide)) r
section
variable {P : Program} {w : World} {K : PySem.W.Frag} {mg : Str → Option Value} {base : Heap} {a : Ad}
def spSE (C : Addr) : Sp := fun vs H Q _ => ∃ (p q : Addr) (s t : Stp), vs = [.ref p, .ref q] ∧ StpAt C H p s ∧ StpAt C H q t ∧ s.kd = t.kd ∧ Q (.bl (decide (s.ops = t.ops))) H
theorem ok_Step_eq (T : Txt K mg a) : FnOk P w K mg base CX0 1 a.f_Step___eq__ a.d_Step___eq__ ["self", "other"] (spSE a.c_Step) := by
  refine T.F_Step___eq__.ok sc_Step___eq__ (fun vs H Q E h => ?_) (fun cdv A outer s H vs Q E hr h => ?_)
  · obtain ⟨_, _, _, _, rfl, _⟩ := h
    rfl
  · obtain ⟨p, q, st, tt, rfl, hs, ht, hk, k⟩ := h
    refine ⟨_, (pss_one (ps_ret (pe_and (pe_callB (C8.call_isC T.ic_Step) (by rfl) T.z_isinstance (by decide +kernel) (pa_cons (pv 1) (pa_cons (pe_glob (v := .ref a.c_Step) rfl T.m_Step rfl) pa_nil))) (pe_and (pe_cmpR (op_eqD hr.units) (pe_fld (pv 0) rfl) (pe_fld (pv 1) rfl) (nomark _)) (pe_one (pe_cmpR (op_eqD hr.units) (pe_fld (pv 0) rfl) (pe_fld (pv 1) rfl) (nomark _))))))), ?_⟩
    obtain ⟨d1, k1, o1, b1, s1, s2, s3, s4⟩ := hs
    obtain ⟨d2, k2, o2, b2, t1, t2, t3, t4⟩ := ht
    walk_at "sm"
    rw [← hk] at t2
    exact ⟨⟨_, _, t1⟩, _, _, _, s1, T.ic_Step.cl, T.na_Step_kind, _, rfl, _, _, _, t1, T.ic_Step.cl, T.na_Step_kind, _, rfl, s2.eq t2 ⟨_, rfl, iteT ⟨_, _, _, s1, T.ic_Step.cl, T.na_Step_operands, _, rfl, _, _, _, t1, T.ic_Step.cl, T.na_Step_operands, _, rfl, eq_ops s3 t3 k⟩⟩⟩
end
/-- two steps that are alike -/
def stR (C : Addr) (p q : Addr) (H : Hp) : Prop := ∃ s, StpAt C H p s ∧ StpAt C H q s
theorem stR_go {C p q : Addr} {H H' : Hp} (e : Ext H H') (h : stR C p q H) : stR C p q H' := by
  obtain ⟨s, h1, h2⟩ := h
  exact ⟨s, h1.go e, h2.go e⟩
section
variable {P : Program} {w : World} {K : PySem.W.Frag} {mg : Str → Option Value} {base : Heap} {a : Ad}
theorem ok_Step_eqR (T : Txt K mg a) : FnOk P w K mg base CX0 1 a.f_Step___eq__ a.d_Step___eq__ ["self", "other"] (spEq (stR a.c_Step)) := by
  refine T.F_Step___eq__.ok sc_Step___eq__ (fun vs H Q E h => ?_) (fun cdv A outer s H vs Q E hr h => ?_)
  · obtain ⟨_, _, rfl, _⟩ := h
    rfl
  · obtain ⟨p, q, rfl, ⟨st, hs, ht⟩, k⟩ := h
    refine ⟨_, (pss_one (ps_ret (pe_and (pe_callB (C8.call_isC T.ic_Step) (by rfl) T.z_isinstance (by decide +kernel) (pa_cons (pv 1) (pa_cons (pe_glob (v := .ref a.c_Step) rfl T.m_Step rfl) pa_nil))) (pe_and (pe_cmpR (op_eqD hr.units) (pe_fld (pv 0) rfl) (pe_fld (pv 1) rfl) (nomark _)) (pe_one (pe_cmpR (op_eqD hr.units) (pe_fld (pv 0) rfl) (pe_fld (pv 1) rfl) (nomark _))))))), ?_⟩
    obtain ⟨d1, k1, o1, b1, s1, s2, s3, s4⟩ := hs
    obtain ⟨d2, k2, o2, b2, t1, t2, t3, t4⟩ := ht
    walk_at "sm"
    exact ⟨⟨_, _, t1⟩, _, _, _, s1, T.ic_Step.cl, T.na_Step_kind, _, rfl, _, _, _, t1, T.ic_Step.cl, T.na_Step_kind, _, rfl, s2.eq t2 ⟨_, rfl, iteT ⟨_, _, _, s1, T.ic_Step.cl, T.na_Step_operands, _, rfl, _, _, _, t1, T.ic_Step.cl, T.na_Step_operands, _, rfl, eq_ops s3 t3 (by rw [decide_eq_true rfl]; exact k _ Ext.rfl')⟩⟩⟩
end


/-! ### sets of places as whole numbers -/
section
variable {X : Cx}
theorem ip_orN : PIp X .BitOr (fun x y H Q => ∃ n m : Nat, x = .int n ∧ y = .int m ∧ Q (.int ((n ||| m : Nat) : Int)) H) := by
  intro pins s σ H x y v u Q I r1 r2 h
  obtain ⟨n, m, rfl, rfl, q⟩ := h
  exact iop_or pins s σ H _ _ v u Q I r1 r2 ⟨n, m, rfl, rfl, by show Q (.int (Builtin.bitOr _ _)) H; rw [L2.bitOr_nn (Int.natCast_nonneg n) (Int.natCast_nonneg m), Int.toNat_natCast, Int.toNat_natCast]; exact q⟩
theorem ip_xorN : PIp X .BitXor (fun x y H Q => ∃ n m : Nat, x = .int n ∧ y = .int m ∧ Q (.int ((n ^^^ m : Nat) : Int)) H) := by
  intro pins s σ H x y v u Q I r1 r2 h
  obtain ⟨n, m, rfl, rfl, q⟩ := h
  exact iop_xor pins s σ H _ _ v u Q I r1 r2 ⟨n, m, rfl, rfl, by show Q (.int (Builtin.bitXor _ _)) H; rw [Bits.bitXor_pp (Int.natCast_nonneg n) (Int.natCast_nonneg m), Int.toNat_natCast, Int.toNat_natCast]; exact q⟩
theorem op_orN : OpR X (binaryOp .BitOr) (fun x y H Q => ∃ n m : Nat, x = .int n ∧ y = .int m ∧ Q (.int ((n ||| m : Nat) : Int)) H) := by
  intro pins s σ H x y v u Q I r1 r2 h
  obtain ⟨n, m, rfl, rfl, q⟩ := h
  exact op_or pins s σ H _ _ v u Q I r1 r2 ⟨n, m, rfl, rfl, by show Q (.int (Builtin.bitOr _ _)) H; rw [L2.bitOr_nn (Int.natCast_nonneg n) (Int.natCast_nonneg m), Int.toNat_natCast, Int.toNat_natCast]; exact q⟩
theorem op_shlK : OpR X (binaryOp .LShift) (fun x y H Q => ∃ k : Nat, x = .int 1 ∧ y = .int (k : Int) ∧ k ≤ 134217727 ∧ Q (.int ((2 ^ k : Nat) : Int)) H) := by
  intro pins s σ H x y v u Q I r1 r2 h
  obtain ⟨k, rfl, rfl, hk, q⟩ := h
  exact op_oneShl pins s σ H _ _ v u Q I r1 r2 ⟨k, rfl, rfl, hk, by rw [Int.natCast_pow] at q; exact q⟩
theorem op_shrK : OpR X (binaryOp .RShift) (fun x y H Q => ∃ n k : Nat, x = .int n ∧ y = .int (k : Int) ∧ Q (.int ((n / 2 ^ k : Nat) : Int)) H) := by
  intro pins s σ H x y v u Q I r1 r2 h
  obtain ⟨n, k, rfl, rfl, q⟩ := h
  exact op_shrN pins s σ H _ _ v u Q I r1 r2 ⟨n, k, rfl, rfl, by rw [Int.natCast_ediv, Int.natCast_pow] at q; exact q⟩
/-- what of n and its lowest bit is -/
theorem low_and {t m : Nat} : (2 ^ t * (2 * m + 1)) &&& (2 ^ t * (2 * m + 1) - 1) = 2 ^ t * (2 * m) := by
  have p : 0 < 2 ^ t := Nat.pow_pos (by decide)
  have e1 : 2 ^ t * (2 * m + 1) = 2 ^ t * (2 * m) + 2 ^ t := by rw [Nat.mul_add, Nat.mul_one]
  have e2 : 2 ^ t * (2 * m + 1) - 1 = 2 ^ t * (2 * m) + (2 ^ t - 1) := by omega
  refine Nat.eq_of_testBit_eq fun i => ?_
  rw [Nat.testBit_and, e2, Nat.testBit_two_pow_mul_add (2 * m) (show 2 ^ t - 1 < 2 ^ t by omega), Nat.testBit_two_pow_mul, Nat.testBit_two_pow_mul, Nat.testBit_two_pow_sub_one]
  by_cases h : i < t
  · rw [if_pos h, decide_eq_false (show ¬ t ≤ i by omega)]
    rfl
  · rw [if_neg h, decide_eq_true (show t ≤ i by omega), Bool.true_and, Bool.true_and]
    cases hd : i - t with
    | zero => rw [Nat.testBit_zero, Nat.testBit_zero]; simp
    | succ j => rw [Nat.testBit_succ, Nat.testBit_succ, show (2 * m + 1) / 2 = m by omega, show 2 * m / 2 = m by omega, Bool.and_self]
theorem op_low : OpR X (binaryOp .BitAnd) (fun x y H Q => ∃ n t m : Nat, x = .int (n : Int) ∧ y = .int (-(n : Int)) ∧ n = 2 ^ t * (2 * m + 1) ∧ Q (.int ((2 ^ t : Nat) : Int)) H) := by
  intro pins s σ H x y v u Q I r1 r2 h
  obtain ⟨n, t, m, rfl, rfl, hn, q⟩ := h
  refine op_and pins s σ H _ _ v u Q I r1 r2 ⟨_, _, rfl, rfl, ?_⟩
  have p : 0 < 2 ^ t := Nat.pow_pos (by decide)
  have pn : 0 < n := by rw [hn]; exact Nat.mul_pos p (by omega)
  have e : Builtin.bitAnd (n : Int) (-(n : Int)) = ((2 ^ t : Nat) : Int) := by
    unfold Builtin.bitAnd Builtin.bitNot
    rw [decide_eq_true (show (0 : Int) ≤ (n : Int) by omega), decide_eq_false (show ¬ (0 : Int) ≤ -(n : Int) by omega)]
    show (n : Int) - ((((n : Int).toNat) &&& (-(-(n : Int)) - 1).toNat : Nat) : Int) = _
    rw [show (-(-(n : Int)) - 1).toNat = n - 1 by omega, Int.toNat_natCast, hn, low_and, show 2 ^ t * (2 * m + 1) = 2 ^ t * (2 * m) + 2 ^ t by rw [Nat.mul_add, Nat.mul_one]]
    omega
  show Q (.int (Builtin.bitAnd _ _)) H
  rw [e]
  exact q
theorem bits_pow (t : Nat) : Builtin.Int.intBits (((2 ^ t : Nat) : Int)) = t + 1 := by
  have p : 0 < 2 ^ t := Nat.pow_pos (by decide)
  unfold Builtin.Int.intBits
  rw [if_neg (by simp only [beq_iff_eq]; omega), Int.natAbs_natCast, Nat.log2_two_pow]
/-! a list's item by its place, as a changed one; a tuple behind a list; one of two readings -/
def rGetL : V → V → Hp → VK → Prop := fun o i H Q => ∃ (p : Addr) (xs : List V) (k : Nat) (v : V), o = .ref p ∧ i = .int (k : Int) ∧ H p = some (.lst xs) ∧ xs[k]? = some v ∧ Q v H
theorem get_list : PGet X rGetL := by
  intro pins s σ H o i ov iv Q I ro ri h
  obtain ⟨p, xs, k, v, rfl, rfl, hp, hk, q⟩ := h
  cases ro
  obtain ⟨t, rfl⟩ := ri
  obtain ⟨its, r, pl, hz⟩ := I.list (SqL.of hp)
  obtain ⟨w, ew, rw'⟩ := r.get hk
  have hn := line63
  have hk2 := (List.getElem?_eq_some_iff.mp hk).1
  exact wpAny_getItem_list pl.isList (Int.natCast_nonneg _) (by omega) (by rw [Int.toNat_natCast]; simpa using ew) ⟨v, H, I, rw', q⟩
theorem IxR.or {r r' : R2} (h : IxR X r) (h' : IxR X r') : IxR X (fun x y H Q => r x y H Q ∨ r' x y H Q) := fun e1 e2 pins s σ H x y v u Q I rx ry q hs =>
  q.elim (fun q => h e1 e2 pins s σ H x y v u Q I rx ry q hs) fun q => h' e1 e2 pins s σ H x y v u Q I rx ry q hs
def rExtT (K : PySem.W.Frag) : V → List V → Hp → VK → Prop := fun x vs H Q => ∃ l b xs zs, x = .ref l ∧ vs = [.ref b] ∧ H l = some (.lst xs) ∧ SqT K H b zs ∧ xs.length + zs.length ≤ sizeLine ∧ Q .non (upd H l (.lst (xs ++ zs)))
theorem ext_tup (l : Addr) (items : Array Value) (n : Nat) (b : Addr) (items2 : Array Value) (n2 : Nat) (dd : Option Addr) (sl : Array (Option Value)) (hs0 : ¬ (!items.isEmpty && Builtin.List.listTooLong (items.size + items2.size)) = true) (hs1 : items.size ≤ sizeLine) (hs2 : items.size + items2.size ≤ sizeLine + 1) :
    Meets (Builtin.«list.extend» ⟨[.ref l, .ref b], []⟩) (fun _ R s => s.heap.get? l = some { cls := .type "list", dict := none, data := .seq items n, slots := #[] } ∧ s.heap.get? b = some { cls := .type "tuple", dict := dd, data := .seq items2 n2, slots := sl } ∧
      R (.ok (.ret Value.none)) { s with heap := s.heap.update l (Obj.mapSeq fun x => x ++ items2), toks := s.toks }) :=
  .of_wp fun prog w A R s h => by
    obtain ⟨hp, g, d, tk, os⟩ := s
    obtain ⟨hl, hb, h⟩ := h
    have f1 := AutoSeq1.idx_int
    have f2 := AutoSeq1.sub_tuple_tuple
    have f3 := AutoSeq1.sub_list_list
    have f4 := AutoSeq1.sub_tuple_list
    have f5 := AutoSeq1.sub_list_tuple
    have hz' : (items ++ items2).size ≤ sizeLine + 1 := by rw [Array.size_append]; exact hs2
    wp_walk using (wpAny_updateSeq hl rfl (hz := hs1) (_hz' := hz')), AutoSeq1.wpAny_loadPart' hl, AutoSeq1.wpAny_loadPart' hb
    exact ⟨_, rfl, h⟩
theorem mt_extT : MtM X "list.extend" (rExtT X.K) := by
  intro pins s σ H x vs v us Q I rx rv h
  obtain ⟨l, b, xs, zs, rfl, rfl, hH, hB, hz, q⟩ := h
  cases rx
  obtain ⟨u, rfl, ru⟩ := rv.one
  cases ru
  obtain ⟨z, its, n, r, hl, e⟩ := I.lstM hH
  obtain ⟨its2, r2, ⟨ob, e2, oc, n2, od⟩, hl2⟩ := I.tuple hB
  obtain ⟨ocl, odi, oda, osl⟩ := ob
  simp only at oc od
  subst oc; subst od
  have ll := r.length
  have ll2 := r2.length
  have hsz : its.toArray.size + its2.toArray.size ≤ sizeLine := by rw [List.size_toArray, List.size_toArray]; omega
  have hlong : ¬ (!its.toArray.isEmpty && Builtin.List.listTooLong (its.toArray.size + its2.toArray.size)) = true := by
    rw [notLongL hsz, Bool.and_false]
    exact Bool.false_ne_true
  refine call_meets F.slot_list_extend ⟨_, e, rfl⟩ F.entry_list_extend (F.args_list_extend_2 _ _)
    (ext_tup l its.toArray n b its2.toArray n2 odi osl hlong (by rw [List.size_toArray]; omega) (by omega)) ⟨e, e2, ?_⟩
  refine ⟨.non, _, I.lset (its' := its ++ its2) hH e (by simp) (r.append r2) ?_, rfl, q⟩
  rw [List.length_append]
  omega
end
/-- the set of a list of places -/
def msk (l : List Nat) : Nat := l.foldl (fun m p => m ||| 2 ^ p) 0
theorem msk_snoc (l : List Nat) (p : Nat) : msk (l ++ [p]) = msk l ||| 2 ^ p := by
  unfold msk
  rw [List.foldl_append]
  rfl
theorem bit_pow (p i : Nat) : (2 ^ p).testBit i = decide (i = p) := by
  rw [Nat.testBit_two_pow]
  exact decide_eq_decide.mpr eq_comm
theorem msk_bit (l : List Nat) (i : Nat) : (msk l).testBit i = decide (i ∈ l) := by
  have go : ∀ (l : List Nat) (m : Nat), (l.foldl (fun m p => m ||| 2 ^ p) m).testBit i = (m.testBit i || decide (i ∈ l)) := by
    intro l
    induction l with
    | nil => intro m; simp
    | cons p l ih =>
      intro m
      show (l.foldl _ (m ||| 2 ^ p)).testBit i = _
      rw [ih, Nat.testBit_or, bit_pow, Bool.or_assoc]
      congr 1
      by_cases h : i = p <;> simp [h]
  have := go l 0
  rw [Nat.zero_testBit, Bool.false_or] at this
  exact this


/-! ### mask_of, reached_along -/
theorem nat_at {l : List Nat} {i : Nat} {x : V} (h : ((nI l).map V.int)[i]? = some x) : ∃ n : Nat, l[i]? = some n ∧ x = .int n := by
  rw [List.map_map, List.getElem?_map] at h
  cases e : l[i]? with
  | none => rw [e] at h; cases h
  | some n => rw [e] at h; exact ⟨n, rfl, (Option.some.inj h).symm⟩
theorem at_nat {l : List Nat} {i n : Nat} (h : l[i]? = some n) : ((nI l).map V.int)[i]? = some (.int n) := by
  rw [List.map_map, List.getElem?_map, h]
  rfl
section
variable {P : Program} {w : World} {K : PySem.W.Frag} {mg : Str → Option Value} {base : Heap} {a : Ad}
def spMask : Sp := fun vs H Q _ => ∃ (p : Addr) (l : List Nat), vs = [.ref p] ∧ SqAt H p ((nI l).map V.int) ∧ (∀ n ∈ l, n ≤ 1000) ∧ Q (.int (msk l)) H
def ivMask (p : Addr) (l : List Nat) (H : Hp) : Nat → L2.St → Hp → Prop := fun i σ H' => ∃ v, σ = [some (.ref p), some (.int (msk (l.take i) : Nat)), v] ∧ H' = H
theorem ok_mask_of (T : Txt K mg a) : FnOk P w K mg base CX0 1 a.f_mask_of a.d_mask_of ["places"] spMask := by
  refine T.F_mask_of.ok sc_mask_of (fun vs H Q E h => ?_) (fun cdv A outer s H vs Q E hr h => ?_)
  · obtain ⟨_, _, rfl, _⟩ := h
    rfl
  · obtain ⟨p, l, rfl, hp, hb, k⟩ := h
    refine ⟨_, (pss_cons (ps_set (i := 1) sc_mask_of.nd rfl (by first | exact Or.inl rfl | exact Or.inr rfl) pe_int)
  (pss_cons (ps_for PassesOwn.never rfl (pi_or (pi_list (pv 0)) (pi_tup (pv 0))) (pg_name (i := 2) sc_mask_of.nd rfl (by first | exact Or.inl rfl | exact Or.inr rfl)) (pss_one (ps_aug (i := 1) sc_mask_of.nd rfl (by first | exact Or.inl rfl | exact Or.inr rfl) (pe_op op_shlK pe_int (pv 2)) ip_orN)))
  (pss_one (ps_ret (pv 1))))), ?_⟩
    walk_at "sm"
    have go : ∀ (i n : Nat) (HX : Hp), l[i]? = some n → HX = H → ivMask p l H (i + 1) [some (.ref p), some (.int ((msk (l.take i) ||| 2 ^ n : Nat) : Int)), some (.int n)] HX := by
      rintro i n HX hn rfl
      refine ⟨some (.int n), ?_, rfl⟩
      rw [List.take_add_one, hn]
      show _ = [_, some (V.int ((msk (l.take i ++ [n]) : Nat) : Int)), _]
      rw [msk_snoc]
    have bd : ∀ (i n : Nat), l[i]? = some n → n ≤ 134217727 := fun i n hn => by
      have := hb n (List.mem_of_getElem? hn)
      omega
    rcases hp with q | q
    · refine .inr ⟨_, rfl, p, rfl, ⟨_, SqT.of q⟩, for_tup (K := K) (a := p) (xs := (nI l).map V.int) (ivMask p l H) ⟨none, rfl, rfl⟩ (fun i σ HX hi ⟨_, _, e⟩ => by rw [e]; exact SqT.of q) ?_ ?_⟩
      · rintro i x σ HX hi ⟨v, rfl, e⟩
        obtain ⟨n, hn, rfl⟩ := nat_at hi
        walk_at "sm"
        exact ⟨n, rfl, bd i n hn, _, rfl, _, rfl, go i n HX hn e⟩
      · rintro σ HX ⟨v, rfl, rfl⟩
        walk_at "sm"
        rw [List.length_map, List.length_map, List.take_length]
        exact k
    · refine .inl ⟨_, rfl, p, rfl, ⟨_, SqL.of q⟩, for_list (K := K) (a := p) (xs := (nI l).map V.int) (ivMask p l H) ⟨none, rfl, rfl⟩ (fun i σ HX hi ⟨_, _, e⟩ => by rw [e]; exact SqL.of q) ?_ ?_⟩
      · rintro i x σ HX hi ⟨v, rfl, e⟩
        obtain ⟨n, hn, rfl⟩ := nat_at hi
        walk_at "sm"
        exact ⟨n, rfl, bd i n hn, _, rfl, _, rfl, go i n HX hn e⟩
      · rintro σ HX ⟨v, rfl, rfl⟩
        walk_at "sm"
        rw [List.length_map, List.length_map, List.take_length]
        exact k
end


/-! ### what can be reached along arrows -/
def rowR (H : Hp) (x : V) (b : List Nat) : Prop := ∃ q, x = .ref q ∧ H q = some (.tup ((nI b).map V.int))
theorem rowR.go {H H' : Hp} {x : V} {b : List Nat} (e : Kp H H') (h : rowR H x b) : rowR H' x b := by
  obtain ⟨q, h1, h2⟩ := h
  exact ⟨q, h1, e.1 _ _ h2⟩
def Arr (H : Hp) (p : Addr) (bs : List (List Nat)) : Prop := ∃ xs, SqAt H p xs ∧ Paired (rowR H) xs bs
theorem Arr.go {H H' : Hp} {p : Addr} {bs : List (List Nat)} (e : Kp H H') (h : Arr H p bs) : Arr H' p bs := by
  obtain ⟨xs, h1, h2⟩ := h
  exact ⟨xs, h1.kp e, Paired.mapP h2 fun _ _ z => z.go e⟩
theorem paired_of {α β : Type} {F : α → β → Prop} : ∀ {l : List α} {m : List β} {i : Nat} {y : β}, Paired F l m → m[i]? = some y → ∃ x, l[i]? = some x ∧ F x y
  | _, _, _, _, .nil, h => by simp at h
  | _, _, 0, _, .cons f _, h => by
    simp at h
    exact ⟨_, rfl, h ▸ f⟩
  | _, _, i + 1, _, .cons _ t, h => by
    obtain ⟨x, h1, h2⟩ := paired_of (i := i) t (by simpa using h)
    exact ⟨x, by simpa using h1, h2⟩
/-- reached from s by one arrow or more, past no barred place -/
inductive Rc (bs : List (List Nat)) (bar s : Nat) : Nat → Prop
  | one {b : List Nat} {q : Nat} : bs[s]? = some b → q ∈ b → bar.testBit q = false → Rc bs bar s q
  | more {p : Nat} {b : List Nat} {q : Nat} : Rc bs bar s p → bs[p]? = some b → q ∈ b → bar.testBit q = false → Rc bs bar s q
def un (r n : Nat) : Nat := ((List.range n).filter fun p => !r.testBit p).length
theorem un_le (r n : Nat) : un r n ≤ n := Nat.le_trans (List.length_filter_le _ _) (Nat.le_of_eq (List.length_range ..))
theorem un_mono {r r' : Nat} (h : ∀ p, r.testBit p = true → r'.testBit p = true) : ∀ l : List Nat, (l.filter fun p => !r'.testBit p).length ≤ (l.filter fun p => !r.testBit p).length
  | [] => Nat.le_refl _
  | p :: l => by
    have ih := un_mono h l
    rw [List.filter_cons, List.filter_cons]
    cases e : r.testBit p with
    | true =>
      rw [h p e]
      exact ih
    | false =>
      cases e2 : r'.testBit p with
      | true => exact Nat.le_succ_of_le ih
      | false => exact Nat.succ_le_succ ih
theorem un_drop {r r' q : Nat} (h : ∀ p, r.testBit p = true → r'.testBit p = true) (h0 : r.testBit q = false) (h1 : r'.testBit q = true) : ∀ l : List Nat, q ∈ l → (l.filter fun p => !r'.testBit p).length < (l.filter fun p => !r.testBit p).length
  | [], m => by simp at m
  | p :: l, m => by
    rw [List.filter_cons, List.filter_cons]
    by_cases e : q = p
    · subst e
      rw [h0, h1]
      exact Nat.lt_succ_of_le (un_mono h l)
    · have ih := un_drop h h0 h1 l ((List.mem_cons.mp m).resolve_left e)
      cases e1 : r.testBit p with
      | true =>
        rw [h p e1]
        exact ih
      | false =>
        cases e2 : r'.testBit p with
        | true => exact Nat.lt_succ_of_lt ih
        | false => exact Nat.succ_lt_succ ih
theorem un_lt {r q n : Nat} (h0 : r.testBit q = false) (hq : q < n) : un (r ||| 2 ^ q) n < un r n :=
  un_drop (fun p h => by rw [Nat.testBit_or, h]; rfl) h0 (by rw [Nat.testBit_or, bit_pow, decide_eq_true rfl, Bool.or_true]) _ (List.mem_range.mpr hq)
structure RI (bs : List (List Nat)) (bar s r : Nat) (ws : List Nat) : Prop where
  sound : ∀ q, r.testBit q = true → Rc bs bar s q
  src : ∀ q ∈ ws, q < bs.length ∧ (bar.testBit q = false → Rc bs bar s q)
  clos : ∀ p b, (p = s ∨ r.testBit p = true) → bs[p]? = some b → ∀ q ∈ b, bar.testBit q = false → r.testBit q = true ∨ q ∈ ws
  size : ws.length + 200 * un r bs.length ≤ 200 * bs.length + 200
/-- arrows that stay within -/
def ArrOk (bs : List (List Nat)) : Prop := bs.length ≤ 200 ∧ ∀ b ∈ bs, b.length ≤ 200 ∧ ∀ q ∈ b, q < bs.length
theorem RI.init {bs : List (List Nat)} {bar s : Nat} {b : List Nat} (h : ArrOk bs) (hb : bs[s]? = some b) : RI bs bar s 0 b := by
  have hm := h.2 b (List.mem_of_getElem? hb)
  refine ⟨fun q hq => absurd hq (by rw [Nat.zero_testBit]; decide), fun q hq => ⟨hm.2 q hq, fun hn => .one hb hq hn⟩, fun p c hp hc q hq _ => ?_, ?_⟩
  · rcases hp with rfl | hp
    · rw [hb] at hc
      cases hc
      exact .inr hq
    · rw [Nat.zero_testBit] at hp; cases hp
  · have := un_le 0 bs.length
    have := hm.1
    omega
theorem RI.skip {bs : List (List Nat)} {bar s r q : Nat} {ws : List Nat} (h : RI bs bar s r (ws ++ [q])) (hq : (r ||| bar).testBit q = true) : RI bs bar s r ws := by
  refine ⟨h.sound, fun p hp => h.src p (List.mem_append_left _ hp), fun p b h1 h2 x h3 h4 => ?_, ?_⟩
  · rcases h.clos p b h1 h2 x h3 h4 with g | g
    · exact .inl g
    · rcases List.mem_append.mp g with g | g
      · exact .inr g
      · rw [List.mem_singleton] at g
        subst g
        rw [Nat.testBit_or, h4, Bool.or_false] at hq
        exact .inl hq
  · have := h.size
    rw [List.length_append] at this
    exact Nat.le_trans (by have : ws.length ≤ ws.length + [q].length := Nat.le_add_right _ _; omega) this
theorem RI.take {bs : List (List Nat)} {bar s r q : Nat} {ws b : List Nat} (k : ArrOk bs) (h : RI bs bar s r (ws ++ [q])) (hq : (r ||| bar).testBit q = false) (hb : bs[q]? = some b) : RI bs bar s (r ||| 2 ^ q) (ws ++ b) := by
  have hm := k.2 b (List.mem_of_getElem? hb)
  rw [Nat.testBit_or, Bool.or_eq_false_iff] at hq
  have rq := (h.src q (by simp)).2 hq.2
  have ql := (h.src q (by simp)).1
  have bit : ∀ p, (r ||| 2 ^ q).testBit p = true ↔ r.testBit p = true ∨ p = q := fun p => by
    rw [Nat.testBit_or, bit_pow, Bool.or_eq_true, decide_eq_true_eq]
  refine ⟨fun p hp => ?_, fun p hp => ?_, fun p c h1 h2 x h3 h4 => ?_, ?_⟩
  · rcases (bit p).mp hp with g | rfl
    · exact h.sound p g
    · exact rq
  · rcases List.mem_append.mp hp with g | g
    · exact h.src p (List.mem_append_left _ g)
    · exact ⟨hm.2 p g, fun hn => .more rq hb g hn⟩
  · by_cases e : p = q
    · subst e
      rw [hb] at h2
      cases h2
      exact .inr (List.mem_append_right _ h3)
    · have h1' : p = s ∨ r.testBit p = true := h1.imp id fun g => ((bit p).mp g).resolve_right e
      rcases h.clos p c h1' h2 x h3 h4 with g | g
      · exact .inl ((bit x).mpr (.inl g))
      · rcases List.mem_append.mp g with g | g
        · exact .inr (List.mem_append_left _ g)
        · rw [List.mem_singleton] at g
          exact .inl ((bit x).mpr (.inr g))
  · have h1 := h.size
    have h2 := un_lt hq.1 ql
    have h3 := hm.1
    rw [List.length_append] at h1 ⊢
    have : [q].length = 1 := rfl
    omega
theorem RI.done {bs : List (List Nat)} {bar s r : Nat} (h : RI bs bar s r []) (q : Nat) : r.testBit q = true ↔ Rc bs bar s q := by
  refine ⟨h.sound q, fun g => ?_⟩
  induction g with
  | one h1 h2 h3 => exact (h.clos _ _ (.inl rfl) h1 _ h2 h3).resolve_right (by simp)
  | more _ h1 h2 h3 ih => exact (h.clos _ _ (.inr ih) h1 _ h2 h3).resolve_right (by simp)
theorem Arr.ix {K : PySem.W.Frag} {H : Hp} {p : Addr} {bs : List (List Nat)} {i : Nat} {b : List Nat} {Q : VK} (h : Arr H p bs) (hb : bs[i]? = some b) (k : ∀ q, H q = some (.tup ((nI b).map V.int)) → Q (.ref q) H) :
    rIxL K (.ref p) (.int (i : Nat)) H Q ∨ rIxT K (.ref p) (.int (i : Nat)) H Q := by
  obtain ⟨xs, h1, h2⟩ := h
  obtain ⟨x, hx, q, rfl, hq⟩ := paired_of h2 hb
  rcases h1 with g | g
  · exact .inr (ixt g (atI_nat hx) (k q hq))
  · exact .inl (ixl (SqL.of g) (atI_nat hx) (k q hq))
theorem nI_snoc (l : List Nat) (q : Nat) : (nI (l ++ [q])).map V.int = (nI l).map V.int ++ [.int q] := by simp
theorem nI_app (l m : List Nat) : (nI (l ++ m)).map V.int = (nI l).map V.int ++ (nI m).map V.int := by simp
theorem nI_len (l : List Nat) : ((nI l).map V.int).length = l.length := by simp
theorem sz2 {n : Nat} (h : n ≤ 100000) : n ≤ sizeLine := sz h
theorem tru_bit (n i : Nat) : (((n / 2 ^ i % 2 : Nat) : Int) != 0) = n.testBit i := by
  rw [Nat.testBit_eq_decide_div_mod_eq]
  rcases (show n / 2 ^ i % 2 = 0 ∨ n / 2 ^ i % 2 = 1 by omega) with e | e <;> rw [e] <;> rfl
section
variable {P : Program} {w : World} {K : PySem.W.Frag} {mg : Str → Option Value} {base : Heap} {a : Ad}
def spRA : Sp := fun vs H Q _ => ∃ (p : Addr) (bs : List (List Nat)) (s bar : Nat), vs = [.ref p, .int s, .int bar] ∧ Arr H p bs ∧ ArrOk bs ∧ s < bs.length ∧ ∀ (r : Nat) H', Evl.Ex H H' → (∀ q, r.testBit q = true ↔ Rc bs bar s q) → Q (.int r) H'
def ivRA (H : Hp) (p : Addr) (bs : List (List Nat)) (s bar : Nat) (l : Addr) (m : Nat) (σ : L2.St) (H' : Hp) : Prop := ∃ (r : Nat) (ws : List Nat) (v5 : Option V), m = ws.length + 201 * un r bs.length ∧ σ = [some (.ref p), some (.int s), some (.int bar), some (.int r), some (.ref l), v5] ∧
  Evl.Ex H H' ∧ H' l = some (.lst ((nI ws).map V.int)) ∧ RI bs bar s r ws
theorem ok_reached_along (T : Txt K mg a) : FnOk P w K mg base CX0 1 a.f_reached_along a.d_reached_along ["arrows", "place", "barred"] spRA := by
  refine T.F_reached_along.ok sc_reached_along (fun vs H Q E h => ?_) (fun cdv A outer s H vs Q E hr h => ?_)
  · obtain ⟨_, _, _, _, rfl, _⟩ := h
    rfl
  · obtain ⟨p, bs, st, bar, rfl, ha, hk, hs, k⟩ := h
    refine ⟨_, (pss_cons (ps_set (i := 3) sc_reached_along.nd rfl (by first | exact Or.inl rfl | exact Or.inr rfl) pe_int)
  (pss_cons (ps_set (i := 4) sc_reached_along.nd rfl (by first | exact Or.inl rfl | exact Or.inr rfl) (pe_callTy call_list_of (by rfl) T.z_list (by decide +kernel) (pa_cons (pe_ix (IxR.or ix_list ix_tup) (pv 0) (pv 1) (fun _ _ => rfl)) pa_nil)))
  (pss_cons (ps_while (by first | exact passes_of rfl | exact PassesOwn.never) (pt_truth (pv 4) (by intro _; rfl)) (pss_cons (ps_set (i := 5) sc_reached_along.nd rfl (by first | exact Or.inl rfl | exact Or.inr rfl) (pe_bm0 PySem.F.plainAttrs_list PySem.F.slot_list_pop PySem.F.type_list_pop mt_pop (pv 4)))
  (pss_one (ps_if (pt_not (pt_truth (pe_op op_odd (pe_op op_shrK (pe_op op_orN (pv 3) (pv 2)) (pv 5)) pe_int) (by intro _; rfl))) (pss_cons (ps_aug (i := 3) sc_reached_along.nd rfl (by first | exact Or.inl rfl | exact Or.inr rfl) (pe_op op_shlK pe_int (pv 5)) ip_orN)
  (pss_one (ps_expr (pe_bm PySem.F.plainAttrs_list PySem.F.slot_list_extend PySem.F.type_list_extend mt_extT (pv 4) (pa_cons (pe_ix (IxR.or ix_list ix_tup) (pv 0) (pv 5) (fun _ _ => rfl)) pa_nil)))))
    pss_nil))))
  (pss_one (ps_ret (pv 3)))))), ?_⟩
    walk_at "sm"
    obtain ⟨b0, hb0⟩ : ∃ b, bs[st]? = some b := ⟨_, List.getElem?_eq_getElem hs⟩
    refine ha.ix hb0 fun q0 hq0 => ⟨q0, rfl, _, .inr (SqT.of hq0), fun l hl => ?_⟩
    have eN := Evl.Ex.new (o := .lst ((nI b0).map V.int)) hl
    refine ⟨ivRA H p bs st bar l, ⟨_, 0, b0, none, rfl, rfl, eN, upd_same, RI.init hk hb0⟩, ?_⟩
    rintro m σ HX ⟨r, ws, v5, rfl, rfl, e1, hw, ri⟩
    walk_at "sm"
    refine ⟨_, .inl ⟨_, SqL.of hw, rfl⟩, ?_⟩
    rcases List.eq_nil_or_concat ws with rfl | ⟨ws, q, rfl⟩
    · exact iteF (k r _ e1 ri.done)
    · rw [List.concat_eq_append] at hw ri ⊢
      rw [nI_snoc] at hw ⊢
      refine iteT' (by cases ws <;> rfl) ⟨fun σ1 H1 => ∃ m1, m1 < (ws ++ [q]).length + 201 * un r bs.length ∧ ivRA H p bs st bar l m1 σ1 H1, fun σ1 H1 z => z, ?_⟩
      walk_at "sm"
      refine ⟨.inl ⟨rfl, _, SqL.of hw⟩, l, _, .int q, rfl, rfl, hw, by simp, ?_⟩
      have ql := (ri.src q (by simp)).1
      obtain ⟨b, hb⟩ : ∃ b, bs[q]? = some b := ⟨_, List.getElem?_eq_getElem ql⟩
      rw [List.dropLast_concat]
      have e2 := Evl.Ex.mut (o := .lst ((nI ws).map V.int)) e1 hl
      have hw2 : upd HX l (.lst ((nI ws).map V.int)) l = some (.lst ((nI ws).map V.int)) := upd_same
      generalize upd HX l (.lst ((nI ws).map V.int)) = H2 at e2 hw2 ⊢
      have sz := ri.size
      have nl := hk.1
      have bl := (hk.2 b (List.mem_of_getElem? hb)).1
      have ul := un_le r bs.length
      rw [List.length_append] at sz
      have s1 : [q].length = 1 := rfl
      refine ⟨r, rfl, bar, rfl, _, rfl, q, rfl, _, rfl, _, rfl, ?_⟩
      rw [tru_bit]
      cases ht : (r ||| bar).testBit q with
      | true => exact iteF ⟨_, by rw [List.length_append]; omega, r, ws, some (.int q), rfl, rfl, e2, hw2, ri.skip ht⟩
      | false =>
        have rt := ri.take hk ht hb
        have dr := un_lt (Bool.or_eq_false_iff.mp (by rw [← Nat.testBit_or]; exact ht)).1 ql
        refine iteT ⟨q, rfl, by omega, r, rfl, 2 ^ q, rfl, .inl ⟨rfl, _, SqL.of hw2⟩, (ha.go (Kp.ex e2)).ix hb fun qb hqb => ⟨l, qb, _, _, rfl, rfl, hw2, SqT.of hqb, ?_, ?_⟩⟩
        · rw [nI_len, nI_len]
          exact sz2 (by omega)
        · refine ⟨_, ?_, r ||| 2 ^ q, ws ++ b, some (.int q), rfl, rfl, Evl.Ex.mut e2 hl, by rw [upd_same, nI_app], rt⟩
          rw [List.length_append, List.length_append]
          omega
end


/-! ### sorted(t), t a tuple -/
open PyProof.Rows in
theorem collect_tup {prog : Program} {w : World} {A : Around} {E : Value → Shared → Prop} {s : Shared} {l : Addr} {vs : List Value} {Q : List Value → Shared → Prop} (hl : PyProof.Rows.IsTup s.heap l vs.toArray)
    (h : Q vs { s with heap := (s.heap.push (PyProof.Rows.seqObj "list" #[] 0)).update s.heap.objs.size (Obj.mapSeq fun x => x ++ vs.toArray) }) (hsz : vs.length ≤ sizeLine) : wpAny (model prog w) A (collect (.ref l)) Q E s := by
  obtain ⟨o, ho, hc, n, hd⟩ := hl
  refine wpAny_bind (wpAny_runValue (codeAny_builtin PyProof.Rows.entry_proto_collect' ?_))
  unfold Builtin.«proto.collect»
  refine wpAny_bind (wpAny_newList (wpAny_pure ⟨Code.quiet_builtin _ (by decide +kernel), codeAny_builtin PyProof.Rows.entry_list_iadd' ?_⟩) (Nat.zero_le _))
  have ho' := Heap.get?_push_of_some (PyProof.Rows.seqObj "list" #[] 0) ho
  unfold Builtin.«list.__iadd__»
  show wpAny _ _ (bind (typeOf (.ref l)) _) _ _ _
  refine wpAny_bind (wpAny_typeOf (v := .ref l) ⟨o, ho', hc⟩ ?_)
  rw [if_pos (by simp)]
  refine wpAny_bind (PyProof.Rows.listItems_at ho' hd (wpAny_bind (PyProof.Rows.listItems_at (Heap.get?_push_size s.1 rfl) rfl ?_)))
  rw [if_neg (by simp)]
  refine wpAny_bind (PyProof.Rows.listUpdate_at (Heap.get?_push_size s.1 rfl) rfl (wpAny_pure ?_) (Nat.zero_le _) (by simp; omega))
  show wpAny _ _ _ _ _ _
  refine wpAny_bind (wpAny_load (PyProof.Rows.get?_update_seq (Heap.get?_push_size s.1 rfl) fun x => x ++ vs.toArray) ?_)
  show wpAny _ _ (pure ((#[] : Array Value) ++ vs.toArray).toList) _ _ _
  rw [show ((#[] : Array Value) ++ vs.toArray).toList = vs by simp]
  exact wpAny_pure h
theorem sorted_ordT {prog : Program} {w : World} {A : Around} {E : Value → Shared → Prop} {s : Shared} {l : Addr} {vs : List Value} {ltv : Value → Value → Bool} {Q : Value → Shared → Prop} (O : SrtO.Swo ltv) (hl : PyProof.Rows.IsTup s.heap l vs.toArray) (hz : vs.length ≤ sizeLine)
    (hS : 2 ≤ vs.length → ∀ (h₁ : Heap) (a : Addr), h₁.get? a = some (PyProof.Rows.seqObj "list" vs.toArray 0) → (∀ (b : Addr) (o : Obj), s.heap.get? b = some o → b ≠ a ∧ h₁.get? b = some o) →
      SrtO.SortableO prog w A.in1.in1 { heap := h₁, gens := s.gens, drawn := s.drawn, toks := s.toks, os := s.os } a vs ltv)
    (h : ∀ (out : List Value), SrtO.Srtd ltv out → SrtO.Stb ltv out vs → Q (Value.ref (s.heap.objs.size + 1)) { heap := PyProof.Rows.sortedAll s.heap vs out.toArray, gens := s.gens, drawn := s.drawn, toks := s.toks, os := s.os }) :
    wpAny (model prog w) A (call (Value.builtin "sorted") [Value.ref l]) Q E s := by
  refine Calls.call_function_entry PyProof.Rows.kind_sorted PyProof.Rows.plain_sorted PyProof.Rows.entry_sorted (PyProof.Rows.args_sorted1 (Value.ref l)) ?_
  refine wpAny_bind (wpAny_pure (wpAny_bind (collect_tup hl ?_ hz)))
  refine wpAny_bind (wpAny_newList ?_ hz)
  have hsz : ((s.heap.push (PyProof.Rows.seqObj "list" #[] 0)).update s.heap.objs.size (Obj.mapSeq fun x => x ++ vs.toArray)).objs.size = s.heap.objs.size + 1 := by
    rw [Heap.size_update, PyProof.Rows.size_push']
  have hoL : (((s.heap.push (PyProof.Rows.seqObj "list" #[] 0)).update s.heap.objs.size (Obj.mapSeq fun x => x ++ vs.toArray)).push (PyProof.Rows.seqObj "list" vs.toArray 0)).get? (s.heap.objs.size + 1) = some (PyProof.Rows.seqObj "list" vs.toArray 0) := by
    rw [← hsz]
    exact Heap.get?_push_size _ rfl
  have keep : ∀ (b : Addr) (o : Obj), s.heap.get? b = some o → b ≠ s.heap.objs.size + 1 ∧ (((s.heap.push (PyProof.Rows.seqObj "list" #[] 0)).update s.heap.objs.size (Obj.mapSeq fun x => x ++ vs.toArray)).push (PyProof.Rows.seqObj "list" vs.toArray 0)).get? b = some o := fun b o q => by
    have hlt := Heap.lt_size q
    refine ⟨Nat.ne_of_lt (Nat.lt_succ_of_lt hlt), Heap.get?_push_of_some _ ?_⟩
    rw [Heap.get?_update_ne _ b s.heap.objs.size _ (Nat.ne_of_lt hlt)]
    exact Heap.get?_push_of_some _ q
  show wpAny (model prog w) A.in1 (do
    let _ ← holding [Value.ref _] (call (Value.builtin "list.sort") [Value.ref _] ({ pos := [Value.ref l] } : Args).kw)
    ret (Value.ref _)) _ _ _
  rw [hsz]
  refine wpAny_bind (wpAny_holding (wpAny_call_entry PyProof.Rows.slot_list_sort ⟨_, hoL, rfl⟩ PyProof.Rows.entry_list_sort (SrtO.list_sort_ord O hoL hz (fun h2 => hS h2 _ _ hoL keep) fun out hs hb => ?_) (PyProof.Rows.args_list_sort _)))
  exact ⟨Value.none, rfl, wpAny_pure ⟨_, rfl, h out hs hb⟩⟩
def rSortedIT (K : PySem.W.Frag) : List V → Hp → VK → Prop := fun vs H Q => ∃ a ns, vs = [V.ref a] ∧ SqT K H a (List.map V.int ns) ∧
  ∀ (ns' : List Int) (p : Addr), ns'.Perm ns → List.Pairwise (fun x1 x2 => x1 ≤ x2) ns' → H p = none → Q (V.ref p) (upd H p (HO.lst (List.map V.int ns')))
theorem cr_sortedIT {X : Cx} : CallR X (Value.builtin "sorted") (rSortedIT X.K) := by
  intro pins s σ H vs us Q I r h
  obtain ⟨a, ns, rfl, hs, q⟩ := h
  obtain ⟨its, rv, hl, hz⟩ := I.tuple hs
  rw [Vals.ref1 r]
  have hi := Vals.ints rv
  refine sorted_ordT SrtO.swo_int hl (by rw [← Vals.length rv]; exact hz) (fun h2 h1 a' x x1 => SrtO.ints_sortable hi h2) fun out h1 h2 => ?_
  obtain ⟨k1, k2, k3⟩ := SrtO.ints_out hi h1 h2
  obtain ⟨ep, he'⟩ := PyProof.Rows.sortedAll_at s.heap its out.toArray
  have hlen : (List.map V.int (List.map SrtO.iv out)).length ≤ sizeLine := by
    rw [List.length_map, k2.length_eq]
    rw [List.length_map] at hz
    exact hz
  exact ⟨V.ref (s.heap.objs.size + 1), upd H (s.heap.objs.size + 1) (HO.lst (List.map V.int (List.map SrtO.iv out))), Inv.laid I (fun x x1 => PyProof.Rows.sortedAll_old) (Nat.le_succ s.heap.objs.size) ⟨hlen, out, ep, vals_of_ints k1, he'⟩, rfl, q (List.map SrtO.iv out) (s.heap.objs.size + 1) k2 k3 (HOk.fresh I.hok (Nat.le_succ s.heap.objs.size))⟩


/-! ### the befores that are handed to a bare web -/
theorem lcg_sq {K : PySem.W.Frag} {a : Addr} {xs : List V} {g : TG} {tt : TT} {te : TE} {vs : List Nat} {σ : L2.St} {H1 : Hp} {Q : VK} (hq : SqAt H1 a xs) (Pv : Addr → Nat → Hp → Prop) (h0 : ∀ D, H1 D = none → Pv D 0 (upd H1 D (.lst []))) (hl : ∀ D i H, H1 D = none → Pv D i H → Evl.Ex H1 H)
    (hs : ∀ D i x H, H1 D = none → xs[i]? = some x → Pv D i H → g x (wipe σ vs) H fun σ2 H2 => wipe σ2 vs = wipe σ vs ∧ tt σ2 H2 fun b H3 =>
      if b = true then te σ2 H3 fun y H4 => ∃ acc, H4 D = some (.lst acc) ∧ acc.length < sizeLine ∧ Pv D (i + 1) (upd H4 D (.lst (acc ++ [y]))) else Pv D (i + 1) H3) (hd : ∀ D H, H1 D = none → Pv D xs.length H → Q (.ref D) H) :
    (∃ xs, SqL K H1 a xs) ∧ LcG (Itl K a) g tt te vs σ Q H1 ∨ (∃ xs, SqT K H1 a xs) ∧ LcG (Itt K a) g tt te vs σ Q H1 := by
  rcases hq with q | q
  · exact .inr ⟨⟨_, SqT.of q⟩, lcg_tup Pv h0 (fun D i H hD hi h => SqT.of (hl D i H hD h _ _ q)) hs hd⟩
  · exact .inl ⟨⟨_, SqL.of q⟩, lcg_list Pv h0 (fun D i H hD hi h => SqL.of (hl D i H hD h _ _ q)) hs hd⟩
theorem rep_snoc (i : Nat) : (List.replicate i true).map V.bl ++ [V.bl true] = (List.replicate (i + 1) true).map V.bl := by
  rw [List.map_replicate, List.map_replicate, List.replicate_succ']
theorem flat_nats (b : List Nat) : ((nI b).map V.int).all flatV = true := by
  rw [List.all_map]
  exact List.all_eq_true.mpr fun _ _ => rfl
theorem inV_nat {n : Nat} {b : List Nat} (h : n ∉ b) : inV (.int n) ((nI b).map V.int) = false := by
  unfold inV
  refine List.any_eq_false.mpr fun x hx => ?_
  obtain ⟨i, hi⟩ := List.mem_iff_getElem?.mp hx
  obtain ⟨m, hm, rfl⟩ := nat_at hi
  have hm2 := List.mem_of_getElem? hm
  intro q
  have e : (m : Int) = (n : Int) := by simpa [eqV] using q
  exact h (by rw [show n = m by omega]; exact hm2)
theorem nI_nodup {b : List Nat} (h : b.Nodup) : (nI b).Nodup := by
  rw [List.Nodup, List.pairwise_map]
  exact h.imp fun q z => q (by exact_mod_cast z)
section
variable {P : Program} {w : World} {K : PySem.W.Frag} {mg : Str → Option Value} {base : Heap} {a : Ad}
def spBL : Sp := fun vs H Q _ => ∃ (q : Addr) (pl m : Nat) (b : List Nat), vs = [.ref q, .int pl, .int m] ∧ SqAt H q ((nI b).map V.int) ∧ (∀ x ∈ b, x < m) ∧ pl ∉ b ∧ b.Nodup ∧ b.length < 64 ∧ ∀ H', Evl.Ex H H' → Q (.bl true) H'
def ivBL (H : Hp) (D : Addr) (i : Nat) (H' : Hp) : Prop := Evl.Ex H H' ∧ H' D = some (.lst ((List.replicate i true).map V.bl))
theorem ok_is_before_list (T : Txt K mg a) : FnOk P w K mg base CX0 3 a.f_is_before_list a.d_is_before_list ["thing", "place", "many"] spBL := by
  refine T.F_is_before_list.ok sc_is_before_list (fun vs H Q E h => ?_) (fun cdv A outer s H vs Q E hr h => ?_)
  · obtain ⟨_, _, _, _, rfl, _⟩ := h
    rfl
  · obtain ⟨q, pl, m, b, rfl, hq, hm, hp, hn, hl, k⟩ := h
    refine ⟨_, (pss_cons (ps_if (PW.pt (pw_or (pt_not (pt_val (pe_call (ok_is_sequence T) (hr.mono (by decide)) rfl T.m_is_sequence T.F_is_sequence.kp T.b_is_sequence .nil pass0 (pa_cons (pv 0) pa_nil)))) (pw_or1 (pt_not (pt_val (pe_callB (cr_all rfl) (by rfl) T.z_all (by decide +kernel) (pa_cons (pe_lc (own := [("before", 3)]) (g := gName 3) (tt := tYes) rfl sc_is_before_list.nd (pi_or (pi_list (pv 0)) (pi_tup (pv 0))) (blkOk_by (own := [("before", 3)]) (N := ["thing", "place", "many", "before"]) (sc := defScope s_is_before_list) (by decide +kernel)) (fun _ _ _ _ _ => pg_name (i := 3) sc_is_before_list.nd rfl (Or.inl rfl)) (fun _ _ _ _ _ => pts_nil) (fun _ _ _ _ _ => (pe_call (ok_is_within T) (hr.mono (by decide)) rfl T.m_is_within T.F_is_within.kp T.b_is_within .nil pass0 (pa_cons (pv 3) (pa_cons pe_int (pa_cons (pe_op op_sub (pv 2) pe_int) pa_nil)))))) pa_nil))))))) (pss_one (ps_ret pe_bl))
    pss_nil)
  (pss_one (ps_ret (pe_and (pe_cmpR op_notIn_seq (pv 1) (pv 0) (by rfl)) (pe_one (pe_cmpR op_eq (pe_callB call_lenS (by rfl) T.z_len (by decide +kernel) (pa_cons (pe_callTy (call_setIs rfl) (by rfl) T.z_set (by decide +kernel) (pa_cons (pv 0) pa_nil)) pa_nil)) (pe_callB call_len_seq (by rfl) T.z_len (by decide +kernel) (pa_cons (pv 0) pa_nil)) (nomark _))))))), ?_⟩
    walk_at "sm"
    refine ⟨.ref q, rfl, hq.plain, fun H1 e1 => ⟨_, rfl, iteF ?_⟩⟩
    have hq1 := hq.go e1
    refine lcg_sq (xs := (nI b).map V.int) hq1 (ivBL H1) (fun D hD => ⟨Evl.Ex.new hD, upd_same⟩) (fun D i HX hD h => h.1) ?_ ?_
    · rintro D i x HX hD hi ⟨f1, f2⟩
      obtain ⟨n, hn1, rfl⟩ := nat_at hi
      walk_at "sm"
      have nm := hm n (List.mem_of_getElem? hn1)
      have li := (List.getElem?_eq_some_iff.mp hn1).1
      refine ⟨.int n, 0, (m : Int) - 1, rfl, plain_int, _, f2, Nat.lt_of_le_of_lt (show _ ≤ 100 by rw [List.length_map, List.length_replicate]; omega) (by decide), f1.mut hD, ?_⟩
      rw [upd_same, show wiB (.int (n : Int)) 0 ((m : Int) - 1) = true from (by show (decide ((0 : Int) ≤ (n : Int)) && decide ((n : Int) ≤ (m : Int) - 1)) = true; rw [decide_eq_true (show (0 : Int) ≤ (n : Int) by omega), decide_eq_true (show (n : Int) ≤ (m : Int) - 1 by omega)]; rfl), rep_snoc]
    · rintro D HX hD ⟨f1, f2⟩
      walk_at "sm"
      have hq2 := hq1.go f1
      refine ⟨D, _, rfl, SqL.of f2, _, rfl, ?_⟩
      rw [show (List.replicate ((nI b).map V.int).length true).all id = true from List.all_eq_true.mpr fun x hx => (List.mem_replicate.mp hx).2]
      refine iteF ?_
      have fin : rSetI K w [V.ref q] HX fun x H1 => ∃ a_1, x = V.ref a_1 ∧ ∃ x x_1, H1 a_1 = some (SetO w a_1 x x_1) ∧ ∃ x, (SqL K H1 q x ∨ SqT K H1 q x) ∧ Q (V.bl (decide ((x_1 : Int) = (x.length : Int)))) H1 := by
        refine ⟨q, nI b, rfl, hq2.sq, by rw [List.length_map]; exact hl, fun p2 c hc hcn hp2 => ⟨p2, rfl, _, c, upd_same, _, (hq2.go (Evl.Ex.new hp2)).sq, ?_⟩⟩
        rw [decide_eq_true (by rw [hcn (nI_nodup hn), nI_len, List.length_map])]
        exact k _ ((e1.trans f1).trans (Evl.Ex.new hp2))
      have nin : inV (.int pl) ((nI b).map V.int) = false := inV_nat hp
      rcases hq2 with g | g
      · exact ni_tup (SqT.of g) rfl (flat_nats b) ⟨_, rfl, by rw [nin]; exact iteT fin⟩
      · exact ⟨q, _, rfl, .inl (SqL.of g), rfl, flat_nats b, _, rfl, by rw [nin]; exact iteT fin⟩
end


/-! ### the errors of webs and bare webs; rules inside a comprehension -/
section
variable {P : Program} {w : World} {K : PySem.W.Frag} {mg : Str → Option Value} {base : Heap} {a : Ad}
theorem ok_BadWeb_init (T : Txt K mg a) : FnOk P w K mg base CX0 1 a.f_BadWeb___init__ a.d_BadWeb___init__ ["self", "place", "what"] (spInit2 a.c_BadWeb "place" "what") := by
  refine T.F_BadWeb___init__.ok sc_BadWeb___init__ (fun vs H Q E h => ?_) (fun cdv A outer s H vs Q E hr h => ?_)
  · obtain ⟨e, x, y, rfl, _⟩ := h
    rfl
  · obtain ⟨e, x, y, rfl, he, k⟩ := h
    refine ⟨_, pss_one (ps_asg (pe_tup (pa_cons (pv 1) (pa_cons (pv 2) pa_nil))) (pg_tup rfl (pgs_cons (pg_ost (pv 0)) (pgs_cons (pg_ost (pv 0)) pgs_nil)))), ?_⟩
    refine ⟨_, rfl, _, rfl, (by show 2 ≤ sizeLine; decide), fun t ht => ?_⟩
    have net : e ≠ t := ne_of_none he ht
    refine ⟨t, _, rfl, .inl (.inl upd_same), rfl, _, _, rfl, _, rfl, e, a.c_BadWeb, rfl, T.x_BadWeb, T.xn_BadWeb_place, .inl ⟨by rw [upd_ne net]; exact he, fun dx hdx hne => ?_⟩⟩
    have ndt : dx ≠ t := fun q => by rw [q, upd_same] at hdx; cases hdx
    have hd0 : H dx = none := by rw [upd_ne ndt] at hdx; exact hdx
    refine ⟨_, _, rfl, _, rfl, e, a.c_BadWeb, rfl, T.x_BadWeb, T.xn_BadWeb_what, .inr ⟨dx, [("place", x)], upd_same, by rw [upd_ne hne, upd_same], (by show 1 ≤ 900; omega), rfl, ?_⟩⟩
    refine k dx _ hd0 hne (fun b o nb hb => ?_) (by rw [upd_ne (Ne.symm hne), upd_same]) upd_same
    rw [upd_ne (ne_of_none hb hd0), upd_ne nb, upd_ne (ne_of_none hb hd0), upd_ne (ne_of_none hb ht)]
    exact hb
theorem ok_BadBare_init (T : Txt K mg a) : FnOk P w K mg base CX0 1 a.f_BadBare___init__ a.d_BadBare___init__ ["self", "place", "what"] (spInit2 a.c_BadBare "place" "what") := by
  refine T.F_BadBare___init__.ok sc_BadBare___init__ (fun vs H Q E h => ?_) (fun cdv A outer s H vs Q E hr h => ?_)
  · obtain ⟨e, x, y, rfl, _⟩ := h
    rfl
  · obtain ⟨e, x, y, rfl, he, k⟩ := h
    refine ⟨_, pss_one (ps_asg (pe_tup (pa_cons (pv 1) (pa_cons (pv 2) pa_nil))) (pg_tup rfl (pgs_cons (pg_ost (pv 0)) (pgs_cons (pg_ost (pv 0)) pgs_nil)))), ?_⟩
    refine ⟨_, rfl, _, rfl, (by show 2 ≤ sizeLine; decide), fun t ht => ?_⟩
    have net : e ≠ t := ne_of_none he ht
    refine ⟨t, _, rfl, .inl (.inl upd_same), rfl, _, _, rfl, _, rfl, e, a.c_BadBare, rfl, T.x_BadBare, T.xn_BadBare_place, .inl ⟨by rw [upd_ne net]; exact he, fun dx hdx hne => ?_⟩⟩
    have ndt : dx ≠ t := fun q => by rw [q, upd_same] at hdx; cases hdx
    have hd0 : H dx = none := by rw [upd_ne ndt] at hdx; exact hdx
    refine ⟨_, _, rfl, _, rfl, e, a.c_BadBare, rfl, T.x_BadBare, T.xn_BadBare_what, .inr ⟨dx, [("place", x)], upd_same, by rw [upd_ne hne, upd_same], (by show 1 ≤ 900; omega), rfl, ?_⟩⟩
    refine k dx _ hd0 hne (fun b o nb hb => ?_) (by rw [upd_ne (Ne.symm hne), upd_same]) upd_same
    rw [upd_ne (ne_of_none hb hd0), upd_ne nb, upd_ne (ne_of_none hb hd0), upd_ne (ne_of_none hb ht)]
    exact hb
end
theorem cr_sortedIT_b {X : Cx} {s : Shared} {H : Hp} {scope : Scope} {env : Env} {fp : List Addr} : CallR (X.blk s H scope env fp) (.builtin "sorted") (rSortedIT X.K) := cr_sortedIT
theorem call_len_seq_b {X : Cx} {s : Shared} {H : Hp} {scope : Scope} {env : Env} {fp : List Addr} : CallR (X.blk s H scope env fp) (.builtin "len") (fun xs H Q => ∃ p ys, xs = [.ref p] ∧ (SqL X.K H p ys ∨ SqT X.K H p ys) ∧ Q (.int ys.length) H) := call_len_seq
theorem call_tuple_of_b {X : Cx} {s : Shared} {H : Hp} {scope : Scope} {env : Env} {fp : List Addr} : CallR (X.blk s H scope env fp) (.type "tuple") (fun xs H Q => ∃ p ys, xs = [.ref p] ∧ ((SqL X.K H p ys ∧ ∀ l, H l = none → Q (.ref l) (upd H l (.tup ys))) ∨ (SqT X.K H p ys ∧ Q (.ref p) H))) := call_tuple_of
/-- a walk over enumerate(what stands in slot n), a list or a tuple -/
theorem for_sqE {K : PySem.W.Frag} {n : Nat} {p : Addr} {xs : List V} {g : TG} {tb : TS} {D : Ends} {σ : L2.St} {H : Hp} (hq : SqAt H p xs) (hv : σ[n]? = some (some (.ref p))) (Pv : Nat → L2.St → Hp → Prop) (h0 : Pv 0 σ H) (he : ∀ i σ HX, Pv i σ HX → Evl.Ex H HX)
    (hs : ∀ i σ HX T y, xs[i]? = some y → Pv i σ HX → HX T = none → g (.ref T) σ (upd HX T (.tup [.int (i : Nat), y])) fun σ2 H2 => tb { D with nx := Pv (i + 1), ct := Pv (i + 1), bk := D.nx } σ2 H2) (hd : ∀ σ HX, Pv xs.length σ HX → D.nx σ HX) :
    tFor (fun σ H R => iEnum K (tCons (tVar n) tNil) σ H R ∨ iEnumT K (tCons (tVar n) tNil) σ H R) g tb D σ H := by
  rcases hq with q | q
  · refine .inr ⟨_, hv, p, xs, rfl, SqT.of q, for_en (n := xs.length) Pv h0 (fun i σ HX hi h => ⟨xs, xs[i], SqT.of (he _ _ _ h _ _ q), List.getElem?_eq_getElem hi⟩) (fun σ HX h => ⟨xs, SqT.of (he _ _ _ h _ _ q), rfl⟩) ?_ hd⟩
    rintro i σ HX x HY hi h ⟨Tt, y, rfl, hT, rfl, hy⟩
    exact hs i σ HX Tt y (hy xs (SqT.of (he _ _ _ h _ _ q))) h hT
  · refine .inl ⟨_, hv, p, xs, rfl, SqL.of q, for_en (n := xs.length) Pv h0 (fun i σ HX hi h => ⟨xs, xs[i], SqL.of (he _ _ _ h _ _ q), List.getElem?_eq_getElem hi⟩) (fun σ HX h => ⟨xs, SqL.of (he _ _ _ h _ _ q), Nat.le_refl _⟩) ?_ hd⟩
    rintro i σ HX x HY hi h ⟨Tt, y, rfl, hT, rfl, hy⟩
    exact hs i σ HX Tt y (hy xs (SqL.of (he _ _ _ h _ _ q))) h hT
/-- the same over enumerate(a tuple) alone is pi_enumT's; a comprehension over a list or a tuple in slot n -/
theorem lcg_sqV {K : PySem.W.Frag} {n : Nat} {a : Addr} {xs : List V} {g : TG} {tt : TT} {te : TE} {vs : List Nat} {σ : L2.St} {H1 : Hp} {Q : VK} (hv : σ[n]? = some (some (.ref a))) (hq : SqAt H1 a xs) (Pv : Addr → Nat → Hp → Prop) (h0 : ∀ D, H1 D = none → Pv D 0 (upd H1 D (.lst []))) (hl : ∀ D i H, H1 D = none → Pv D i H → Evl.Ex H1 H)
    (hs : ∀ D i x H, H1 D = none → xs[i]? = some x → Pv D i H → g x (wipe σ vs) H fun σ2 H2 => wipe σ2 vs = wipe σ vs ∧ tt σ2 H2 fun b H3 =>
      if b = true then te σ2 H3 fun y H4 => ∃ acc, H4 D = some (.lst acc) ∧ acc.length < sizeLine ∧ Pv D (i + 1) (upd H4 D (.lst (acc ++ [y]))) else Pv D (i + 1) H3) (hd : ∀ D H, H1 D = none → Pv D xs.length H → Q (.ref D) H) :
    (∃ v, σ[n]? = some (some v) ∧ ∃ a, v = V.ref a ∧ (∃ xs, SqL K H1 a xs) ∧ LcG (Itl K a) g tt te vs σ Q H1) ∨ ∃ v, σ[n]? = some (some v) ∧ ∃ a, v = V.ref a ∧ (∃ xs, SqT K H1 a xs) ∧ LcG (Itt K a) g tt te vs σ Q H1 :=
  (lcg_sq (K := K) hq Pv h0 hl hs hd).imp (fun ⟨h1, h2⟩ => ⟨_, hv, a, rfl, h1, h2⟩) fun ⟨h1, h2⟩ => ⟨_, hv, a, rfl, h1, h2⟩
/-! ### checked_befores -/
/-- a list of befores as a bare web of k06 hands it in: each ascending, below their place -/
def BefOk (bs : List (List Nat)) : Prop := 1 ≤ bs.length ∧ bs.length ≤ 200 ∧ ∀ (i : Nat) (b : List Nat), bs[i]? = some b → b.Pairwise (· < ·) ∧ (∀ x ∈ b, x < i) ∧ b.length ≤ 60
def ArrT (H : Hp) (p : Addr) (bs : List (List Nat)) : Prop := ∃ xs, H p = some (.tup xs) ∧ Paired (rowR H) xs bs
theorem ArrT.arr {H : Hp} {p : Addr} {bs : List (List Nat)} (h : ArrT H p bs) : Arr H p bs := by
  obtain ⟨xs, h1, h2⟩ := h
  exact ⟨xs, .inl h1, h2⟩
theorem ArrT.go {H H' : Hp} {p : Addr} {bs : List (List Nat)} (e : Kp H H') (h : ArrT H p bs) : ArrT H' p bs := by
  obtain ⟨xs, h1, h2⟩ := h
  exact ⟨xs, e.1 _ _ h1, Paired.mapP h2 fun _ _ z => z.go e⟩
section
variable {P : Program} {w : World} {K : PySem.W.Frag} {mg : Str → Option Value} {base : Heap} {a : Ad}
def spCB : Sp := fun vs H Q _ => ∃ (p : Addr) (bs : List (List Nat)), vs = [.ref p] ∧ Arr H p bs ∧ BefOk bs ∧ ∀ q H', Evl.Ex H H' → ArrT H' q bs → Q (.ref q) H'
def ivCB (H : Hp) (p : Addr) : Nat → L2.St → Hp → Prop := fun i σ H' => ∃ v1 v2, σ = [some (.ref p), v1, v2] ∧ Evl.Ex H H'
def ivCC (H : Hp) (bs : List (List Nat)) (D : Addr) (i : Nat) (H' : Hp) : Prop := Evl.Ex H H' ∧ ∃ xs, H' D = some (.lst xs) ∧ Paired (rowR H') xs (bs.take i)
theorem ok_checked_befores (T : Txt K mg a) : FnOk P w K mg base (L2.CX P w) 4 a.f_checked_befores a.d_checked_befores ["befores"] spCB := by
  refine T.F_checked_befores.okX sc_checked_befores (fun vs H Q E h => ?_) (fun cdv A outer s H vs Q E hr h => ?_)
  · obtain ⟨_, _, rfl, _⟩ := h
    rfl
  · obtain ⟨p, bs, rfl, ha, hb, k⟩ := h
    obtain ⟨xs, hp, hx⟩ := ha
    have lx := paired_len hx
    refine ⟨_, (pss_cons (ps_if (PW.pt (pw_or (pt_not (pt_val (pe_call (ok_is_sequence T) (hr.mono (by decide)) rfl T.m_is_sequence T.F_is_sequence.kp T.b_is_sequence .nil pass0 (pa_cons (pv 0) pa_nil)))) (pw_or1 (pt_not (pt_chain op_le op_le pe_int (pe_callB call_len_seq (by rfl) T.z_len (by decide +kernel) (pa_cons (pv 0) pa_nil)) (pe_glob rfl T.g_MOST_PLACES.choose_spec.1 T.g_MOST_PLACES.choose_spec.2)))))) (pss_one (ps_raise rfl (takes_of rfl rfl rfl rfl) (pmk_oex T.x_BadBare T.xi_BadBare T.xt_BadBare (ok_BadBare_init T) (hr.mono (by decide)) T.b_BadBare___init__ .nil pass0 rfl T.m_BadBare (pa_cons (pe_un un_neg pe_int) (pa_cons pe_str pa_nil)))))
    pss_nil)
  (pss_cons (ps_for (passes_of rfl) rfl (pi_or (pi_enum (by rfl) T.z_enumerate (pa_cons (pv 0) pa_nil)) (pi_enumT (by rfl) T.z_enumerate (pa_cons (pv 0) pa_nil))) (pg_tup rfl (pgs_cons (pg_name (i := 1) sc_checked_befores.nd rfl (by first | exact Or.inl rfl | exact Or.inr rfl)) (pgs_cons (pg_name (i := 2) sc_checked_befores.nd rfl (by first | exact Or.inl rfl | exact Or.inr rfl)) pgs_nil))) (pss_one (ps_if (pt_not (pt_val (pe_call (ok_is_before_list T) (hr.mono (by decide)) rfl T.m_is_before_list T.F_is_before_list.kp T.b_is_before_list .nil pass0 (pa_cons (pv 2) (pa_cons (pv 1) (pa_cons (pe_callB call_len_seq (by rfl) T.z_len (by decide +kernel) (pa_cons (pv 0) pa_nil)) pa_nil)))))) (pss_one (ps_raise rfl (takes_of rfl rfl rfl rfl) (pmk_oex T.x_BadBare T.xi_BadBare T.xt_BadBare (ok_BadBare_init T) (hr.mono (by decide)) T.b_BadBare___init__ .nil pass0 rfl T.m_BadBare (pa_cons (pv 1) (pa_cons pe_str pa_nil)))))
    pss_nil)))
  (pss_one (ps_ret (pe_callTy call_tuple_of (by rfl) T.z_tuple (by decide +kernel) (pa_cons (pe_lc (own := [("listed", 2)]) (g := gName 2) (tt := tYes) rfl sc_checked_befores.nd (pi_or (pi_list (pv 0)) (pi_tup (pv 0))) (blkOk_by (own := [("listed", 2)]) (N := ["befores", "place", "listed"]) (sc := defScope s_checked_befores) (by decide +kernel)) (fun _ _ _ _ _ => pg_name (i := 2) sc_checked_befores.nd rfl (Or.inl rfl)) (fun _ _ _ _ _ => pts_nil) (fun _ _ _ _ _ => (pe_callTy call_tuple_of_b (by rfl) T.z_tuple (by decide +kernel) (pa_cons (pe_callB cr_sortedIT_b (by rfl) T.z_sorted (by decide +kernel) (pa_cons (pv 2) pa_nil)) pa_nil)))) pa_nil)))))), ?_⟩
    walk_at "sm"
    refine ⟨.ref p, rfl, hp.plain, fun H1 e1 => ⟨_, rfl, iteF ?_⟩⟩
    have hp1 := hp.go e1
    have ll : (xs.length : Int) = (bs.length : Int) := by rw [lx]
    refine ⟨xs, hp1.sq, iteP (by have := hb.1; omega) (iteF' (by rw [decide_eq_true (by have := hb.2.1; omega)]; rfl) ?_)⟩
    refine for_sqE (xs := xs) hp1 rfl (ivCB H1 p) ⟨none, none, rfl, Evl.Ex.refl _⟩ (fun i σ HX ⟨_, _, _, h⟩ => h) ?_ ?_
    · rintro i σ HX Tt y hy ⟨v1, v2, rfl, f1⟩ hT
      have eT := Evl.Ex.new (o := .tup [.int (i : Nat), y]) hT
      obtain ⟨b, hb1, q, rfl, hq⟩ := paired_at hx hy
      have f2 := (e1.trans f1).trans eT
      obtain ⟨c1, c2, c3⟩ := hb.2.2 i b hb1
      have hi := (List.getElem?_eq_some_iff.mp hb1).1
      walk_at "sm"
      refine ⟨_, SqT.of upd_same, rfl, _, _, rfl, _, _, rfl, rfl, xs, (hp.go f2).sq, q, i, bs.length, b, by rw [ll], .inl (f2 _ _ hq), fun x hx2 => Nat.lt_trans (c2 x hx2) hi, fun z => Nat.lt_irrefl _ (c2 _ z), c1.imp fun z => Nat.ne_of_lt z, by omega, fun H' e' => ⟨_, rfl, iteF ⟨_, _, rfl, (f1.trans eT).trans e'⟩⟩⟩
    · rintro σ HX ⟨v1, v2, rfl, f1⟩
      walk_at "sm"
      have f2 := e1.trans f1
      refine lcg_sq (xs := xs) (hp.go f2) (ivCC HX bs) (fun D hD => ⟨Evl.Ex.new hD, [], upd_same, .nil⟩) (fun D i HY hD h => h.1) ?_ ?_
      · rintro D i y HY hD hy ⟨g1, ys, g2, g3⟩
        obtain ⟨b, hb1, q, rfl, hq⟩ := paired_at hx hy
        obtain ⟨c1, c2, c3⟩ := hb.2.2 i b hb1
        have hqY := g1 _ _ (f2 _ _ hq)
        walk_at "sm"
        have li := (List.getElem?_eq_some_iff.mp hb1).1
        have ly : ys.length ≤ 200 := by rw [paired_len g3, List.length_take]; have := hb.2.1; exact Nat.le_trans (Nat.min_le_right _ _) this
        have fin : ∀ (H5 : Hp) (l : Addr), Evl.Ex HY H5 → H5 l = none → ∃ acc, upd H5 l (HO.tup ((nI b).map V.int)) D = some (HO.lst acc) ∧ acc.length < sizeLine ∧ ivCC HX bs D (i + 1) (upd (upd H5 l (HO.tup ((nI b).map V.int))) D (HO.lst (acc ++ [V.ref l]))) := by
          intro H5 l e5 hl
          have e6 := e5.trans (Evl.Ex.new (o := .tup ((nI b).map V.int)) hl)
          refine ⟨ys, e6 _ _ g2, Nat.lt_of_le_of_lt ly (by decide), Evl.Ex.mut (g1.trans e6) hD, _, upd_same, ?_⟩
          have hl6 : upd H5 l (HO.tup ((nI b).map V.int)) l = some (HO.tup ((nI b).map V.int)) := upd_same
          have tk : ∀ c zs, upd H5 l (HO.tup ((nI b).map V.int)) c = some (.tup zs) → upd (upd H5 l (HO.tup ((nI b).map V.int))) D (HO.lst (ys ++ [V.ref l])) c = some (.tup zs) := fun c zs h => by
            rw [upd_ne (fun z => by rw [z, e6 _ _ g2] at h; cases h)]
            exact h
          rw [List.take_add_one, hb1]
          refine Paired.snoc ⟨l, rfl, tk _ _ hl6⟩ (Paired.mapP g3 fun x c z => ?_)
          obtain ⟨qq, z1, z2⟩ := z
          exact ⟨qq, z1, tk _ _ (e6 _ _ z2)⟩
        refine ⟨q, nI b, rfl, SqT.of hqY, fun ns p1 pm pw hp1 => ⟨p1, rfl, _, .inl ⟨SqL.of upd_same, fun l hl => ?_⟩⟩⟩
        have en : ns = nI b := pm.eq_of_pairwise (fun x y _ _ h1 h2 => Int.le_antisymm h1 h2) pw ((ints_lt c1).imp fun z => Int.le_of_lt z)
        subst en
        exact fin _ l (Evl.Ex.new hp1) hl
      · rintro D HY hD ⟨g1, ys, g2, g3⟩
        walk_at "sm"
        rw [lx, List.take_of_length_le (Nat.le_refl _)] at g3
        refine ⟨ys, .inl ⟨SqL.of g2, fun l hl => k l _ ((f2.trans g1).trans (Evl.Ex.new hl)) ⟨ys, upd_same, Paired.mapP g3 fun x c z => z.go (Kp.ex (Evl.Ex.new hl))⟩⟩⟩
end


/-! ### afters_of -/
def row (bs : List (List Nat)) (p : Nat) : List Nat := (bs[p]?).getD []
def aftUp (bs : List (List Nat)) (i q : Nat) : List Nat := (List.range i).filter fun p => decide (q ∈ row bs p)
def aft (bs : List (List Nat)) (q : Nat) : List Nat := aftUp bs bs.length q
def afts (bs : List (List Nat)) : List (List Nat) := (List.range bs.length).map (aft bs)
theorem aftUp_succ (bs : List (List Nat)) (i q : Nat) : aftUp bs (i + 1) q = aftUp bs i q ++ if q ∈ row bs i then [i] else [] := by
  unfold aftUp
  rw [List.range_succ, List.filter_append, List.filter_cons, List.filter_nil]
  by_cases h : q ∈ row bs i <;> simp [h]
theorem aftUp_len (bs : List (List Nat)) (i q : Nat) : (aftUp bs i q).length ≤ i := Nat.le_trans (List.length_filter_le _ _) (Nat.le_of_eq (List.length_range ..))
theorem take_mem {b : List Nat} {j n x : Nat} (h : b[j]? = some n) : x ∈ b.take (j + 1) ↔ x ∈ b.take j ∨ x = n := by
  rw [List.take_add_one, h, List.mem_append]
  simp
theorem take_not {b : List Nat} {j n : Nat} (h : b[j]? = some n) (nd : b.Nodup) : n ∉ b.take j := fun q => by
  obtain ⟨k, hk⟩ := List.mem_iff_getElem?.mp q
  have kj : k < j := by
    have := (List.getElem?_eq_some_iff.mp hk).1
    rw [List.length_take] at this
    omega
  rw [List.getElem?_take_of_lt kj] at hk
  obtain ⟨i1, j1⟩ := List.getElem?_eq_some_iff.mp hk
  obtain ⟨i2, j2⟩ := List.getElem?_eq_some_iff.mp h
  have := (List.getElem_inj nd).mp (j1.trans j2.symm)
  omega
theorem row_of {bs : List (List Nat)} {i : Nat} {b : List Nat} (h : bs[i]? = some b) : row bs i = b := by
  unfold row
  rw [h]
  rfl
theorem for_tupE {K : PySem.W.Frag} {n : Nat} {p : Addr} {xs : List V} {g : TG} {tb : TS} {D : Ends} {σ : L2.St} {H : Hp} (hv : σ[n]? = some (some (.ref p))) (Pv : Nat → L2.St → Hp → Prop) (h0 : Pv 0 σ H) (he : ∀ i σ HX, Pv i σ HX → HX p = some (.tup xs))
    (hs : ∀ i σ HX T y, xs[i]? = some y → Pv i σ HX → HX T = none → g (.ref T) σ (upd HX T (.tup [.int (i : Nat), y])) fun σ2 H2 => tb { D with nx := Pv (i + 1), ct := Pv (i + 1), bk := D.nx } σ2 H2) (hd : ∀ σ HX, Pv xs.length σ HX → D.nx σ HX) :
    tFor (iEnumT K (tCons (tVar n) tNil)) g tb D σ H := by
  refine ⟨_, hv, p, xs, rfl, SqT.of (he _ _ _ h0), for_en (n := xs.length) Pv h0 (fun i σ HX hi h => ⟨xs, xs[i], SqT.of (he _ _ _ h), List.getElem?_eq_getElem hi⟩) (fun σ HX h => ⟨xs, SqT.of (he _ _ _ h), rfl⟩) ?_ hd⟩
  rintro i σ HX x HY hi h ⟨Tt, y, rfl, hT, rfl, hy⟩
  exact hs i σ HX Tt y (hy xs (SqT.of (he _ _ _ h))) h hT
section
variable {P : Program} {w : World} {K : PySem.W.Frag} {mg : Str → Option Value} {base : Heap} {a : Ad}
def AfAt (H : Hp) (l : Addr) (ls : List Addr) (f : Nat → List Nat) : Prop := H l = some (.lst (ls.map V.ref)) ∧ ls.Nodup ∧ l ∉ ls ∧ ∀ (q : Nat) (c : Addr), ls[q]? = some c → H c = some (.lst ((nI (f q)).map V.int))
def spAF : Sp := fun vs H Q _ => ∃ (p : Addr) (bs : List (List Nat)), vs = [.ref p] ∧ ArrT H p bs ∧ BefOk bs ∧ ∀ q H', Evl.Ex H H' → ArrT H' q (afts bs) → Q (.ref q) H'
theorem AfAt.push {H : Hp} {l c : Addr} {ls : List Addr} {f : Nat → List Nat} {q v : Nat} (h : AfAt H l ls f) (hc : ls[q]? = some c) : AfAt (upd H c (.lst ((nI (f q ++ [v])).map V.int))) l ls (fun x => if x = q then f x ++ [v] else f x) := by
  obtain ⟨h1, h2, h3, h4⟩ := h
  have hm := List.mem_of_getElem? hc
  refine ⟨by rw [upd_ne (fun z => h3 (by rw [z]; exact hm))]; exact h1, h2, h3, fun x d hd => ?_⟩
  by_cases e : x = q
  · subst e
    rw [hc] at hd
    cases hd
    show upd H c _ c = some (.lst ((nI (if x = x then f x ++ [v] else f x)).map V.int))
    rw [upd_same, if_pos rfl]
  · show upd H c _ d = some (.lst ((nI (if x = q then f x ++ [v] else f x)).map V.int))
    rw [upd_ne (fun z => ?_), if_neg e]
    · exact h4 x d hd
    · rw [z] at hd
      obtain ⟨i1, j1⟩ := List.getElem?_eq_some_iff.mp hd
      obtain ⟨i2, j2⟩ := List.getElem?_eq_some_iff.mp hc
      exact e ((List.getElem_inj h2).mp (j1.trans j2.symm))
theorem AfAt.same {H : Hp} {l : Addr} {ls : List Addr} {f g : Nat → List Nat} (h : AfAt H l ls f) (e : ∀ q, q < ls.length → f q = g q) : AfAt H l ls g :=
  ⟨h.1, h.2.1, h.2.2.1, fun q c hc => by rw [← e q (List.getElem?_eq_some_iff.mp hc).1]; exact h.2.2.2 q c hc⟩
theorem AfAt.ex {H H' : Hp} {l : Addr} {ls : List Addr} {f : Nat → List Nat} (e : Evl.Ex H H') (h : AfAt H l ls f) : AfAt H' l ls f := ⟨e _ _ h.1, h.2.1, h.2.2.1, fun q c hc => e _ _ (h.2.2.2 q c hc)⟩
def ivA0 (H : Hp) (D : Addr) (i : Nat) (H' : Hp) : Prop := Evl.Ex H H' ∧ ∃ ls, ls.length = i ∧ AfAt H' D ls (fun _ => []) ∧ ∀ c ∈ ls, H c = none
def ivA1 (H : Hp) (p l : Addr) (ls : List Addr) (bs : List (List Nat)) : Nat → L2.St → Hp → Prop := fun i σ H' => ∃ v2 v3 v4 v5, σ = [some (.ref p), some (.ref l), v2, v3, v4, v5] ∧ Evl.Ex H H' ∧ AfAt H' l ls (aftUp bs i)
def ivA2 (H : Hp) (p l q : Addr) (ls : List Addr) (bs : List (List Nat)) (i : Nat) (b : List Nat) : Nat → L2.St → Hp → Prop := fun j σ H' => ∃ v4 v5, σ = [some (.ref p), some (.ref l), some (.int (i : Nat)), some (.ref q), v4, v5] ∧ Evl.Ex H H' ∧ AfAt H' l ls (fun x => aftUp bs i x ++ if x ∈ b.take j then [i] else [])
def ivA3 (H : Hp) (bs : List (List Nat)) (D : Addr) (i : Nat) (H' : Hp) : Prop := Evl.Ex H H' ∧ ∃ xs, H' D = some (.lst xs) ∧ Paired (rowR H') xs ((afts bs).take i)
theorem ok_afters_of (T : Txt K mg a) : FnOk P w K mg base CX0 1 a.f_afters_of a.d_afters_of ["befores"] spAF := by
  refine T.F_afters_of.ok sc_afters_of (fun vs H Q E h => ?_) (fun cdv A outer s H vs Q E hr h => ?_)
  · obtain ⟨_, _, rfl, _⟩ := h
    rfl
  · obtain ⟨p, bs, rfl, ha, hb, k⟩ := h
    obtain ⟨xs, hp, hx⟩ := ha
    have lx := paired_len hx
    refine ⟨_, (pss_cons (ps_setLc (i := 1) (own := [("_", 5)]) (g := gName 5) (tt := tYes) rfl sc_afters_of.nd rfl rfl (sw_true rfl rfl rfl (by decide +kernel)) (pi_tup (pv 0)) (blkOk_by (own := [("_", 5)]) (N := ["befores", "afters", "place", "listed", "before", "_"]) (sc := defScope s_afters_of) (by decide +kernel)) (fun _ _ _ _ _ => pg_name (i := 5) sc_afters_of.nd rfl (Or.inl rfl)) (fun _ _ _ _ _ => pts_nil) (fun _ _ _ _ _ => (pe_lst pa_nil)))
  (pss_cons (ps_for PassesOwn.never rfl (pi_enumT (by rfl) T.z_enumerate (pa_cons (pv 0) pa_nil)) (pg_tup rfl (pgs_cons (pg_name (i := 2) sc_afters_of.nd rfl (by first | exact Or.inl rfl | exact Or.inr rfl)) (pgs_cons (pg_name (i := 3) sc_afters_of.nd rfl (by first | exact Or.inl rfl | exact Or.inr rfl)) pgs_nil))) (pss_one (ps_for PassesOwn.never rfl (pi_tup (pv 3)) (pg_name (i := 4) sc_afters_of.nd rfl (by first | exact Or.inl rfl | exact Or.inr rfl)) (pss_one (ps_expr (pe_bm PySem.F.plainAttrs_list PySem.F.slot_list_append PySem.F.type_list_append mt_append (pe_ix ix_list (pv 1) (pv 4) (fun _ _ => rfl)) (pa_cons (pv 2) pa_nil)))))))
  (pss_one (ps_ret (pe_callTy call_tuple_of (by rfl) T.z_tuple (by decide +kernel) (pa_cons (pe_lc (own := [("listed", 3)]) (g := gName 3) (tt := tYes) rfl sc_afters_of.nd (pi_list (pv 1)) (blkOk_by (own := [("listed", 3)]) (N := ["befores", "afters", "place", "listed", "before", "_"]) (sc := defScope s_afters_of) (by decide +kernel)) (fun _ _ _ _ _ => pg_name (i := 3) sc_afters_of.nd rfl (Or.inl rfl)) (fun _ _ _ _ _ => pts_nil) (fun _ _ _ _ _ => (pe_callTy call_tuple_of_b (by rfl) T.z_tuple (by decide +kernel) (pa_cons (pv 3) pa_nil)))) pa_nil)))))), ?_⟩
    walk_at "sm"
    have x0 : Evl.Ex H H := Evl.Ex.refl _
    refine ⟨⟨_, SqT.of hp⟩, lcg_tup (K := K) (a := p) (xs := xs) (ivA0 H) (fun D hD => ⟨Evl.Ex.new hD, [], rfl, ⟨upd_same, List.nodup_nil, List.not_mem_nil, fun q c h => by simp at h⟩, fun c h => by simp at h⟩) (fun D i HX hD hi h => SqT.of (h.1 _ _ hp)) ?_ ?_⟩
    · rintro D i x HX hD hi ⟨f1, ls, f2, f3, f4⟩
      walk_at "sm"
      have li := (List.getElem?_eq_some_iff.mp hi).1
      have lb := hb.2.1
      refine ⟨Nat.zero_le _, fun c hc => ?_⟩
      have eC := Evl.Ex.new (o := .lst []) hc
      refine ⟨_, eC _ _ f3.1, Nat.lt_of_le_of_lt (show _ ≤ 200 by rw [List.length_map]; omega) (by decide), Evl.Ex.mut (f1.trans eC) hD, ls ++ [c], by rw [List.length_append, f2]; rfl, ?_, ?_⟩
      · have hcc : upd HX c (.lst []) c = some (.lst []) := upd_same
        have nc : ∀ d ∈ ls, d ≠ c := fun d hd z => by
          obtain ⟨q, hq⟩ := List.mem_iff_getElem?.mp hd
          have := f3.2.2.2 q d hq
          rw [z, hc] at this
          cases this
        have nD : D ≠ c := fun z => by rw [← z, f3.1] at hc; cases hc
        refine ⟨by rw [upd_same, List.map_append]; rfl, List.nodup_append.mpr ⟨f3.2.1, List.nodup_cons.mpr ⟨List.not_mem_nil, List.nodup_nil⟩, fun d hd e he => by rw [List.mem_singleton.mp he]; exact nc d hd⟩, fun z => ?_, fun q d hd => ?_⟩
        · rcases List.mem_append.mp z with z | z
          · exact f3.2.2.1 z
          · exact nD (List.mem_singleton.mp z)
        · have hd2 : upd HX c (.lst []) d = some (.lst ((nI []).map V.int)) ∧ d ≠ D := by
            rcases List.getElem?_append (l₁ := ls) (l₂ := [c]) (i := q) ▸ hd with z
            by_cases hq : q < ls.length
            · rw [List.getElem?_append_left hq] at hd
              exact ⟨eC _ _ (f3.2.2.2 q d hd), fun z => f3.2.2.1 (by rw [← z]; exact List.mem_of_getElem? hd)⟩
            · rw [List.getElem?_append_right (by omega)] at hd
              have : d = c := by
                have := List.mem_of_getElem? hd
                exact List.mem_singleton.mp this
              subst this
              exact ⟨hcc, fun z => nD z.symm⟩
          rw [upd_ne hd2.2]
          exact hd2.1
      · intro d hd
        rcases List.mem_append.mp hd with z | z
        · exact f4 d z
        · rw [List.mem_singleton.mp z]
          exact Evl.fresh_back f1 hc
    · rintro D HX hD ⟨f1, ls, f2, f3, f4⟩
      walk_at "sm"
      refine for_tupE (xs := xs) rfl (ivA1 H p D ls bs) ⟨none, none, none, none, rfl, f1, f3⟩ ?_ ?_ ?_
      · rintro i σ HY ⟨_, _, _, _, _, g1, _⟩
        exact g1 _ _ hp
      · rintro i σ HY Tt y hy ⟨v2, v3, v4, v5, rfl, g1, g2⟩ hT
        obtain ⟨b, hb1, q, rfl, hq⟩ := paired_at hx hy
        obtain ⟨c1, c2, c3⟩ := hb.2.2 i b hb1
        have eT := Evl.Ex.new (o := .tup [.int (i : Nat), .ref q]) hT
        have g3 := g2.ex eT
        have g4 := g1.trans eT
        have hlen : ls.length = bs.length := f2.trans lx
        have li := (List.getElem?_eq_some_iff.mp hb1).1
        have lb := hb.2.1
        walk_at "sm"
        refine ⟨_, SqT.of upd_same, rfl, _, _, rfl, _, _, rfl, rfl, ?_⟩
        generalize upd HY Tt (.tup [.int (i : Nat), .ref q]) = HZ at g3 g4 ⊢
        have hqZ := g4 _ _ hq
        refine ⟨_, rfl, q, rfl, ⟨_, SqT.of hqZ⟩, for_tup (K := K) (a := q) (xs := (nI b).map V.int) (ivA2 H p D q ls bs i b) ⟨v4, v5, rfl, g4, g3.same fun x _ => by simp⟩ (fun j σ HW hj ⟨_, _, _, e, _⟩ => SqT.of (e _ _ hq)) ?_ ?_⟩
        · rintro j x σ HW hj ⟨w4, w5, rfl, k1, k2⟩
          obtain ⟨n, hn, rfl⟩ := nat_at hj
          have nb : n < i := c2 n (List.mem_of_getElem? hn)
          obtain ⟨c, hc⟩ : ∃ c, ls[n]? = some c := ⟨_, List.getElem?_eq_getElem (by omega)⟩
          have hcW := k2.2.2.2 n c hc
          have cn : H c = none := f4 c (List.mem_of_getElem? hc)
          walk_at "sm"
          refine ixl (SqL.of k2.1) (atI_nat (by rw [List.getElem?_map, hc]; rfl)) ⟨(show tyV K "list" (.ref c) HW from .inl ⟨rfl, _, SqL.of hcW⟩), c, _, _, rfl, rfl, hcW, ?_, ?_⟩
          · have l1 := aftUp_len bs i n
            refine Nat.lt_of_le_of_lt (show _ ≤ 201 from ?_) (by decide)
            rw [nI_len]
            show (aftUp bs i n ++ if n ∈ List.take j b then [i] else []).length ≤ 201
            rw [List.length_append]
            split <;> (simp only [List.length_cons, List.length_nil]; omega)
          · have kp := k2.push (v := i) hc
            rw [nI_snoc] at kp
            refine ⟨_, _, rfl, Evl.Ex.mut k1 cn, kp.same fun x hx => ?_⟩
            have tk := take_mem hn (x := x)
            by_cases e : x = n
            · subst e
              rw [if_pos rfl, if_neg (take_not hn (c1.imp fun z => Nat.ne_of_lt z)), if_pos (tk.mpr (.inr rfl)), List.append_nil]
            · rw [if_neg e]
              congr 1
              by_cases e2 : x ∈ List.take j b
              · rw [if_pos e2, if_pos (tk.mpr (.inl e2))]
              · rw [if_neg e2, if_neg fun z => (tk.mp z).elim e2 e]
        · rintro σ HW ⟨w4, w5, rfl, k1, k2⟩
          refine ⟨_, _, _, _, rfl, k1, k2.same fun x hx => ?_⟩
          rw [nI_len, List.take_length, aftUp_succ, row_of hb1]
      · rintro σ HY ⟨v2, v3, v4, v5, rfl, g1, g2⟩
        walk_at "sm"
        have hlen : ls.length = bs.length := f2.trans lx
        have lb := hb.2.1
        have fl : ∀ q, (aft bs q).length ≤ 200 := fun q => Nat.le_trans (List.length_filter_le _ _) (by rw [List.length_range]; exact lb)
        rw [lx] at g2
        refine ⟨⟨_, SqL.of g2.1⟩, lcg_list (K := K) (a := D) (xs := ls.map V.ref) (ivA3 HY bs) (fun E0 hE => ⟨Evl.Ex.new hE, [], upd_same, .nil⟩) (fun E0 i HZ hE hi h => SqL.of (h.1 _ _ g2.1)) ?_ ?_⟩
        · rintro E0 i x HZ hE hi ⟨h1, ys, h2, h3⟩
          walk_at "sm"
          obtain ⟨c, hc, rfl⟩ : ∃ c, ls[i]? = some c ∧ x = .ref c := by
            rw [List.getElem?_map] at hi
            cases e : ls[i]? with
            | none => rw [e] at hi; cases hi
            | some c => rw [e] at hi; exact ⟨c, rfl, (Option.some.inj hi).symm⟩
          have li := (List.getElem?_eq_some_iff.mp hc).1
          have hcZ := h1 _ _ (g2.2.2.2 i c hc)
          have ha : (afts bs)[i]? = some (aft bs i) := by
            unfold afts
            rw [List.getElem?_map, List.getElem?_range (by omega)]
            rfl
          refine ⟨c, rfl, _, .inl ⟨SqL.of hcZ, fun l hl => ?_⟩⟩
          have eL := Evl.Ex.new (o := .tup ((nI (aft bs i)).map V.int)) hl
          have hll : upd HZ l (HO.tup ((nI (aft bs i)).map V.int)) l = some (HO.tup ((nI (aft bs i)).map V.int)) := upd_same
          have ly : ys.length ≤ 200 := by rw [paired_len h3, List.length_take]; exact Nat.le_trans (Nat.min_le_left _ _) (by omega)
          have hE2 := eL _ _ h2
          have e1 := h1.trans eL
          have h3' := Paired.mapP h3 fun x c z => z.go (Kp.ex eL)
          show ∃ acc, upd HZ l (HO.tup ((nI (aft bs i)).map V.int)) E0 = some (HO.lst acc) ∧ acc.length < sizeLine ∧ ivA3 HY bs E0 (i + 1) (upd (upd HZ l (HO.tup ((nI (aft bs i)).map V.int))) E0 (HO.lst (acc ++ [V.ref l])))
          generalize upd HZ l (HO.tup ((nI (aft bs i)).map V.int)) = HU at hll hE2 e1 h3' ⊢
          refine ⟨ys, hE2, Nat.lt_of_le_of_lt ly (by decide), Evl.Ex.mut e1 hE, _, upd_same, ?_⟩
          have tk : ∀ d zs, HU d = some (.tup zs) → upd HU E0 (HO.lst (ys ++ [V.ref l])) d = some (.tup zs) := fun d zs h => by
            rw [upd_ne (fun z => by rw [z, hE2] at h; cases h)]
            exact h
          rw [List.take_add_one, ha]
          exact Paired.snoc ⟨l, rfl, tk _ _ hll⟩ (Paired.mapP h3' fun x d ⟨qq, z1, z2⟩ => ⟨qq, z1, tk _ _ z2⟩)
        · rintro E0 HZ hE ⟨h1, ys, h2, h3⟩
          walk_at "sm"
          rw [List.length_map, List.take_of_length_le (by unfold afts; rw [List.length_map, List.length_range]; omega)] at h3
          exact ⟨ys, .inl ⟨SqL.of h2, fun l hl => k l _ ((g1.trans h1).trans (Evl.Ex.new hl)) ⟨ys, upd_same, Paired.mapP h3 fun x c z => z.go (Kp.ex (Evl.Ex.new hl))⟩⟩⟩
end


/-! ### ordered_of -/
theorem lcg_en {J : It} {n : Nat} {g : TG} {tt : TT} {te : TE} {vs : List Nat} {σ : L2.St} {H1 : Hp} {Q : VK} (Pv : Addr → Nat → Hp → Prop) (h0 : ∀ D, H1 D = none → Pv D 0 (upd H1 D (.lst []))) (hgo : ∀ D i H, H1 D = none → i < n → Pv D i H → J.go i H) (hstop : ∀ D H, H1 D = none → Pv D n H → J.stop n H)
    (hs : ∀ D i x H HX, H1 D = none → i < n → Pv D i H → J.yld i H x HX → g x (wipe σ vs) HX fun σ2 H2 => wipe σ2 vs = wipe σ vs ∧ tt σ2 H2 fun b H3 =>
      if b = true then te σ2 H3 fun y H4 => ∃ acc, H4 D = some (.lst acc) ∧ acc.length < sizeLine ∧ Pv D (i + 1) (upd H4 D (.lst (acc ++ [y]))) else Pv D (i + 1) H3) (hd : ∀ D H, H1 D = none → Pv D n H → Q (.ref D) H) : LcG J g tt te vs σ Q H1 := fun D hD => by
  refine ⟨fun i m H => m = n - i ∧ i ≤ n ∧ Pv D i H, ⟨n, rfl, Nat.zero_le _, h0 D hD⟩, ?_⟩
  rintro i m H ⟨rfl, hi, pv⟩
  rcases Nat.lt_or_eq_of_le hi with hl | rfl
  · exact .inr ⟨hgo D i H hD hl pv, Pv D (i + 1), fun HX q => ⟨n - (i + 1), by omega, rfl, hl, q⟩, fun x HX y => hs D i x H HX hD hl pv y⟩
  · exact .inl ⟨hstop D H hD pv, hd D H hD pv⟩
theorem lcg_listE {K : PySem.W.Frag} {n : Nat} {a : Addr} {xs : List V} {g : TG} {tt : TT} {te : TE} {vs : List Nat} {σ : L2.St} {H1 : Hp} {Q : VK} (hv : σ[n]? = some (some (.ref a))) (hq : H1 a = some (.lst xs)) (Pv : Addr → Nat → Hp → Prop) (h0 : ∀ D, H1 D = none → Pv D 0 (upd H1 D (.lst []))) (hl : ∀ D i H, H1 D = none → Pv D i H → Evl.Ex H1 H)
    (hs : ∀ D i H T y, H1 D = none → xs[i]? = some y → Pv D i H → H T = none → g (.ref T) (wipe σ vs) (upd H T (.tup [.int (i : Nat), y])) fun σ2 H2 => wipe σ2 vs = wipe σ vs ∧ tt σ2 H2 fun b H3 =>
      if b = true then te σ2 H3 fun y H4 => ∃ acc, H4 D = some (.lst acc) ∧ acc.length < sizeLine ∧ Pv D (i + 1) (upd H4 D (.lst (acc ++ [y]))) else Pv D (i + 1) H3) (hd : ∀ D H, H1 D = none → Pv D xs.length H → Q (.ref D) H) :
    iEnum K (tCons (tVar n) tNil) σ H1 fun J HX => LcG J g tt te vs σ Q HX := by
  refine ⟨_, hv, a, xs, rfl, SqL.of hq, lcg_en (n := xs.length) Pv h0 (fun D i H hD hi h => ⟨xs, xs[i], SqL.of (hl D i H hD h _ _ hq), List.getElem?_eq_getElem hi⟩) (fun D H hD h => ⟨xs, SqL.of (hl D _ H hD h _ _ hq), Nat.le_refl _⟩) ?_ hd⟩
  rintro D i x H HX hD hi h ⟨Tt, y, rfl, hT, rfl, hy⟩
  exact hs D i H Tt y hD (hy xs (SqL.of (hl D i H hD h _ _ hq))) h hT
/-- how many befores of p are not yet behind us when the places below t are -/
def mis (bs : List (List Nat)) (t p : Nat) : Nat := ((row bs p).filter fun x => decide (t ≤ x)).length
theorem mis_zero (bs : List (List Nat)) (p : Nat) : mis bs 0 p = (row bs p).length := by
  unfold mis
  rw [List.filter_eq_self.mpr fun x _ => by simp]
theorem row_mem {bs : List (List Nat)} {p x : Nat} (h : x ∈ row bs p) : ∃ b, bs[p]? = some b ∧ x ∈ b := by
  unfold row at h
  cases e : bs[p]? with
  | none => rw [e] at h; simp at h
  | some b => rw [e] at h; exact ⟨b, rfl, h⟩
theorem row_lt {bs : List (List Nat)} (k : BefOk bs) {p x : Nat} (h : x ∈ row bs p) : x < p := by
  obtain ⟨b, h1, h2⟩ := row_mem h
  exact (k.2.2 p b h1).2.1 x h2
theorem row_nd {bs : List (List Nat)} (k : BefOk bs) (p : Nat) : (row bs p).Nodup := by
  unfold row
  cases e : bs[p]? with
  | none => exact List.nodup_nil
  | some b => exact ((k.2.2 p b e).1).imp fun z => Nat.ne_of_lt z
theorem mis_self {bs : List (List Nat)} (k : BefOk bs) (t : Nat) : mis bs t t = 0 := by
  unfold mis
  rw [List.length_eq_zero_iff, List.filter_eq_nil_iff]
  intro x hx
  have := row_lt k hx
  simp; omega
theorem cnt_step (t : Nat) : ∀ {l : List Nat}, l.Nodup → (l.filter fun x => decide (t ≤ x)).length = (l.filter fun x => decide (t + 1 ≤ x)).length + if t ∈ l then 1 else 0
  | [], _ => by simp
  | x :: l, h => by
    obtain ⟨h1, h2⟩ := List.nodup_cons.mp h
    have ih := cnt_step t h2
    rw [List.filter_cons, List.filter_cons]
    by_cases e : x = t
    · subst e
      rw [if_neg h1] at ih
      rw [if_pos (by simp), if_neg (by simp), if_pos List.mem_cons_self, List.length_cons, ih]
    · have em : (t ∈ x :: l) ↔ t ∈ l := by rw [List.mem_cons]; exact ⟨fun q => q.resolve_left fun z => e z.symm, .inr⟩
      by_cases g : t + 1 ≤ x
      · rw [if_pos (by simpa using (show t ≤ x by omega)), if_pos (by simpa using g), List.length_cons, List.length_cons, ih]
        by_cases m : t ∈ l
        · simp only [if_pos m, if_pos (em.mpr m)] <;> omega
        · simp only [if_neg m, if_neg fun q => m (em.mp q)] <;> omega
      · rw [if_neg (by simpa using (show ¬ t ≤ x by omega)), if_neg (by simpa using g), ih]
        by_cases m : t ∈ l
        · rw [if_pos m, if_pos (em.mpr m)]
        · rw [if_neg m, if_neg fun q => m (em.mp q)]
theorem mis_step {bs : List (List Nat)} (k : BefOk bs) (t p : Nat) : mis bs t p = mis bs (t + 1) p + if t ∈ row bs p then 1 else 0 := cnt_step t (row_nd k p)
/-- a number whose lowest bit is t -/
theorem low_form {r t : Nat} (h1 : r.testBit t = true) (h0 : ∀ j, j < t → r.testBit j = false) : ∃ m, r = 2 ^ t * (2 * m + 1) := by
  have e0 : r % 2 ^ t = 0 := Nat.eq_of_testBit_eq fun i => by
    rw [Nat.testBit_mod_two_pow, Nat.zero_testBit]
    by_cases h : i < t
    · rw [h0 i h, Bool.and_false]
    · rw [decide_eq_false h]; rfl
  have e1 : r / 2 ^ t % 2 = 1 := by
    rw [Nat.testBit_eq_decide_div_mod_eq] at h1
    exact of_decide_eq_true h1
  refine ⟨r / 2 ^ t / 2, ?_⟩
  have a := Nat.div_add_mod r (2 ^ t)
  have b := Nat.div_add_mod (r / 2 ^ t) 2
  rw [e0, Nat.add_zero] at a
  rw [e1] at b
  rw [b]
  exact a.symm
theorem aft_mem {bs : List (List Nat)} {t p : Nat} : p ∈ aft bs t ↔ p < bs.length ∧ t ∈ row bs p := by
  unfold aft aftUp
  rw [List.mem_filter, List.mem_range, decide_eq_true_eq]
theorem aft_nd (bs : List (List Nat)) (t : Nat) : (aft bs t).Nodup := ((range_lt _).imp fun z => Nat.ne_of_lt z).filter _
/-- the ready places -/
structure Rdy (bs : List (List Nat)) (t r : Nat) : Prop where
  bit : ∀ p, r.testBit p = true ↔ t ≤ p ∧ p < bs.length ∧ mis bs t p = 0
theorem Rdy.low {bs : List (List Nat)} {t r : Nat} (k : BefOk bs) (h : Rdy bs t r) (ht : t < bs.length) : ∃ m, r = 2 ^ t * (2 * m + 1) := by
  refine low_form ((h.bit t).mpr ⟨Nat.le_refl _, ht, mis_self k t⟩) fun j hj => ?_
  cases e : r.testBit j with
  | false => rfl
  | true => have := ((h.bit j).mp e).1; omega
theorem Rdy.none {bs : List (List Nat)} {r : Nat} (h : Rdy bs bs.length r) : r = 0 := Nat.eq_of_testBit_eq fun i => by
  rw [Nat.zero_testBit]
  cases e : r.testBit i with
  | false => rfl
  | true =>
    obtain ⟨h1, h2, _⟩ := (h.bit i).mp e
    omega
/-- within the walk over the afters of t: the first j of them are told -/
structure Rdj (bs : List (List Nat)) (t j r : Nat) : Prop where
  bit : ∀ p, r.testBit p = true ↔ t + 1 ≤ p ∧ p < bs.length ∧ (if p ∈ (aft bs t).take j then mis bs (t + 1) p else mis bs t p) = 0
def mj (bs : List (List Nat)) (t j p : Nat) : Nat := if p ∈ (aft bs t).take j then mis bs (t + 1) p else mis bs t p
theorem Rdy.start {bs : List (List Nat)} {t r : Nat} (k : BefOk bs) (ht : t < bs.length) (h : Rdy bs t r) : Rdj bs t 0 (r ^^^ 2 ^ t) := by
  refine ⟨fun p => ?_⟩
  rw [Nat.testBit_xor, bit_pow, List.take_zero, if_neg List.not_mem_nil]
  by_cases e : p = t
  · subst e
    rw [decide_eq_true rfl, (h.bit p).mpr ⟨Nat.le_refl _, ht, mis_self k p⟩]
    exact ⟨fun q => absurd q (by decide), fun q => by omega⟩
  · rw [decide_eq_false e, Bool.xor_false, h.bit p]
    constructor
    · rintro ⟨h1, h2, h3⟩; exact ⟨by omega, h2, h3⟩
    · rintro ⟨h1, h2, h3⟩; exact ⟨by omega, h2, h3⟩
theorem mj_zero (bs : List (List Nat)) (t p : Nat) : mj bs t 0 p = mis bs t p := by
  unfold mj
  rw [List.take_zero, if_neg List.not_mem_nil]
theorem mj_at {bs : List (List Nat)} (k : BefOk bs) {t j c : Nat} (hc : (aft bs t)[j]? = some c) : mj bs t j c = mis bs (t + 1) c + 1 := by
  unfold mj
  rw [if_neg (take_not hc (aft_nd bs t)), mis_step k t c, if_pos (aft_mem.mp (List.mem_of_getElem? hc)).2]
theorem mj_succ {bs : List (List Nat)} {t j c : Nat} (hc : (aft bs t)[j]? = some c) (p : Nat) : mj bs t (j + 1) p = if p = c then mis bs (t + 1) c else mj bs t j p := by
  unfold mj
  have tk := take_mem hc (x := p)
  by_cases e : p = c
  · subst e
    rw [if_pos rfl, if_pos (tk.mpr (.inr rfl))]
  · rw [if_neg e]
    by_cases m : p ∈ (aft bs t).take j
    · rw [if_pos m, if_pos (tk.mpr (.inl m))]
    · rw [if_neg m, if_neg fun q => (tk.mp q).elim m e]
theorem mj_done {bs : List (List Nat)} (k : BefOk bs) {t p : Nat} (hp : p < bs.length) : mj bs t (aft bs t).length p = mis bs (t + 1) p := by
  unfold mj
  rw [List.take_length]
  by_cases m : p ∈ aft bs t
  · rw [if_pos m]
  · rw [if_neg m, mis_step k t p, if_neg fun q => m (aft_mem.mpr ⟨hp, q⟩)]
    rfl
theorem Rdj.step {bs : List (List Nat)} (k : BefOk bs) {t j r c : Nat} (h : Rdj bs t j r) (hc : (aft bs t)[j]? = some c) : Rdj bs t (j + 1) (if mis bs (t + 1) c = 0 then r ||| 2 ^ c else r) := by
  have hb : ∀ p, r.testBit p = true ↔ t + 1 ≤ p ∧ p < bs.length ∧ mj bs t j p = 0 := h.bit
  refine ⟨fun p => ?_⟩
  show _ ↔ t + 1 ≤ p ∧ p < bs.length ∧ mj bs t (j + 1) p = 0
  have cm := aft_mem.mp (List.mem_of_getElem? hc)
  have ct := row_lt k cm.2
  have c0 : r.testBit c = false := by
    cases e : r.testBit c with
    | false => rfl
    | true =>
      have := ((hb c).mp e).2.2
      rw [mj_at k hc] at this
      omega
  rw [mj_succ hc]
  by_cases e : p = c
  · subst e
    rw [if_pos rfl]
    by_cases z : mis bs (t + 1) p = 0
    · rw [if_pos z, Nat.testBit_or, bit_pow, decide_eq_true rfl, Bool.or_true]
      exact ⟨fun _ => ⟨ct, cm.1, z⟩, fun _ => rfl⟩
    · rw [if_neg z, c0]
      exact ⟨fun q => absurd q (by decide), fun q => absurd q.2.2 z⟩
  · rw [if_neg e, ← hb p]
    by_cases z : mis bs (t + 1) c = 0
    · rw [if_pos z, Nat.testBit_or, bit_pow, decide_eq_false e, Bool.or_false]
    · rw [if_neg z]
theorem Rdj.done {bs : List (List Nat)} (k : BefOk bs) {t r : Nat} (h : Rdj bs t (aft bs t).length r) : Rdy bs (t + 1) r := by
  refine ⟨fun p => ?_⟩
  have hb : r.testBit p = true ↔ t + 1 ≤ p ∧ p < bs.length ∧ mj bs t (aft bs t).length p = 0 := h.bit p
  rw [hb]
  constructor
  · rintro ⟨h1, h2, h3⟩
    rw [mj_done k h2] at h3
    exact ⟨h1, h2, h3⟩
  · rintro ⟨h1, h2, h3⟩
    exact ⟨h1, h2, by rw [mj_done k h2]; exact h3⟩
/-- a row of numbers by place -/
def vL (f : Nat → Nat) (n : Nat) : List V := (List.range n).map fun p => V.int ((f p : Nat) : Int)
theorem vL_len (f : Nat → Nat) (n : Nat) : (vL f n).length = n := by unfold vL; rw [List.length_map, List.length_range]
theorem vL_at {f : Nat → Nat} {n k : Nat} (h : k < n) : (vL f n)[k]? = some (.int ((f k : Nat) : Int)) := by
  unfold vL
  rw [List.getElem?_map, List.getElem?_range h]
  rfl
theorem vL_set {f g : Nat → Nat} {n k v : Nat} (h : k < n) (e : ∀ p, g p = if p = k then v else f p) : (vL f n).set k (.int ((v : Nat) : Int)) = vL g n := by
  refine List.ext_getElem? fun i => ?_
  rw [List.getElem?_set]
  by_cases hi : i < n
  · rw [vL_at hi, vL_at hi, vL_len]
    by_cases ki : k = i
    · subst ki
      rw [if_pos rfl, if_pos h, e, if_pos rfl]
    · rw [if_neg ki, e, if_neg fun z => ki z.symm]
  · rw [if_neg (by omega), List.getElem?_eq_none (by rw [vL_len]; omega), List.getElem?_eq_none (by rw [vL_len]; omega)]
theorem vL_congr {f g : Nat → Nat} {n : Nat} (h : ∀ p, p < n → f p = g p) : vL f n = vL g n := List.map_congr_left fun p hp => by rw [h p (List.mem_range.mp hp)]
theorem vL_succ (f : Nat → Nat) (n : Nat) : vL f (n + 1) = vL f n ++ [.int ((f n : Nat) : Int)] := by
  unfold vL
  rw [List.range_succ, List.map_append]
  rfl
section
variable {P : Program} {w : World} {K : PySem.W.Frag} {mg : Str → Option Value} {base : Heap} {a : Ad}
def spOR : Sp := fun vs H Q _ => ∃ (p q : Addr) (bs : List (List Nat)), vs = [.ref p, .ref q] ∧ ArrT H p bs ∧ ArrT H q (afts bs) ∧ BefOk bs ∧ ∀ t H', Evl.Ex H H' → H' t = some (.tup ((nI (List.range bs.length)).map V.int)) → Q (.ref t) H'
def ivO0 (H : Hp) (bs : List (List Nat)) (D : Addr) (i : Nat) (H' : Hp) : Prop := Evl.Ex H H' ∧ H' D = some (.lst (vL (fun p => (row bs p).length) i))
def r0 (bs : List (List Nat)) (i : Nat) : List Nat := (List.range i).filter fun p => decide ((row bs p).length = 0)
def ivO1 (H : Hp) (bs : List (List Nat)) (D : Addr) (i : Nat) (H' : Hp) : Prop := Evl.Ex H H' ∧ H' D = some (.lst ((nI (r0 bs i)).map V.int))
def ivO3 (H : Hp) (p q M O : Addr) (bs : List (List Nat)) (m : Nat) (σ : L2.St) (H' : Hp) : Prop := ∃ (t r : Nat) (v5 v6 v7 v8 v9 : Option V), m = bs.length - t ∧ t ≤ bs.length ∧ σ = [some (.ref p), some (.ref q), some (.ref M), some (.int (r : Nat)), some (.ref O), v5, v6, v7, v8, v9] ∧ Evl.Ex H H' ∧
  H' M = some (.lst (vL (mis bs t) bs.length)) ∧ H' O = some (.lst ((nI (List.range t)).map V.int)) ∧ Rdy bs t r
def ivO4 (H : Hp) (p q M O : Addr) (bs : List (List Nat)) (t : Nat) : Nat → L2.St → Hp → Prop := fun j σ H' => ∃ (r : Nat) (v5 v6 v7 v8 v9 : Option V), σ = [some (.ref p), some (.ref q), some (.ref M), some (.int (r : Nat)), some (.ref O), v5, v6, v7, v8, v9] ∧ Evl.Ex H H' ∧
  H' M = some (.lst (vL (mj bs t j) bs.length)) ∧ H' O = some (.lst ((nI (List.range (t + 1))).map V.int)) ∧ Rdj bs t j r
theorem ok_ordered_of (T : Txt K mg a) : FnOk P w K mg base CX0 2 a.f_ordered_of a.d_ordered_of ["befores", "afters"] spOR := by
  refine T.F_ordered_of.ok sc_ordered_of (fun vs H Q E h => ?_) (fun cdv A outer s H vs Q E hr h => ?_)
  · obtain ⟨_, _, _, rfl, _⟩ := h
    rfl
  · obtain ⟨p, q, bs, rfl, ⟨xs, hp, hx⟩, hq, hb, k⟩ := h
    have lx := paired_len hx
    refine ⟨_, (pss_cons (ps_setLc (i := 2) (own := [("listed", 8)]) (g := gName 8) (tt := tYes) rfl sc_ordered_of.nd rfl rfl (sw_true rfl rfl rfl (by decide +kernel)) (pi_tup (pv 0)) (blkOk_by (own := [("listed", 8)]) (N := ["befores", "afters", "missing", "ready", "ordered", "lowest", "place", "after", "listed", "many"]) (sc := defScope s_ordered_of) (by decide +kernel)) (fun _ _ _ _ _ => pg_name (i := 8) sc_ordered_of.nd rfl (Or.inl rfl)) (fun _ _ _ _ _ => pts_nil) (fun _ _ _ _ _ => (pe_callB call_len_seq_b (by rfl) T.z_len (by decide +kernel) (pa_cons (pv 8) pa_nil))))
  (pss_cons (ps_set (i := 3) sc_ordered_of.nd rfl (by first | exact Or.inl rfl | exact Or.inr rfl) (pe_call (ok_mask_of T) (hr.mono (by decide)) rfl T.m_mask_of T.F_mask_of.kp T.b_mask_of .nil pass0 (pa_cons (pe_lc (own := [("place", 6), ("many", 9)]) (g := gTup K 2 (gCons (gName 6) (gCons (gName 9) (gNil))))  rfl sc_ordered_of.nd (pi_enum (by rfl) T.z_enumerate (pa_cons (pv 2) pa_nil)) (blkOk_by (own := [("place", 6), ("many", 9)]) (N := ["befores", "afters", "missing", "ready", "ordered", "lowest", "place", "after", "listed", "many"]) (sc := defScope s_ordered_of) (by decide +kernel)) (fun _ _ _ _ _ => pg_tup rfl (pgs_cons (pg_name (i := 6) sc_ordered_of.nd rfl (Or.inl rfl)) (pgs_cons (pg_name (i := 9) sc_ordered_of.nd rfl (Or.inl rfl)) pgs_nil))) (fun _ _ _ _ _ => (pts_one (pt_cmpR op_eq (pv 9) pe_int (nomark _)))) (fun _ _ _ _ _ => (pv 6))) pa_nil)))
  (pss_cons (ps_set (i := 4) sc_ordered_of.nd rfl (by first | exact Or.inl rfl | exact Or.inr rfl) (pe_lst pa_nil))
  (pss_cons (ps_while (by first | exact passes_of rfl | exact PassesOwn.never) (pt_truth (pv 3) (by intro _; rfl)) (pss_cons (ps_set (i := 5) sc_ordered_of.nd rfl (by first | exact Or.inl rfl | exact Or.inr rfl) (pe_op op_low (pv 3) (pe_un un_neg (pv 3))))
  (pss_cons (ps_set (i := 6) sc_ordered_of.nd rfl (by first | exact Or.inl rfl | exact Or.inr rfl) (pe_op op_sub (pe_bits (pv 5)) pe_int))
  (pss_cons (ps_aug (i := 3) sc_ordered_of.nd rfl (by first | exact Or.inl rfl | exact Or.inr rfl) (pv 5) ip_xorN)
  (pss_cons (ps_expr (pe_bm PySem.F.plainAttrs_list PySem.F.slot_list_append PySem.F.type_list_append mt_append (pv 4) (pa_cons (pv 6) pa_nil)))
  (pss_one (ps_for PassesOwn.never rfl (pi_tup (pe_ix ix_tup (pv 1) (pv 6) (fun _ _ => rfl))) (pg_name (i := 7) sc_ordered_of.nd rfl (by first | exact Or.inl rfl | exact Or.inr rfl)) (pss_cons (ps_augS (pv 2) (pv 7) get_list pe_int ip_sub set_list)
  (pss_one (ps_if (pt_cmpR op_eq (pe_ix ix_list (pv 2) (pv 7) (fun _ _ => rfl)) pe_int (nomark _)) (pss_one (ps_aug (i := 3) sc_ordered_of.nd rfl (by first | exact Or.inl rfl | exact Or.inr rfl) (pe_op op_shlK pe_int (pv 7)) ip_orN))
    pss_nil))))))))))
  (pss_one (ps_ret (pe_callTy call_tuple_of (by rfl) T.z_tuple (by decide +kernel) (pa_cons (pv 4) pa_nil)))))))), ?_⟩
    walk_at "sm"
    refine ⟨⟨_, SqT.of hp⟩, lcg_tup (K := K) (a := p) (xs := xs) (ivO0 H bs) (fun D hD => ⟨Evl.Ex.new hD, upd_same⟩) (fun D i HX hD hi h => SqT.of (h.1 _ _ hp)) ?_ ?_⟩
    · rintro D i x HX hD hi ⟨f1, f2⟩
      obtain ⟨b, hb1, c, rfl, hc⟩ := paired_at hx hi
      walk_at "sm"
      have li := (List.getElem?_eq_some_iff.mp hb1).1
      have lb := hb.2.1
      refine ⟨_, .inr (SqT.of (f1 _ _ hc)), _, f2, Nat.lt_of_le_of_lt (show _ ≤ 200 by rw [vL_len]; omega) (by decide), f1.mut hD, ?_⟩
      rw [upd_same, vL_succ, nI_len, row_of hb1]
    · rintro M HX hM ⟨f1, f2⟩
      walk_at "sm"
      refine lcg_listE (xs := vL (fun p => (row bs p).length) xs.length) rfl f2 (ivO1 HX bs) (fun D hD => ⟨Evl.Ex.new hD, upd_same⟩) (fun D i HY hD h => h.1) ?_ ?_
      · rintro D i HY Tt y hD hy ⟨g1, g2⟩ hT
        have hi2 : i < xs.length := by
          have := (List.getElem?_eq_some_iff.mp hy).1
          rw [vL_len] at this
          exact this
        rw [vL_at hi2] at hy
        obtain rfl := Option.some.inj hy
        have eT := Evl.Ex.new (o := .tup [.int (i : Nat), .int (((row bs i).length : Nat) : Int)]) hT
        have lb := hb.2.1
        have lr : (r0 bs i).length ≤ i := Nat.le_trans (List.length_filter_le _ _) (Nat.le_of_eq (List.length_range ..))
        have rs : r0 bs (i + 1) = r0 bs i ++ if (row bs i).length = 0 then [i] else [] := by
          unfold r0
          rw [List.range_succ, List.filter_append, List.filter_cons, List.filter_nil]
          by_cases z : (row bs i).length = 0
          · rw [if_pos z, if_pos (decide_eq_true z)]
          · rw [if_neg z, if_neg (by rw [decide_eq_false z]; decide)]
        walk_at "sm"
        refine ⟨_, SqT.of upd_same, rfl, _, _, rfl, _, _, rfl, rfl, rfl, ite2 (fun z => ?_) fun z => ?_⟩
        · have z2 : (row bs i).length = 0 := by
            have := V.int.inj z
            omega
          refine ⟨_, eT _ _ g2, Nat.lt_of_le_of_lt (show _ ≤ 200 by rw [nI_len]; omega) (by decide), (g1.trans eT).mut hD, ?_⟩
          rw [upd_same, rs, if_pos z2, nI_snoc]
        · have z2 : ¬ (row bs i).length = 0 := fun h => z (by rw [h]; rfl)
          refine ⟨g1.trans eT, ?_⟩
          rw [rs, if_neg z2, List.append_nil]
          exact eT _ _ g2
      · rintro D HY hD ⟨g1, g2⟩
        walk_at "sm"
        have nM : M ≠ D := fun z => by rw [← z, f2] at hD; cases hD
        rw [vL_len, lx] at g2
        rw [lx] at f2
        have e1 := f1.trans g1
        have mem0 : ∀ i, i ∈ r0 bs bs.length ↔ i < bs.length ∧ (row bs i).length = 0 := fun i => by
          unfold r0
          rw [List.mem_filter, List.mem_range, decide_eq_true_eq]
        refine ⟨D, r0 bs bs.length, rfl, .inr g2, fun x hx => by have := ((mem0 x).mp hx).1; have := hb.2.1; omega, Nat.zero_le _, fun O hO => ?_⟩
        have rdy : Rdy bs 0 (msk (r0 bs bs.length)) := ⟨fun x => by
          rw [msk_bit, decide_eq_true_eq, mem0, mis_zero]
          exact ⟨fun z => ⟨Nat.zero_le _, z.1, z.2⟩, fun z => ⟨z.2.1, z.2.2⟩⟩⟩
        have eO := Evl.Ex.new (o := .lst []) hO
        have nMO : M ≠ O := fun z => by
          have := g1 _ _ f2
          rw [z, hO] at this
          cases this
        have hO0 := Evl.fresh_back e1 hO
        refine ⟨ivO3 H p q M O bs, ⟨_, 0, _, none, none, none, none, none, rfl, Nat.zero_le _, rfl, e1.trans eO, (eO _ _ (g1 _ _ f2)).trans (by rw [vL_congr fun x _ => (mis_zero bs x).symm]), upd_same, rdy⟩, ?_⟩
        rintro m σ HW ⟨t, r, v5, v6, v7, v8, v9, rfl, ht, rfl, h1, h2, h3, h4⟩
        walk_at "sm"
        refine ⟨_, rfl, ?_⟩
        rcases Nat.lt_or_eq_of_le ht with tl | rfl
        · obtain ⟨mm, hmm⟩ := h4.low hb tl
          have rn : ((r : Int) != 0) = true := by
            have p2 : 0 < 2 ^ t := Nat.pow_pos (by decide)
            have : 0 < r := by rw [hmm]; exact Nat.mul_pos p2 (by omega)
            simp; omega
          rw [rn]
          refine iteT ⟨fun σ1 H1 => ∃ m1, m1 < bs.length - t ∧ ivO3 H p q M O bs m1 σ1 H1, fun σ1 H1 z => z, ?_⟩
          walk_at "sm"
          refine ⟨r, rfl, rfl, t, ⟨mm, hmm⟩, ⟨_, rfl, _, rfl, ?_⟩⟩
          rw [bits_pow]
          have lb := hb.2.1
          have i1 : (((t + 1 : Nat) : Int)) - 1 = (t : Int) := by omega
          refine ⟨_, rfl, r, rfl, 2 ^ t, rfl, (show tyV K "list" (.ref O) HW from .inl ⟨rfl, _, SqL.of h3⟩), O, _, _, rfl, rfl, h3, Nat.lt_of_le_of_lt (show _ ≤ 200 by rw [nI_len, List.length_range]; omega) (by decide), ?_⟩
          rw [i1]
          have h3' : upd HW O (.lst ((nI (List.range t)).map V.int ++ [.int (t : Nat)])) O = some (.lst ((nI (List.range (t + 1))).map V.int)) := by rw [upd_same, List.range_succ, nI_snoc]
          have h2' : upd HW O (.lst ((nI (List.range t)).map V.int ++ [.int (t : Nat)])) M = some (.lst (vL (mj bs t 0) bs.length)) := by rw [upd_ne nMO, h2, vL_congr fun x _ => (mj_zero bs t x).symm]
          have h1' := Evl.Ex.mut (o := .lst ((nI (List.range t)).map V.int ++ [.int (t : Nat)])) h1 hO0
          have h4' := h4.start hb tl
          generalize upd HW O (.lst ((nI (List.range t)).map V.int ++ [.int (t : Nat)])) = HV at h1' h2' h3' ⊢
          have ha : (afts bs)[t]? = some (aft bs t) := by
            unfold afts
            rw [List.getElem?_map, List.getElem?_range tl]
            rfl
          obtain ⟨ys, hq1, hq2⟩ := hq
          obtain ⟨y, hy1, c, rfl, hc⟩ := paired_of hq2 ha
          have hcV := h1' _ _ hc
          refine ⟨_, rfl, _, rfl, ixt (h1' _ _ hq1) (atI_nat hy1) ⟨c, rfl, ⟨_, SqT.of hcV⟩, for_tup (K := K) (a := c) (xs := (nI (aft bs t)).map V.int) (ivO4 H p q M O bs t) ⟨_, _, _, _, _, _, rfl, h1', h2', h3', h4'⟩ (fun j σ HU hj ⟨_, _, _, _, _, _, _, e, _⟩ => SqT.of (e _ _ hc)) ?_ ?_⟩⟩
          · rintro j x σ HU hj ⟨r, v5, v6, v7, v8, v9, rfl, k1, k2, k3, k4⟩
            obtain ⟨d, hd, rfl⟩ := nat_at hj
            have cm := aft_mem.mp (List.mem_of_getElem? hd)
            walk_at "sm"
            have ixd : ixN (vL (mj bs t j) bs.length).length (d : Int) = some d := by
              unfold ixN
              rw [vL_len, if_pos (Int.natCast_nonneg d), if_pos (by omega)]
              rfl
            have ev : (((mj bs t j d : Nat) : Int)) - 1 = ((mis bs (t + 1) d : Nat) : Int) := by
              rw [mj_at hb hd]
              omega
            refine ⟨_, rfl, _, rfl, M, _, d, _, rfl, rfl, k2, vL_at cm.1, _, _, rfl, rfl, M, _, (d : Int), d, rfl, rfl, k2, ixd, ?_⟩
            have hM0 : H M = none := Evl.fresh_back (Evl.Ex.refl H) hM
            dsimp only
            rw [ev, vL_set cm.1 (g := mj bs t (j + 1)) fun p => mj_succ hd p]
            have k1' := Evl.Ex.mut (o := .lst (vL (mj bs t (j + 1)) bs.length)) k1 hM0
            have k2' : upd HU M (.lst (vL (mj bs t (j + 1)) bs.length)) M = some (.lst (vL (mj bs t (j + 1)) bs.length)) := upd_same
            have k3' : upd HU M (.lst (vL (mj bs t (j + 1)) bs.length)) O = some (.lst ((nI (List.range (t + 1))).map V.int)) := by rw [upd_ne (Ne.symm nMO)]; exact k3
            generalize upd HU M (.lst (vL (mj bs t (j + 1)) bs.length)) = HU2 at k1' k2' k3' ⊢
            have st := k4.step hb hd
            walk_at "sm"
            refine ixl (SqL.of k2') (atI_nat (vL_at cm.1)) ⟨rfl, ?_⟩
            rw [mj_succ hd, if_pos rfl]
            refine ite2 (fun z => ?_) fun z => ?_
            · have z2 : mis bs (t + 1) d = 0 := by
                have := V.int.inj z
                omega
              rw [if_pos z2] at st
              exact ⟨d, rfl, by have := cm.1; omega, r, rfl, 2 ^ d, rfl, _, _, _, _, _, _, rfl, k1', k2', k3', st⟩
            · have z2 : ¬ mis bs (t + 1) d = 0 := fun h => z (by rw [h]; rfl)
              rw [if_neg z2] at st
              exact ⟨_, _, _, _, _, _, rfl, k1', k2', k3', st⟩
          · rintro σ HU ⟨r, v5, v6, v7, v8, v9, rfl, k1, k2, k3, k4⟩
            rw [nI_len] at k2 k4
            exact ⟨_, by omega, t + 1, r, v5, v6, v7, v8, v9, rfl, tl, rfl, k1, k2.trans (by rw [vL_congr fun x hx => mj_done hb hx]), k3, k4.done hb⟩
        · obtain rfl := h4.none
          exact iteF ⟨_, .inl ⟨SqL.of h3, fun l hl => k l _ (h1.trans (Evl.Ex.new hl)) upd_same⟩⟩
end


/-! ### check_roads, is_place, Bare.__init__ -/
section
variable {P : Program} {w : World} {K : PySem.W.Frag} {mg : Str → Option Value} {base : Heap} {a : Ad}
theorem BefOk.arr {bs : List (List Nat)} (k : BefOk bs) : ArrOk bs := ⟨k.2.1, fun b hb => by
  obtain ⟨i, hi⟩ := List.mem_iff_getElem?.mp hb
  obtain ⟨h1, h2, h3⟩ := k.2.2 i b hi
  have li := (List.getElem?_eq_some_iff.mp hi).1
  exact ⟨by omega, fun q hq => Nat.lt_trans (h2 q hq) li⟩⟩
/-- every place is the end or leads to it -/
def Roads (bs : List (List Nat)) (e : Nat) : Prop := ∀ q, q < bs.length → q = e ∨ Rc bs 0 e q
def spCR : Sp := fun vs H Q _ => ∃ (p : Addr) (bs : List (List Nat)) (e : Nat), vs = [.ref p, .int e] ∧ ArrT H p bs ∧ ArrOk bs ∧ e < bs.length ∧ Roads bs e ∧ ∀ H', Evl.Ex H H' → Q .non H'
def ivCR (p : Addr) (e r : Nat) (H : Hp) : Nat → L2.St → Hp → Prop := fun _ σ H' => ∃ v, σ = [some (.ref p), some (.int e), some (.int (r : Nat)), v] ∧ H' = H
theorem ok_check_roads (T : Txt K mg a) : FnOk P w K mg base (L2.CX P w) 3 a.f_check_roads a.d_check_roads ["befores", "end"] spCR := by
  refine T.F_check_roads.okX sc_check_roads (fun vs H Q E h => ?_) (fun cdv A outer s H vs Q E hr h => ?_)
  · obtain ⟨_, _, _, rfl, _⟩ := h
    rfl
  · obtain ⟨p, bs, e, rfl, ha, hb, he, hrd, k⟩ := h
    refine ⟨_, (pss_cons (ps_set (i := 2) sc_check_roads.nd rfl (by first | exact Or.inl rfl | exact Or.inr rfl) (pe_op op_orN (pe_call (ok_reached_along T) (hr.mono (by decide)) rfl T.m_reached_along T.F_reached_along.kp T.b_reached_along.choose_spec.2 T.b_reached_along.choose_spec.1 pass0 (pa_cons (pv 0) (pa_cons (pv 1) pa_nil))) (pe_op op_shlK pe_int (pv 1))))
  (pss_one (ps_for (passes_of rfl) rfl (pi_range1 (by rfl) T.z_range (pa_cons (pe_callB call_len_seq (by rfl) T.z_len (by decide +kernel) (pa_cons (pv 0) pa_nil)) pa_nil)) (pg_name (i := 3) sc_check_roads.nd rfl (by first | exact Or.inl rfl | exact Or.inr rfl)) (pss_one (ps_if (pt_not (pt_truth (pe_op op_odd (pe_op op_shrK (pv 2) (pv 3)) pe_int) (by intro _; rfl))) (pss_one (ps_raise rfl (takes_of rfl rfl rfl rfl) (pmk_oex T.x_BadBare T.xi_BadBare T.xt_BadBare (ok_BadBare_init T) (hr.mono (by decide)) T.b_BadBare___init__ .nil pass0 rfl T.m_BadBare (pa_cons (pv 3) (pa_cons pe_str pa_nil)))))
    pss_nil))))), ?_⟩
    walk_at "sm"
    refine ⟨p, bs, e, 0, rfl, ha.arr, hb, he, fun r H1 e1 hr1 => ⟨e, rfl, by have := hb.1; omega, r, rfl, 2 ^ e, rfl, ?_⟩⟩
    obtain ⟨xs, hp, hx⟩ := ha
    have lx := paired_len hx
    have hp1 := e1 _ _ hp
    have on : ∀ q, q < bs.length → (r ||| 2 ^ e).testBit q = true := fun q hq => by
      rw [Nat.testBit_or, bit_pow, Bool.or_eq_true, decide_eq_true_eq, hr1]
      exact (hrd q hq).symm
    refine ⟨_, rfl, p, rfl, xs, .inr (SqT.of hp1), _, rfl, by omega, by have := hb.1; omega, for_range (lo := 0) (n := ((xs.length : Nat) : Int).toNat) (ivCR p e (r ||| 2 ^ e) H1) ⟨none, rfl, rfl⟩ ?_ ?_⟩
    · rintro i σ HX hi ⟨v, rfl, rfl⟩
      have hi2 : i < bs.length := by omega
      walk_at "sm"
      refine ⟨r ||| 2 ^ e, rfl, i, by omega, _, rfl, _, rfl, ?_⟩
      rw [tru_bit, on i hi2]
      exact iteF ⟨_, rfl, rfl⟩
    · rintro σ HX ⟨v, rfl, rfl⟩
      exact k _ e1
def spIP (C : Addr) : Sp := fun vs H Q _ => ∃ (x p dx : Addr) (xs : List V) (e : Nat), vs = [.ref x, .int e] ∧ H x = some (.ins C dx [("befores", .ref p)]) ∧ H p = some (.tup xs) ∧ e < xs.length ∧ Q (.bl true) H
theorem ok_is_place (T : Txt K mg a) : FnOk P w K mg base CX0 3 a.f_is_place a.d_is_place ["bare", "thing"] (spIP a.c_Bare) := by
  refine T.F_is_place.ok sc_is_place (fun vs H Q E h => ?_) (fun cdv A outer s H vs Q E hr h => ?_)
  · obtain ⟨_, _, _, _, _, rfl, _⟩ := h
    rfl
  · obtain ⟨x, p, dx, xs, e, rfl, hx, hp, he, k⟩ := h
    refine ⟨_, (pss_one (ps_ret (pe_call (ok_is_within T) (hr.mono (by decide)) rfl T.m_is_within T.F_is_within.kp T.b_is_within .nil pass0 (pa_cons (pv 1) (pa_cons pe_int (pa_cons (pe_op op_sub (pe_callB call_len_seq (by rfl) T.z_len (by decide +kernel) (pa_cons (pe_fld (pv 0) rfl) pa_nil)) pe_int) pa_nil)))))), ?_⟩
    walk_at "sm"
    refine ⟨_, _, _, hx, T.ic_Bare.cl, T.na_Bare_befores, _, rfl, p, rfl, xs, .inr (SqT.of hp), .int e, 0, _, rfl, plain_int, ?_⟩
    rw [show wiB (.int (e : Int)) 0 ((xs.length : Int) - 1) = true from (by show (decide ((0 : Int) ≤ (e : Int)) && decide ((e : Int) ≤ (xs.length : Int) - 1)) = true; rw [decide_eq_true (show (0 : Int) ≤ (e : Int) by omega), decide_eq_true (show (e : Int) ≤ (xs.length : Int) - 1 by omega)]; rfl)]
    exact k
def BareAt (C : Addr) (H : Hp) (x : Addr) (bs : List (List Nat)) (e : Nat) : Prop := ∃ dx p af od nd, H x = some (.ins C dx [("befores", .ref p), ("end", .int e), ("afters", .ref af), ("ordered", .ref od), ("needs", .ref nd)]) ∧ ArrT H p bs ∧ ArrT H af (afts bs) ∧
  H od = some (.tup ((nI (List.range bs.length)).map V.int)) ∧ H nd = some (.tup ((nI (bs.map msk)).map V.int))
theorem BareAt.go {C : Addr} {H H' : Hp} {x : Addr} {bs : List (List Nat)} {e : Nat} (k : Evl.Ex H H') (h : BareAt C H x bs e) : BareAt C H' x bs e := by
  obtain ⟨dx, p, af, od, nd, h1, h2, h3, h4, h5⟩ := h
  exact ⟨dx, p, af, od, nd, k _ _ h1, h2.go (Kp.ex k), h3.go (Kp.ex k), k _ _ h4, k _ _ h5⟩
/-- check_rings is not asked for -/
def spNo : Sp := fun _ _ _ _ => False
theorem ok_check_rings (T : Txt K mg a) : FnOk P w K mg base (L2.CX P w) 3 a.f_check_rings a.d_check_rings ["befores"] spNo := by
  refine T.F_check_rings.okX sc_check_rings (fun vs H Q E h => h.elim) (fun cdv A outer s H vs Q E hr h => h.elim)
def spBI (a : Ad) : Sp := fun vs H Q _ => ∃ (x dx p : Addr) (bs : List (List Nat)) (e : Nat), vs = [.ref x, .ref p, .int e] ∧ H x = some (.ins a.c_Bare dx []) ∧ Arr H p bs ∧ BefOk bs ∧ e < bs.length ∧ Roads bs e ∧ ∀ H', Fr x H H' → BareAt a.c_Bare H' x bs e → Q .non H'
def ivBM (H : Hp) (bs : List (List Nat)) (D : Addr) (i : Nat) (H' : Hp) : Prop := Evl.Ex H H' ∧ H' D = some (.lst ((nI ((bs.take i).map msk)).map V.int))
theorem ok_Bare_init (T : Txt K mg a) : FnOk P w K mg base (L2.CX P w) 5 a.f_Bare___init__ a.d_Bare___init__ ["self", "befores", "end"] (spBI a) := by
  refine T.F_Bare___init__.okX sc_Bare___init__ (fun vs H Q E h => ?_) (fun cdv A outer s H vs Q E hr h => ?_)
  · obtain ⟨_, _, _, _, _, rfl, _⟩ := h
    rfl
  · obtain ⟨x, dx, p, bs, e, rfl, hx, ha, hb, he, hrd, k⟩ := h
    refine ⟨_, (pss_cons (ps_fld (pv 0) (pe_call (ok_checked_befores T) (hr.mono (by decide)) rfl T.m_checked_befores T.F_checked_befores.kp T.b_checked_befores .nil (passes_call (takes_of rfl rfl rfl rfl) (fun _ _ _ _ q => q)) (pa_cons (pv 1) pa_nil)) rfl)
  (pss_cons (ps_if (pt_not (pt_val (pe_call (ok_is_place T) (hr.mono (by decide)) rfl T.m_is_place T.F_is_place.kp T.b_is_place .nil pass0 (pa_cons (pv 0) (pa_cons (pv 2) pa_nil))))) (pss_one (ps_raise rfl (takes_of rfl rfl rfl rfl) (pmk_oex T.x_BadBare T.xi_BadBare T.xt_BadBare (ok_BadBare_init T) (hr.mono (by decide)) T.b_BadBare___init__ .nil pass0 rfl T.m_BadBare (pa_cons (pe_un un_neg pe_int) (pa_cons pe_str pa_nil)))))
    pss_nil)
  (pss_cons (ps_fld (pv 0) (pv 2) rfl)
  (pss_cons (ps_fld (pv 0) (pe_call (ok_afters_of T) (hr.mono (by decide)) rfl T.m_afters_of T.F_afters_of.kp T.b_afters_of .nil pass0 (pa_cons (pe_fld (pv 0) rfl) pa_nil)) rfl)
  (pss_cons (ps_fld (pv 0) (pe_call (ok_ordered_of T) (hr.mono (by decide)) rfl T.m_ordered_of T.F_ordered_of.kp T.b_ordered_of .nil pass0 (pa_cons (pe_fld (pv 0) rfl) (pa_cons (pe_fld (pv 0) rfl) pa_nil))) rfl)
  (pss_cons (ps_if (pt_cmpR op_lt (pe_callB call_len_seq (by rfl) T.z_len (by decide +kernel) (pa_cons (pe_fld (pv 0) rfl) pa_nil)) (pe_callB call_len_seq (by rfl) T.z_len (by decide +kernel) (pa_cons (pe_fld (pv 0) rfl) pa_nil)) (nomark _)) (pss_one (ps_expr (pe_call (ok_check_rings T) (hr.mono (by decide)) rfl T.m_check_rings T.F_check_rings.kp T.b_check_rings .nil (passes_call (takes_of rfl rfl rfl rfl) (fun _ _ _ _ q => q)) (pa_cons (pe_fld (pv 0) rfl) pa_nil))))
    pss_nil)
  (pss_cons (ps_expr (pe_call (ok_check_roads T) (hr.mono (by decide)) rfl T.m_check_roads T.F_check_roads.kp T.b_check_roads .nil (passes_call (takes_of rfl rfl rfl rfl) (fun _ _ _ _ q => q)) (pa_cons (pe_fld (pv 0) rfl) (pa_cons (pv 2) pa_nil))))
  (pss_one (ps_fld (pv 0) (pe_callTy call_tuple_of (by rfl) T.z_tuple (by decide +kernel) (pa_cons (pe_lc (own := [("listed", 3)]) (g := gName 3) (tt := tYes) rfl sc_Bare___init__.nd (pi_tup (pe_fld (pv 0) rfl)) (blkOk_by (own := [("listed", 3)]) (N := ["self", "befores", "end", "listed"]) (sc := defScope s_Bare___init__) (by decide +kernel)) (fun _ _ _ _ _ => pg_name (i := 3) sc_Bare___init__.nd rfl (Or.inl rfl)) (fun _ _ _ _ _ => pts_nil) (fun _ _ _ _ _ => (pe_call (ok_mask_of T) (hr.mono (by decide)) rfl T.m_mask_of T.F_mask_of.kp T.b_mask_of .nil pass0 (pa_cons (pv 3) pa_nil)))) pa_nil)) rfl))))))))), ?_⟩
    walk_at "sm"
    refine ⟨p, bs, rfl, ha, hb, fun p0 H1 e1 h1 => ?_⟩
    have x1 := e1 _ _ hx
    have fld : ∀ f, f = "befores" ∨ f = "end" ∨ f = "afters" ∨ f = "ordered" ∨ f = "needs" → NoAttr K a.c_Bare f := fun f h => by
      rcases h with rfl | rfl | rfl | rfl | rfl
      · exact T.na_Bare_befores
      · exact T.na_Bare_end
      · exact T.na_Bare_afters
      · exact T.na_Bare_ordered
      · exact T.na_Bare_needs
    refine ⟨_, _, _, x1, T.ic_Bare.cl, T.na_Bare_befores, by decide, ?_⟩
    have k1 := Kp.fr (H' := upd H1 x (.ins a.c_Bare dx (putF "befores" (.ref p0) []))) x1 Fr.upd
    have f1 := (Fr.of (p := x) e1).trans (H2 := upd H1 x (.ins a.c_Bare dx (putF "befores" (.ref p0) []))) Fr.upd
    have x2 : upd H1 x (.ins a.c_Bare dx (putF "befores" (.ref p0) [])) x = some (.ins a.c_Bare dx [("befores", .ref p0)]) := upd_same
    have h2 := h1.go k1
    generalize upd H1 x (.ins a.c_Bare dx (putF "befores" (.ref p0) [])) = H2 at k1 f1 x2 h2 ⊢
    obtain ⟨xs, hp2, hxs⟩ := id h2
    refine ⟨x, p0, dx, xs, e, rfl, x2, hp2, by rw [paired_len hxs]; exact he, _, rfl, iteF ⟨_, _, _, x2, T.ic_Bare.cl, T.na_Bare_end, (by show 1 < 1000; omega), _, _, _, upd_same, T.ic_Bare.cl, T.na_Bare_befores, _, rfl, ?_⟩⟩
    have k2 := Kp.fr (H' := upd H2 x (.ins a.c_Bare dx (putF "end" (.int e) [("befores", .ref p0)]))) x2 Fr.upd
    have f2 := f1.trans (H2 := upd H2 x (.ins a.c_Bare dx (putF "end" (.int e) [("befores", .ref p0)]))) Fr.upd
    have x3 : upd H2 x (.ins a.c_Bare dx (putF "end" (.int e) [("befores", .ref p0)])) x = some (.ins a.c_Bare dx [("befores", .ref p0), ("end", .int e)]) := upd_same
    have h3 := h2.go k2
    generalize upd H2 x (.ins a.c_Bare dx (putF "end" (.int e) [("befores", .ref p0)])) = H3 at k2 f2 x3 h3 ⊢
    refine ⟨p0, bs, rfl, h3, hb, fun af H4 e4 ha4 => ?_⟩
    have x4 := e4 _ _ x3
    have h4 := h3.go (Kp.ex e4)
    have f4 := f2.trans (Fr.of e4)
    refine ⟨_, _, _, x4, T.ic_Bare.cl, T.na_Bare_afters, (by show 2 < 1000; omega), _, _, _, upd_same, T.ic_Bare.cl, T.na_Bare_befores, _, rfl, ?_⟩
    have k5 := Kp.fr (H' := upd H4 x (.ins a.c_Bare dx (putF "afters" (.ref af) [("befores", .ref p0), ("end", .int e)]))) x4 Fr.upd
    have f5 := f4.trans (H2 := upd H4 x (.ins a.c_Bare dx (putF "afters" (.ref af) [("befores", .ref p0), ("end", .int e)]))) Fr.upd
    have x5 : upd H4 x (.ins a.c_Bare dx (putF "afters" (.ref af) [("befores", .ref p0), ("end", .int e)])) x = some (.ins a.c_Bare dx [("befores", .ref p0), ("end", .int e), ("afters", .ref af)]) := upd_same
    have h5 := h4.go k5
    have ha5 := ha4.go k5
    generalize upd H4 x (.ins a.c_Bare dx (putF "afters" (.ref af) [("befores", .ref p0), ("end", .int e)])) = H5 at k5 f5 x5 h5 ha5 ⊢
    walk_at "sm"
    refine ⟨_, _, _, x5, T.ic_Bare.cl, T.na_Bare_afters, _, rfl, p0, af, bs, rfl, h5, ha5, hb, fun od H6 e6 ho6 => ?_⟩
    have x6 := e6 _ _ x5
    have h6 := h5.go (Kp.ex e6)
    have ha6 := ha5.go (Kp.ex e6)
    have f6 := f5.trans (Fr.of e6)
    have x7 : upd H6 x (.ins a.c_Bare dx (putF "ordered" (.ref od) [("befores", .ref p0), ("end", .int e), ("afters", .ref af)])) x = some (.ins a.c_Bare dx [("befores", .ref p0), ("end", .int e), ("afters", .ref af), ("ordered", .ref od)]) := upd_same
    have k7 := Kp.fr (H' := upd H6 x (.ins a.c_Bare dx (putF "ordered" (.ref od) [("befores", .ref p0), ("end", .int e), ("afters", .ref af)]))) x6 Fr.upd
    have f7 := f6.trans (H2 := upd H6 x (.ins a.c_Bare dx (putF "ordered" (.ref od) [("befores", .ref p0), ("end", .int e), ("afters", .ref af)]))) Fr.upd
    have h7 := h6.go k7
    have ha7 := ha6.go k7
    have ho7 := k7.1 _ _ ho6
    refine ⟨_, _, _, x6, T.ic_Bare.cl, T.na_Bare_ordered, (by show 3 < 1000; omega), ?_⟩
    generalize upd H6 x (.ins a.c_Bare dx (putF "ordered" (.ref od) [("befores", .ref p0), ("end", .int e), ("afters", .ref af)])) = H7 at x7 k7 f7 h7 ha7 ho7 ⊢
    obtain ⟨xs7, hp7, hxs7⟩ := id h7
    refine ⟨_, _, _, x7, T.ic_Bare.cl, T.na_Bare_ordered, _, rfl, od, rfl, _, .inr (SqT.of ho7), _, _, _, x7, T.ic_Bare.cl, T.na_Bare_befores, _, rfl, p0, rfl, xs7, .inr (SqT.of hp7), ?_⟩
    have l7 := paired_len hxs7
    refine iteN (by rw [nI_len, List.length_range, l7]; omega) ?_
    walk_at "sm"
    refine ⟨_, _, _, x7, T.ic_Bare.cl, T.na_Bare_befores, _, rfl, p0, bs, e, rfl, h7, hb.arr, he, hrd, fun H8 e8 => ?_⟩
    have x8 := e8 _ _ x7
    have h8 := h7.go (Kp.ex e8)
    have ha8 := ha7.go (Kp.ex e8)
    have ho8 := e8 _ _ ho7
    have f8 := f7.trans (Fr.of e8)
    obtain ⟨xs8, hp8, hxs8⟩ := id h8
    have l8 := paired_len hxs8
    refine ⟨_, _, _, x8, T.ic_Bare.cl, T.na_Bare_befores, _, rfl, p0, rfl, ⟨_, SqT.of hp8⟩, lcg_tup (K := K) (a := p0) (xs := xs8) (ivBM H8 bs) (fun D hD => ⟨Evl.Ex.new hD, upd_same⟩) (fun D i HX hD hi h => SqT.of (h.1 _ _ hp8)) ?_ ?_⟩
    · rintro D i y HX hD hi ⟨g1, g2⟩
      obtain ⟨b, hb1, q, rfl, hq⟩ := paired_at hxs8 hi
      obtain ⟨c1, c2, c3⟩ := hb.2.2 i b hb1
      have li := (List.getElem?_eq_some_iff.mp hb1).1
      have lb := hb.2.1
      walk_at "sm"
      refine ⟨q, b, rfl, .inl (g1 _ _ hq), fun n hn => by have := c2 n hn; omega, _, g2, Nat.lt_of_le_of_lt (show _ ≤ 200 by rw [nI_len, List.length_map, List.length_take]; omega) (by decide), g1.mut hD, ?_⟩
      rw [upd_same, List.take_add_one, hb1, List.map_append, nI_app]
      rfl
    · rintro D HX hD ⟨g1, g2⟩
      walk_at "sm"
      rw [l8, List.take_length] at g2
      refine ⟨_, .inl ⟨SqL.of g2, fun l hl => ?_⟩⟩
      have e9 := (e8.trans g1).trans (Evl.Ex.new (o := .tup ((nI (bs.map msk)).map V.int)) hl)
      have g9 := g1.trans (Evl.Ex.new (o := .tup ((nI (bs.map msk)).map V.int)) hl)
      have hl9 : upd HX l (.tup ((nI (bs.map msk)).map V.int)) l = some (.tup ((nI (bs.map msk)).map V.int)) := upd_same
      generalize upd HX l (.tup ((nI (bs.map msk)).map V.int)) = H9 at e9 g9 hl9 ⊢
      have x9 := g9 _ _ x8
      have kz := Kp.fr (H' := upd H9 x (.ins a.c_Bare dx (putF "needs" (.ref l) [("befores", .ref p0), ("end", .int e), ("afters", .ref af), ("ordered", .ref od)]))) x9 Fr.upd
      refine ⟨_, _, _, x9, T.ic_Bare.cl, T.na_Bare_needs, (by show 4 < 1000; omega), k _ ((f8.trans (Fr.of g9)).trans Fr.upd) ?_⟩
      exact ⟨dx, p0, af, od, l, upd_same, (h8.go (Kp.ex g9)).go kz, (ha8.go (Kp.ex g9)).go kz, kz.1 _ _ (g9 _ _ ho8), kz.1 _ _ hl9⟩
end


/-! ### check_shape, check_steps, check_idle -/
def RzW (C : Addr) (H : Hp) (E : XK) (i : Int) (w : Str) : Prop := ∀ (d : Addr) (H' : Hp), Evl.Ex H H' → H' d = some (.xd [("what", .str w), ("place", .int i)]) → E (.ref C) (some d) H'
theorem RzW.go {C : Addr} {H H1 : Hp} {E : XK} {i : Int} {w : Str} (h : RzW C H E i w) (e : Evl.Ex H H1) : RzW C H1 E i w := fun d H' e' q => h d H' (e.trans e') q
/-- isinstance(x, Step) for what is no object -/
structure Txi (K : PySem.W.Frag) (a : Ad) : Prop where
  n : PySem.W.kitOne K (.type "NoneType") (.ref a.c_Step) = some false
  i : PySem.W.kitOne K (.type "int") (.ref a.c_Step) = some false
  s : PySem.W.kitOne K (.type "str") (.ref a.c_Step) = some false
/-- what stands among the steps that are handed in -/
def elR (C : Addr) (H : Hp) (x : V) : Option Stp → Prop
  | none => x = .non ∨ (∃ i, x = .int i) ∨ ∃ s, x = .str s
  | some s => ∃ p, x = .ref p ∧ StpAt C H p s
theorem elR.go {C : Addr} {H H' : Hp} {x : V} {o : Option Stp} (e : Evl.Ex H H') (h : elR C H x o) : elR C H' x o := by
  cases o with
  | none => exact h
  | some s =>
    obtain ⟨p, h1, h2⟩ := h
    exact ⟨p, h1, h2.go e⟩
def ElsAt (C : Addr) (H : Hp) (p : Addr) (els : List (Option Stp)) : Prop := ∃ xs, SqAt H p xs ∧ Paired (elR C H) xs els
theorem ElsAt.go {C : Addr} {H H' : Hp} {p : Addr} {els : List (Option Stp)} (e : Evl.Ex H H') (h : ElsAt C H p els) : ElsAt C H' p els := by
  obtain ⟨xs, h1, h2⟩ := h
  exact ⟨xs, h1.go e, Paired.mapP h2 fun _ _ z => z.go e⟩
def shDue (wv mv : V) (len : Option Nat) : Option Str := if wiB wv 1 12 = false then some "width" else if wiB mv 0 6 = false then some "many" else
  match len with
  | none => some "steps"
  | some n => if 1 ≤ n ∧ n ≤ 200 then none else some "steps"
def lenV (H : Hp) (sv : V) : Option Nat → Prop
  | none => PlainV H sv ∧ sqV sv = false
  | some n => ∃ p xs, sv = .ref p ∧ SqAt H p xs ∧ xs.length = n ∧ n ≤ 100000
def out (C : Addr) (H : Hp) (Q : VK) (E : XK) : Option (Int × Str) → Prop
  | none => ∀ H', Evl.Ex H H' → Q .non H'
  | some (i, w) => RzW C H E i w
section
variable {P : Program} {w : World} {K : PySem.W.Frag} {mg : Str → Option Value} {base : Heap} {a : Ad}
def spSh (C : Addr) : Sp := fun vs H Q E => ∃ (wv mv sv : V) (n : Option Nat), vs = [wv, mv, sv] ∧ PlainV H wv ∧ PlainV H mv ∧ lenV H sv n ∧ out C H Q E ((shDue wv mv n).map fun z => (-1, z))
theorem ok_check_shape (T : Txt K mg a) : FnOk P w K mg base (L2.CX P w) 3 a.f_check_shape a.d_check_shape ["width", "many", "steps"] (spSh a.c_BadWeb) := by
  refine T.F_check_shape.okX sc_check_shape (fun vs H Q E h => ?_) (fun cdv A outer s H vs Q E hr h => ?_)
  · obtain ⟨_, _, _, _, rfl, _⟩ := h
    rfl
  · obtain ⟨wv, mv, sv, n, rfl, hw, hm, hs, k⟩ := h
    refine ⟨_, (pss_cons (ps_if (pt_not (pt_val (pe_call (ok_is_within T) (hr.mono (by decide)) rfl T.m_is_within T.F_is_within.kp T.b_is_within .nil pass0 (pa_cons (pv 0) (pa_cons pe_int (pa_cons (pe_glob rfl T.g_MOST_WIDTH.choose_spec.1 T.g_MOST_WIDTH.choose_spec.2) pa_nil)))))) (pss_one (ps_raise rfl (takes_of rfl rfl rfl rfl) (pmk_oex T.x_BadWeb T.xi_BadWeb T.xt_BadWeb (ok_BadWeb_init T) (hr.mono (by decide)) T.b_BadWeb___init__ .nil pass0 rfl T.m_BadWeb (pa_cons (pe_un un_neg pe_int) (pa_cons pe_str pa_nil)))))
    pss_nil)
  (pss_cons (ps_if (pt_not (pt_val (pe_call (ok_is_within T) (hr.mono (by decide)) rfl T.m_is_within T.F_is_within.kp T.b_is_within .nil pass0 (pa_cons (pv 1) (pa_cons pe_int (pa_cons (pe_glob rfl T.g_MOST_GIVEN.choose_spec.1 T.g_MOST_GIVEN.choose_spec.2) pa_nil)))))) (pss_one (ps_raise rfl (takes_of rfl rfl rfl rfl) (pmk_oex T.x_BadWeb T.xi_BadWeb T.xt_BadWeb (ok_BadWeb_init T) (hr.mono (by decide)) T.b_BadWeb___init__ .nil pass0 rfl T.m_BadWeb (pa_cons (pe_un un_neg pe_int) (pa_cons pe_str pa_nil)))))
    pss_nil)
  (pss_one (ps_if (PW.pt (pw_or (pt_not (pt_val (pe_call (ok_is_sequence T) (hr.mono (by decide)) rfl T.m_is_sequence T.F_is_sequence.kp T.b_is_sequence .nil pass0 (pa_cons (pv 2) pa_nil)))) (pw_or1 (pt_not (pt_chain op_le op_le pe_int (pe_callB call_len_seq (by rfl) T.z_len (by decide +kernel) (pa_cons (pv 2) pa_nil)) (pe_glob rfl T.g_MOST_PLACES.choose_spec.1 T.g_MOST_PLACES.choose_spec.2)))))) (pss_one (ps_raise rfl (takes_of rfl rfl rfl rfl) (pmk_oex T.x_BadWeb T.xi_BadWeb T.xt_BadWeb (ok_BadWeb_init T) (hr.mono (by decide)) T.b_BadWeb___init__ .nil pass0 rfl T.m_BadWeb (pa_cons (pe_un un_neg pe_int) (pa_cons pe_str pa_nil)))))
    pss_nil)))), ?_⟩
    walk_at "sm"
    refine ⟨wv, 1, 12, rfl, hw, _, rfl, ?_⟩
    cases cw : wiB wv 1 12 with
    | false =>
      have e : shDue wv mv n = some ("width" : Str) := by unfold shDue; rw [if_pos cw]
      rw [e] at k
      exact iteT (mk2 k)
    | true =>
      refine iteF ⟨mv, 0, 6, rfl, hm, _, rfl, ?_⟩
      cases cm : wiB mv 0 6 with
      | false =>
        have e : shDue wv mv n = some ("many" : Str) := by unfold shDue; rw [if_neg (by rw [cw]; decide), if_pos cm]
        rw [e] at k
        exact iteT (mk2 k)
      | true =>
        cases n with
        | none =>
          have e0 : shDue wv mv none = some ("steps" : Str) := by unfold shDue; rw [if_neg (by rw [cw]; decide), if_neg (by rw [cm]; decide)]
          rw [e0] at k
          exact iteF ⟨sv, rfl, hs.1, fun H1 e1 => ⟨_, rfl, by rw [hs.2]; exact iteT (mk2 (RzW.go (C := a.c_BadWeb) k e1))⟩⟩
        | some n =>
          have e0 : shDue wv mv (some n) = if 1 ≤ n ∧ n ≤ 200 then none else some ("steps" : Str) := by unfold shDue; rw [if_neg (by rw [cw]; decide), if_neg (by rw [cm]; decide)]
          rw [e0] at k
          obtain ⟨p, xs, rfl, hp, hl, _⟩ := hs
          refine iteF ⟨.ref p, rfl, hp.plain, fun H1 e1 => ⟨_, rfl, iteF ⟨p, rfl, xs, (hp.go e1).sq, ?_⟩⟩⟩
          subst hl
          by_cases c1 : 1 ≤ xs.length
          · refine iteP (by omega) ?_
            by_cases c2 : xs.length ≤ 200
            · have k2 : out a.c_BadWeb H Q E ((if 1 ≤ xs.length ∧ xs.length ≤ 200 then none else some ("steps" : Str)).map fun z => ((-1 : Int), z)) := k
              rw [if_pos ⟨c1, c2⟩] at k2
              exact iteF' (by rw [decide_eq_true (show (xs.length : Int) ≤ 200 by omega)]; rfl) (k2 _ e1)
            · have k2 : out a.c_BadWeb H Q E ((if 1 ≤ xs.length ∧ xs.length ≤ 200 then none else some ("steps" : Str)).map fun z => ((-1 : Int), z)) := k
              rw [if_neg fun q => c2 q.2] at k2
              exact iteT' (by rw [decide_eq_false (show ¬ (xs.length : Int) ≤ 200 by omega)]; rfl) (mk2 (RzW.go (C := a.c_BadWeb) k2 e1))
          · have k2 : out a.c_BadWeb H Q E ((if 1 ≤ xs.length ∧ xs.length ≤ 200 then none else some ("steps" : Str)).map fun z => ((-1 : Int), z)) := k
            rw [if_neg fun q => c1 q.1] at k2
            exact iteN (by omega) (iteT (mk2 (RzW.go (C := a.c_BadWeb) k2 e1)))
def isGi (many : Nat) (o : Opd) : Bool := match o with
  | .gi n => decide (many ≤ n)
  | _ => false
/-- what is wrong with the element at place i -/
def elDue (many i : Nat) : Option Stp → Option Str
  | none => some "step"
  | some s => if (befs s.ops).any (fun b => decide (i ≤ b)) = true then some "place" else if s.ops.any (isGi many) = true then some "given" else none
theorem elDue_some (many i : Nat) (s : Stp) : elDue many i (some s) = if (befs s.ops).any (fun b => decide (i ≤ b)) = true then some ("place" : Str) else if s.ops.any (isGi many) = true then some ("given" : Str) else none := rfl
theorem at_last {α : Type} (l : List α) (x : α) : atI (l ++ [x]) (-1) = some x := by
  unfold atI ixN
  rw [if_neg (by decide), if_pos (by rw [List.length_append]; show -((l.length + 1 : Nat) : Int) ≤ -1; omega)]
  show (l ++ [x])[((-1 : Int) + ((l ++ [x]).length : Nat)).toNat]? = some x
  rw [List.length_append, show ((-1 : Int) + ((l.length + [x].length : Nat) : Int)).toNat = l.length by show ((-1 : Int) + ((l.length + 1 : Nat) : Int)).toNat = _; omega]
  simp
theorem any_given {K : PySem.W.Frag} {o : Addr} {ops : List Opd} {H : Hp} {m : Nat} {s0 s2 s3 v4 v5 : Option V} {Q : VK} (ho : OpsAt H o ops) (hl : ops.length ≤ 100) (k : ∀ D H', Evl.Ex H H' → H' D = some (.lst ((ops.map (isGi m)).map V.bl)) → Q (.ref D) H') :
    (∃ xs, SqT K H o xs) ∧ LcG (Itt K o) (gTup K 2 (gCons (gName 4) (gCons (gName 5) gNil))) tYes (tAndV (tOp rEq (tVar 4) (tC (V.str "given"))) (tOp (rI0 fun i j => V.bl (decide (j ≤ i))) (tVar 5) (tVar 1))) [4, 5] [s0, some (.int m), s2, s3, v4, v5] Q H := by
  obtain ⟨xs, hx, hp⟩ := ho
  have lx := paired_len hp
  refine ⟨⟨_, SqT.of hx⟩, lcg_tup (K := K) (a := o) (xs := xs) (fun D i H' => Evl.Ex H H' ∧ H' D = some (.lst (((ops.take i).map (isGi m)).map V.bl))) (fun D hD => ⟨Evl.Ex.new hD, upd_same⟩) (fun D i HX hD hi h => SqT.of (h.1 _ _ hx)) ?_ ?_⟩
  · rintro D i y HX hD hi ⟨f1, f2⟩
    obtain ⟨od, ho1, q, rfl, hq⟩ := paired_at hp hi
    have hq2 := hq.go f1
    have li := (List.getElem?_eq_some_iff.mp hi).1
    have fin : ∀ b, b = isGi m od → ∃ acc, HX D = some (HO.lst acc) ∧ acc.length < sizeLine ∧ Evl.Ex H (upd HX D (HO.lst (acc ++ [V.bl b]))) ∧ upd HX D (HO.lst (acc ++ [V.bl b])) D = some (.lst (((ops.take (i + 1)).map (isGi m)).map V.bl)) := by
      rintro b rfl
      refine ⟨_, f2, Nat.lt_of_le_of_lt (show _ ≤ 100 by rw [List.length_map, List.length_map, List.length_take]; omega) (by decide), f1.mut hD, ?_⟩
      rw [upd_same, List.take_add_one, ho1, List.map_append, List.map_append]
      rfl
    walk_at "sm"
    refine ⟨_, SqT.of hq2, rfl, _, _, rfl, _, _, rfl, rfl, rfl, ?_⟩
    cases od with
    | gi n => exact iteP rfl ⟨_, rfl, fin _ (decide_eq_decide.mpr ⟨fun z => by exact_mod_cast z, fun z => by exact_mod_cast z⟩)⟩
    | pl n => exact iteN (show ¬ (V.str "place" = V.str "given") by decide +kernel) (fin false rfl)
    | nu n => exact iteN (show ¬ (V.str "number" = V.str "given") by decide +kernel) (fin false rfl)
  · rintro D HX hD ⟨f1, f2⟩
    rw [lx, List.take_length] at f2
    exact k D HX f1 f2
/-- the first that is wrong from place i on -/
def stDue (many : Nat) : Nat → List (Option Stp) → Option (Int × Str)
  | _, [] => none
  | i, o :: r => match elDue many i o with
    | some z => some ((i : Int), z)
    | none => stDue many (i + 1) r
def spCS (a : Ad) : Sp := fun vs H Q E => ∃ (p : Addr) (m : Nat) (els : List (Option Stp)), vs = [.ref p, .int m] ∧ ElsAt a.c_Step H p els ∧ els.length ≤ 200 ∧ (∀ s, some s ∈ els → s.ok) ∧ out a.c_BadWeb H Q E (stDue m 0 els)
def ivCS (H : Hp) (p : Addr) (m : Nat) (els : List (Option Stp)) : Nat → L2.St → Hp → Prop := fun i σ H' => ∃ v2 v3 v4 v5, σ = [some (.ref p), some (.int m), v2, v3, v4, v5] ∧ Evl.Ex H H' ∧ stDue m i (els.drop i) = stDue m 0 els
theorem ok_check_steps (T : Txt K mg a) (I : Txi K a) : FnOk P w K mg base (L2.CX P w) 3 a.f_check_steps a.d_check_steps ["steps", "many"] (spCS a) := by
  refine T.F_check_steps.okX sc_check_steps (fun vs H Q E h => ?_) (fun cdv A outer s H vs Q E hr h => ?_)
  · obtain ⟨_, _, _, rfl, _⟩ := h
    rfl
  · obtain ⟨p, m, els, rfl, ⟨xs, hp, hx⟩, hl, hok, k⟩ := h
    have lx := paired_len hx
    refine ⟨_, (pss_one (ps_for (passes_of rfl) rfl (pi_or (pi_enum (by rfl) T.z_enumerate (pa_cons (pv 0) pa_nil)) (pi_enumT (by rfl) T.z_enumerate (pa_cons (pv 0) pa_nil))) (pg_tup rfl (pgs_cons (pg_name (i := 2) sc_check_steps.nd rfl (by first | exact Or.inl rfl | exact Or.inr rfl)) (pgs_cons (pg_name (i := 3) sc_check_steps.nd rfl (by first | exact Or.inl rfl | exact Or.inr rfl)) pgs_nil))) (pss_cons (ps_if (pt_not (pt_val (pe_callB (CallR.or (C8.call_isC T.ic_Step) call_isi) (by rfl) T.z_isinstance (by decide +kernel) (pa_cons (pv 3) (pa_cons (pe_glob (v := .ref a.c_Step) rfl T.m_Step rfl) pa_nil))))) (pss_one (ps_raise rfl (takes_of rfl rfl rfl rfl) (pmk_oex T.x_BadWeb T.xi_BadWeb T.xt_BadWeb (ok_BadWeb_init T) (hr.mono (by decide)) T.b_BadWeb___init__ .nil pass0 rfl T.m_BadWeb (pa_cons (pv 2) (pa_cons pe_str pa_nil)))))
    pss_nil)
  (pss_cons (ps_if (PW.pt (pw_and (pt_truth (pe_fld (pv 3) rfl) (by intro _; rfl)) (pw_and1 (pt_cmpR op_ge (pe_ix ix_tup (pe_fld (pv 3) rfl) (pe_un un_neg pe_int) (fun _ _ => rfl)) (pv 2) (nomark _))))) (pss_one (ps_raise rfl (takes_of rfl rfl rfl rfl) (pmk_oex T.x_BadWeb T.xi_BadWeb T.xt_BadWeb (ok_BadWeb_init T) (hr.mono (by decide)) T.b_BadWeb___init__ .nil pass0 rfl T.m_BadWeb (pa_cons (pv 2) (pa_cons pe_str pa_nil)))))
    pss_nil)
  (pss_one (ps_if (pt_val (pe_callB (cr_any rfl) (by rfl) T.z_any (by decide +kernel) (pa_cons (pe_lc (own := [("name", 4), ("number", 5)]) (g := gTup K 2 (gCons (gName 4) (gCons (gName 5) (gNil)))) (tt := tYes) rfl sc_check_steps.nd (pi_tup (pe_fld (pv 3) rfl)) (blkOk_by (own := [("name", 4), ("number", 5)]) (N := ["steps", "many", "place", "step", "name", "number"]) (sc := defScope s_check_steps) (by decide +kernel)) (fun _ _ _ _ _ => pg_tup rfl (pgs_cons (pg_name (i := 4) sc_check_steps.nd rfl (Or.inl rfl)) (pgs_cons (pg_name (i := 5) sc_check_steps.nd rfl (Or.inl rfl)) pgs_nil))) (fun _ _ _ _ _ => pts_nil) (fun _ _ _ _ _ => (pe_and (pe_cmpR op_eq (pv 4) pe_str (nomark _)) (pe_one (pe_cmpR op_ge (pv 5) (pv 1) (nomark _)))))) pa_nil))) (pss_one (ps_raise rfl (takes_of rfl rfl rfl rfl) (pmk_oex T.x_BadWeb T.xi_BadWeb T.xt_BadWeb (ok_BadWeb_init T) (hr.mono (by decide)) T.b_BadWeb___init__ .nil pass0 rfl T.m_BadWeb (pa_cons (pv 2) (pa_cons pe_str pa_nil)))))
    pss_nil)))))), ?_⟩
    walk_at "sm"
    refine for_sqE (xs := xs) hp rfl (ivCS H p m els) ⟨none, none, none, none, rfl, Evl.Ex.refl _, rfl⟩ (fun i σ HX ⟨_, _, _, _, _, h, _⟩ => h) ?_ ?_
    · rintro i σ HX Tt y hy ⟨v2, v3, v4, v5, rfl, e1, hd⟩ hT
      obtain ⟨o, ho, hel⟩ := paired_at hx hy
      have eT := Evl.Ex.new (o := .tup [.int (i : Nat), y]) hT
      have hel2 := hel.go (e1.trans eT)
      have e2 := e1.trans eT
      have dr : els.drop i = o :: els.drop (i + 1) := by
        obtain ⟨h1, h2⟩ := List.getElem?_eq_some_iff.mp ho
        rw [List.drop_eq_getElem_cons h1, h2]
      rw [dr] at hd
      walk_at "sm"
      refine ⟨_, SqT.of upd_same, rfl, _, _, rfl, _, _, rfl, rfl, ?_⟩
      generalize upd HX Tt (.tup [.int (i : Nat), y]) = H2 at e2 hel2 ⊢
      have bad : ∀ z, elDue m i o = some z → RzW a.c_BadWeb H2 E i z := fun z hz => by
        have e0 : stDue m i (o :: els.drop (i + 1)) = some ((i : Int), z) := by
          show (match elDue m i o with
            | some z => some ((i : Int), z)
            | none => stDue m (i + 1) (els.drop (i + 1))) = _
          rw [hz]
        rw [← hd, e0] at k
        exact RzW.go (C := a.c_BadWeb) k e2
      have good : elDue m i o = none → stDue m (i + 1) (els.drop (i + 1)) = stDue m 0 els := fun hz => by
        rw [← hd]
        show _ = (match elDue m i o with
            | some z => some ((i : Int), z)
            | none => stDue m (i + 1) (els.drop (i + 1)))
        rw [hz]
      cases o with
      | none =>
        refine .inr ?_
        have rz := bad "step" rfl
        rcases hel2 with rfl | ⟨j, rfl⟩ | ⟨z, rfl⟩
        · exact ⟨_, _, _, _, false, rfl, .own _, .base .non, I.n, _, rfl, iteT (mk2 rz)⟩
        · exact ⟨_, _, _, _, false, rfl, .own _, .base (.int _), I.i, _, rfl, iteT (mk2 rz)⟩
        · exact ⟨_, _, _, _, false, rfl, .own _, .base (.str _), I.s, _, rfl, iteT (mk2 rz)⟩
      | some s =>
        obtain ⟨q, rfl, dx, kp, op, bp, s1, s2, s3, s4⟩ := hel2
        have hs := hok s (List.mem_of_getElem? ho)
        have lo : s.ops.length ≤ 3 := by rw [hs.1]; exact many_le _
        refine .inl ⟨q, rfl, ⟨_, _, s1⟩, iteF ⟨q, rfl, _, _, _, s1, T.ic_Step.cl, T.na_Step_befores, _, rfl, _, .inr (.inl ⟨_, SqT.of s4, rfl⟩), ?_⟩⟩
        by_cases hp : (befs s.ops).any (fun b => decide (i ≤ b)) = true
        · have ed : elDue m i (some s) = some ("place" : Str) := by rw [elDue_some, if_pos hp]
          have rz := bad _ ed
          obtain ⟨b, hb1, hb2⟩ := List.any_eq_true.mp hp
          rcases List.eq_nil_or_concat (befs s.ops) with e | ⟨l, z, e⟩
          · rw [e] at hb1; cases hb1
          · rw [List.concat_eq_append] at e
            have hz : i ≤ z := by
              have asc := befs_lt s.ops
              rw [e] at asc hb1
              have ib : i ≤ b := of_decide_eq_true hb2
              rcases List.mem_append.mp hb1 with g | g
              · have := (List.pairwise_append.mp asc).2.2 b g z (by simp)
                omega
              · rw [List.mem_singleton] at g
                omega
            have s4' : H2 bp = some (.tup ((nI l).map V.int ++ [.int (z : Nat)])) := by rw [s4, e, nI_snoc]
            rw [e]
            refine iteT' (by rw [nI_snoc]; cases l <;> rfl) ⟨q, rfl, _, _, _, s1, T.ic_Step.cl, T.na_Step_befores, _, rfl, ixt s4' (at_last _ _) ⟨_, rfl, _, rfl, iteP (by omega) (mk2 rz)⟩⟩
        · have tail : ∃ a_3, V.ref q = V.ref a_3 ∧ ∃ x x_3 x_4, H2 a_3 = some (HO.ins x x_3 x_4) ∧ Cls K x ∧ NoAttr K x "operands" ∧ ∃ x, List.lookup ("operands" : Str) x_4 = some x ∧ ∃ a_4, x = V.ref a_4 ∧ (∃ xs, SqT K H2 a_4 xs) ∧
              LcG (Itt K a_4) (gTup K 2 (gCons (gName 4) (gCons (gName 5) gNil))) tYes (tAndV (tOp rEq (tVar 4) (tC (V.str "given"))) (tOp (rI0 fun i j => V.bl (decide (j ≤ i))) (tVar 5) (tVar 1))) [4, 5]
                [some (V.ref p), some (V.int m), some (V.int i), some (.ref q), v4, v5] (fun x H1 => rAny K [x] H1 fun x H1 => ∃ c, x = V.bl c ∧ if c = true then mkO a.c_BadWeb (spInit2 a.c_BadWeb "place" "what") [] [V.int i, V.str "given"] H1 (fun cls d H' => E cls d H')
                  else ivCS H p m els (i + 1) [some (V.ref p), some (V.int m), some (V.int i), some (.ref q), v4, v5] H1) H2 := by
            refine ⟨q, rfl, _, _, _, s1, T.ic_Step.cl, T.na_Step_operands, _, rfl, op, rfl, any_given s3 (by omega) fun D HY f1 f2 => ⟨D, _, rfl, SqL.of f2, _, rfl, ?_⟩⟩
            have ea : (s.ops.map (isGi m)).any id = s.ops.any (isGi m) := by rw [List.any_map]; rfl
            rw [ea]
            cases hg : s.ops.any (isGi m) with
            | true =>
              have ed : elDue m i (some s) = some ("given" : Str) := by rw [elDue_some, if_neg hp, if_pos hg]
              exact iteT (mk2 (RzW.go (C := a.c_BadWeb) (bad _ ed) f1))
            | false =>
              have ed : elDue m i (some s) = none := by rw [elDue_some, if_neg hp, if_neg (by rw [hg]; decide)]
              exact iteF ⟨_, _, _, _, rfl, e2.trans f1, good ed⟩
          rcases List.eq_nil_or_concat (befs s.ops) with e | ⟨l, z, e⟩
          · rw [e]
            exact iteF tail
          · rw [List.concat_eq_append] at e
            have hz : ¬ i ≤ z := fun g => hp (List.any_eq_true.mpr ⟨z, by rw [e]; simp, decide_eq_true g⟩)
            have s4' : H2 bp = some (.tup ((nI l).map V.int ++ [.int (z : Nat)])) := by rw [s4, e, nI_snoc]
            rw [e]
            exact iteT' (by rw [nI_snoc]; cases l <;> rfl) ⟨q, rfl, _, _, _, s1, T.ic_Step.cl, T.na_Step_befores, _, rfl, ixt s4' (at_last _ _) ⟨_, rfl, _, rfl, iteN (by omega) tail⟩⟩
    · rintro σ HX ⟨v2, v3, v4, v5, rfl, e1, hd⟩
      rw [lx, List.drop_length] at hd
      rw [← hd] at k
      exact k _ e1
end


/-! ### check_idle, Web.__init__ -/
theorem pe_fld_b {X : Cx} {s : Shared} {H : Hp} {scope : Scope} {env : Env} {fp : List Addr} {e : Expr} {f : Str} {pos : Pos} {ta : TE} (ha : PE (X.blk s H scope env fp) e ta) (hb : attributeBase e f (X.blk s H scope env fp).env (eval e (X.blk s H scope env fp).env) = eval e (X.blk s H scope env fp).env) :
    PE (X.blk s H scope env fp) (.Attribute e f pos) (tFld X.K ta f) := pe_fld ha hb
def bsOf (sts : List Stp) : List (List Nat) := sts.map fun s => befs s.ops
/-- the first idle place -/
def IdD (bs : List (List Nat)) (e : Nat) : Option Nat → Prop
  | none => Roads bs e
  | some q => q < bs.length ∧ ¬ (q = e ∨ Rc bs 0 e q) ∧ ∀ j, j < q → j = e ∨ Rc bs 0 e j
section
variable {P : Program} {w : World} {K : PySem.W.Frag} {mg : Str → Option Value} {base : Heap} {a : Ad}
def spID (a : Ad) : Sp := fun vs H Q E => ∃ (p : Addr) (sts : List Stp) (d : Option Nat), vs = [.ref p] ∧ ElsAt a.c_Step H p (sts.map some) ∧ 1 ≤ sts.length ∧ ArrOk (bsOf sts) ∧ IdD (bsOf sts) (sts.length - 1) d ∧ out a.c_BadWeb H Q E (d.map fun q => ((q : Int), "idle"))
def ivBf (H : Hp) (sts : List Stp) (D : Addr) (i : Nat) (H' : Hp) : Prop := Evl.Ex H H' ∧ ∃ xs, H' D = some (.lst xs) ∧ Paired (rowR H') xs ((bsOf sts).take i)
def ivId (H : Hp) (p : Addr) (e r : Nat) : Nat → L2.St → Hp → Prop := fun i σ H' => ∃ v3 v4, σ = [some (.ref p), some (.int e), some (.int (r : Nat)), v3, v4] ∧ H' = H ∧ ∀ j, j < i → r.testBit j = true
theorem befs_len (s : Stp) (h : s.ok) : (befs s.ops).length ≤ 200 := Nat.le_trans (List.length_filter_le _ _) (Nat.le_of_eq (List.length_range ..))
/-- one turn of [step.befores for step in ..] -/
theorem turn_befs (T : Txt K mg a) {H : Hp} {xs : List V} {sts : List Stp} (hx : Paired (elR a.c_Step H) xs (sts.map some)) (hl : sts.length ≤ 200) {s0 s1 s2 s3 s4 : Option V} {D : Addr} {i : Nat} {y : V} {HX : Hp} (hD : H D = none) (hy : xs[i]? = some y) (h : ivBf H sts D i HX) :
    gName 4 y (wipe [s0, s1, s2, s3, s4] [4]) HX fun σ2 H2 => wipe σ2 [4] = wipe [s0, s1, s2, s3, s4] [4] ∧ tYes σ2 H2 fun b H3 =>
      if b = true then tFld K (tVar 4) "befores" σ2 H3 fun y H4 => ∃ acc, H4 D = some (.lst acc) ∧ acc.length < sizeLine ∧ ivBf H sts D (i + 1) (upd H4 D (.lst (acc ++ [y]))) else ivBf H sts D (i + 1) H3 := by
  obtain ⟨g1, ys, g2, g3⟩ := h
  obtain ⟨o, ho, hel⟩ := paired_at hx hy
  rw [List.getElem?_map] at ho
  cases e : sts[i]? with
  | none => rw [e] at ho; cases ho
  | some s =>
    rw [e] at ho
    obtain rfl := (Option.some.inj ho).symm
    obtain ⟨q, rfl, dx, kp, op, bp, t1, t2, t3, t4⟩ := hel
    have li := (List.getElem?_eq_some_iff.mp e).1
    have lz : (bsOf sts).length = sts.length := by unfold bsOf; rw [List.length_map]
    have eb : (bsOf sts)[i]? = some (befs s.ops) := by unfold bsOf; rw [List.getElem?_map, e]; rfl
    have ly : ys.length ≤ 200 := by rw [paired_len g3, List.length_take, lz]; exact Nat.le_trans (Nat.min_le_right _ _) hl
    walk_at "sm"
    refine ⟨_, _, _, g1 _ _ t1, T.ic_Step.cl, T.na_Step_befores, _, rfl, ys, g2, Nat.lt_of_le_of_lt ly (by decide), g1.mut hD, _, upd_same, ?_⟩
    have tk : ∀ d zs, HX d = some (.tup zs) → upd HX D (HO.lst (ys ++ [V.ref bp])) d = some (.tup zs) := fun d zs h => by
      rw [upd_ne (fun z => by rw [z, g2] at h; cases h)]
      exact h
    rw [List.take_add_one, eb]
    exact Paired.snoc ⟨bp, rfl, tk _ _ (g1 _ _ t4)⟩ (Paired.mapP g3 fun x d ⟨qq, z1, z2⟩ => ⟨qq, z1, tk _ _ z2⟩)
theorem ok_check_idle (T : Txt K mg a) : FnOk P w K mg base (L2.CX P w) 3 a.f_check_idle a.d_check_idle ["steps"] (spID a) := by
  refine T.F_check_idle.okX sc_check_idle (fun vs H Q E h => ?_) (fun cdv A outer s H vs Q E hr h => ?_)
  · obtain ⟨_, _, _, rfl, _⟩ := h
    rfl
  · obtain ⟨p, sts, d, rfl, ⟨xs, hp, hx⟩, hl, hb, hd, k⟩ := h
    have lx : xs.length = sts.length := by rw [paired_len hx, List.length_map]
    refine ⟨_, (pss_cons (ps_set (i := 1) sc_check_idle.nd rfl (by first | exact Or.inl rfl | exact Or.inr rfl) (pe_op op_sub (pe_callB call_len_seq (by rfl) T.z_len (by decide +kernel) (pa_cons (pv 0) pa_nil)) pe_int))
  (pss_cons (ps_set (i := 2) sc_check_idle.nd rfl (by first | exact Or.inl rfl | exact Or.inr rfl) (pe_op op_orN (pe_call (ok_reached_along T) (hr.mono (by decide)) rfl T.m_reached_along T.F_reached_along.kp T.b_reached_along.choose_spec.2 T.b_reached_along.choose_spec.1 pass0 (pa_cons (pe_lc (own := [("step", 4)]) (g := gName 4) (tt := tYes) rfl sc_check_idle.nd (pi_or (pi_list (pv 0)) (pi_tup (pv 0))) (blkOk_by (own := [("step", 4)]) (N := ["steps", "end", "reached", "place", "step"]) (sc := defScope s_check_idle) (by decide +kernel)) (fun _ _ _ _ _ => pg_name (i := 4) sc_check_idle.nd rfl (Or.inl rfl)) (fun _ _ _ _ _ => pts_nil) (fun _ _ _ _ _ => (pe_fld_b (pv 4) rfl))) (pa_cons (pv 1) pa_nil))) (pe_op op_shlK pe_int (pv 1))))
  (pss_one (ps_for (passes_of rfl) rfl (pi_range1 (by rfl) T.z_range (pa_cons (pe_callB call_len_seq (by rfl) T.z_len (by decide +kernel) (pa_cons (pv 0) pa_nil)) pa_nil)) (pg_name (i := 3) sc_check_idle.nd rfl (by first | exact Or.inl rfl | exact Or.inr rfl)) (pss_one (ps_if (pt_not (pt_truth (pe_op op_odd (pe_op op_shrK (pv 2) (pv 3)) pe_int) (by intro _; rfl))) (pss_one (ps_raise rfl (takes_of rfl rfl rfl rfl) (pmk_oex T.x_BadWeb T.xi_BadWeb T.xt_BadWeb (ok_BadWeb_init T) (hr.mono (by decide)) T.b_BadWeb___init__ .nil pass0 rfl T.m_BadWeb (pa_cons (pv 3) (pa_cons pe_str pa_nil)))))
    pss_nil)))))), ?_⟩
    walk_at "sm"
    have lb : (bsOf sts).length = sts.length := by unfold bsOf; rw [List.length_map]
    have l2 := hb.1
    refine ⟨xs, hp.sq, lcg_sq (xs := xs) hp (ivBf H sts) (fun D hD => ⟨Evl.Ex.new hD, [], upd_same, .nil⟩) (fun D i HX hD h => h.1) (fun D i y HX hD hy h => turn_befs T hx (by omega) hD hy h) ?_⟩
    rintro D HX hD ⟨g1, ys, g2, g3⟩
    rw [lx, ← lb, List.take_length] at g3
    have ex : ((xs.length : Nat) : Int) - 1 = ((sts.length - 1 : Nat) : Int) := by omega
    walk_at "sm"
    rw [ex]
    refine ⟨D, bsOf sts, sts.length - 1, 0, rfl, ⟨ys, .inr g2, g3⟩, hb, by omega, fun r H1 e1 hr1 => ⟨sts.length - 1, rfl, by omega, r, rfl, 2 ^ (sts.length - 1), rfl, ?_⟩⟩
    have e2 := g1.trans e1
    have bit : ∀ q, (r ||| 2 ^ (sts.length - 1)).testBit q = true ↔ q = sts.length - 1 ∨ Rc (bsOf sts) 0 (sts.length - 1) q := fun q => by
      rw [Nat.testBit_or, bit_pow, Bool.or_eq_true, decide_eq_true_eq, hr1]
      exact Or.comm
    refine ⟨_, rfl, p, rfl, xs, (hp.go e2).sq, _, rfl, by omega, by omega, for_range (lo := 0) (n := ((xs.length : Nat) : Int).toNat) (ivId H1 p (sts.length - 1) (r ||| 2 ^ (sts.length - 1))) ⟨none, none, rfl, rfl, fun j hj => absurd hj (Nat.not_lt_zero _)⟩ ?_ ?_⟩
    · rintro i σ HY hi ⟨v3, v4, rfl, rfl, on⟩
      have hi2 : i < sts.length := by omega
      walk_at "sm"
      refine ⟨r ||| 2 ^ (sts.length - 1), rfl, i, by omega, _, rfl, _, rfl, ?_⟩
      rw [tru_bit]
      cases hb2 : (r ||| 2 ^ (sts.length - 1)).testBit i with
      | true =>
        refine iteF ⟨_, _, rfl, rfl, fun j hj => ?_⟩
        rcases Nat.lt_or_eq_of_le (Nat.le_of_lt_succ hj) with g | rfl
        · exact on j g
        · exact hb2
      | false =>
        refine iteT ?_
        have ni : ¬ (i = sts.length - 1 ∨ Rc (bsOf sts) 0 (sts.length - 1) i) := fun z => by
          rw [(bit i).mpr z] at hb2
          cases hb2
        cases d with
        | none => exact absurd (hd i (by omega)) ni
        | some q =>
          obtain ⟨d1, d2, d3⟩ := hd
          have eq : i = q := by
            rcases Nat.lt_trichotomy i q with g | g | g
            · exact absurd (d3 i g) ni
            · exact g
            · exact absurd ((bit q).mp (on q g)) d2
          subst eq
          have k2 : RzW a.c_BadWeb H E (i : Int) "idle" := k
          rw [show (0 : Int) + (i : Int) = (i : Int) by omega]
          exact mk2 (RzW.go (C := a.c_BadWeb) k2 e2)
    · rintro σ HY ⟨v3, v4, rfl, rfl, on⟩
      have en : ((xs.length : Nat) : Int).toNat = sts.length := by omega
      rw [en] at on
      cases d with
      | none => exact k _ e2
      | some q => exact absurd ((bit q).mp (on q (by have := hd.1; omega))) hd.2.1
end


/-! ### Web.__init__ -/
def stN (C x : Addr) (H : Hp) (v : V) (s : Stp) : Prop := ∃ p, v = .ref p ∧ p ≠ x ∧ StpAt C H p s
theorem StpAt.fr {C : Addr} {H H' : Hp} {x p Cx dx : Addr} {fs : List (Str × V)} {s : Stp} (hx : H x = some (.ins Cx dx fs)) (f : Fr x H H') (n : p ≠ x) (h : StpAt C H p s) : StpAt C H' p s := by
  obtain ⟨d, kp, op, bp, h1, h2, h3, h4⟩ := h
  have k := Kp.fr hx f
  exact ⟨d, kp, op, bp, f _ _ n h1, h2.kp k, h3.go k.1, k.1 _ _ h4⟩
theorem stN.fr {C : Addr} {H H' : Hp} {x Cx dx : Addr} {fs : List (Str × V)} {v : V} {s : Stp} (hx : H x = some (.ins Cx dx fs)) (f : Fr x H H') (h : stN C x H v s) : stN C x H' v s := by
  obtain ⟨p, h1, h2, h3⟩ := h
  exact ⟨p, h1, h2, h3.fr hx f h2⟩
theorem stN.go {C x : Addr} {H H' : Hp} {v : V} {s : Stp} (e : Evl.Ex H H') (h : stN C x H v s) : stN C x H' v s := by
  obtain ⟨p, h1, h2, h3⟩ := h
  exact ⟨p, h1, h2, h3.go e⟩
def WebAt (a : Ad) (H : Hp) (x : Addr) (wd m : Nat) (sts : List Stp) : Prop := ∃ dx sp bp xs, H x = some (.ins a.c_Web dx [("width", .int wd), ("many", .int m), ("steps", .ref sp), ("end", .int ((sts.length - 1 : Nat) : Int)), ("bare", .ref bp)]) ∧ H sp = some (.tup xs) ∧ Paired (stN a.c_Step x H) xs sts ∧ bp ≠ x ∧ BareAt a.c_Bare H bp (bsOf sts) (sts.length - 1)
theorem WebAt.go {a : Ad} {H H' : Hp} {x : Addr} {wd m : Nat} {sts : List Stp} (e : Evl.Ex H H') (h : WebAt a H x wd m sts) : WebAt a H' x wd m sts := by
  obtain ⟨dx, sp, bp, xs, h1, h2, h3, h4, h5⟩ := h
  exact ⟨dx, sp, bp, xs, e _ _ h1, e _ _ h2, Paired.mapP h3 fun _ _ z => z.go e, h4, h5.go e⟩
/-- what a web is refused for, the first; nothing: width, many, steps as they should be -/
def WD (wv mv : V) (els : Option (List (Option Stp))) (d : Option (Int × Str)) : Prop :=
  (∃ z, shDue wv mv (els.map List.length) = some z ∧ d = some (-1, z)) ∨ ∃ (wd m : Nat) (l : List (Option Stp)), wv = .int wd ∧ mv = .int m ∧ els = some l ∧ shDue wv mv (els.map List.length) = none ∧ wd ≤ 12 ∧ 1 ≤ l.length ∧ l.length ≤ 200 ∧
    ((∃ iz, stDue m 0 l = some iz ∧ d = some iz) ∨ stDue m 0 l = none ∧ ∃ sts, l = sts.map some ∧ BefOk (bsOf sts) ∧ ∃ dd, IdD (bsOf sts) (sts.length - 1) dd ∧ d = dd.map fun q : Nat => ((q : Int), ("idle" : Str)))
def elsV (a : Ad) (H : Hp) (sv : V) : Option (List (Option Stp)) → Prop
  | none => PlainV H sv ∧ sqV sv = false
  | some l => ∃ p, sv = .ref p ∧ ElsAt a.c_Step H p l ∧ l.length ≤ 1000 ∧ ∀ s, some s ∈ l → s.ok
theorem stN_of {C x Cx dx : Addr} {H : Hp} {xs : List V} {sts : List Stp} (hx : H x = some (.ins Cx dx [])) (h : Paired (elR C H) xs (sts.map some)) : Paired (stN C x H) xs sts := by
  induction sts generalizing xs with
  | nil => cases h; exact .nil
  | cons s r ih =>
    cases h with
    | cons f t =>
      obtain ⟨p, h1, h2⟩ := f
      refine .cons ⟨p, h1, fun z => ?_, h2⟩ (ih t)
      obtain ⟨d, kp, op, bp, q, _⟩ := h2
      rw [z, hx] at q
      cases q
theorem el_of_stN {C x : Addr} {H : Hp} : ∀ {xs : List V} {sts : List Stp}, Paired (stN C x H) xs sts → Paired (elR C H) xs (sts.map some)
  | _, _, .nil => .nil
  | _, _, .cons ⟨p, h1, _, h2⟩ t => .cons ⟨p, h1, h2⟩ (el_of_stN t)
theorem BareAt.fr {C : Addr} {H H' : Hp} {x y Cx dx : Addr} {fs : List (Str × V)} {bs : List (List Nat)} {e : Nat} (hx : H x = some (.ins Cx dx fs)) (f : Fr x H H') (n : y ≠ x) (h : BareAt C H y bs e) : BareAt C H' y bs e := by
  obtain ⟨d, p, af, od, nd, h1, h2, h3, h4, h5⟩ := h
  have k := Kp.fr hx f
  exact ⟨d, p, af, od, nd, f _ _ n h1, h2.go k, h3.go k, k.1 _ _ h4, k.1 _ _ h5⟩
section
variable {P : Program} {w : World} {K : PySem.W.Frag} {mg : Str → Option Value} {base : Heap} {a : Ad}
def spWI (a : Ad) : Sp := fun vs H Q E => ∃ (x dx : Addr) (wv mv sv : V) (els : Option (List (Option Stp))) (d : Option (Int × Str)), vs = [.ref x, wv, mv, sv] ∧ H x = some (.ins a.c_Web dx []) ∧ PlainV H wv ∧ PlainV H mv ∧ elsV a H sv els ∧ WD wv mv els d ∧
  (match d with
    | some iz => RzW a.c_BadWeb H E iz.1 iz.2
    | none => ∀ H' (wd m : Nat) sts, wv = .int wd → mv = .int m → els = some (sts.map some) → Fr x H H' → WebAt a H' x wd m sts → Q .non H')
def mdWI (a : Ad) (H : Hp) (x dx p : Addr) (wd m : Nat) (sts : List Stp) : L2.St → Hp → Prop := fun σ H' => ∃ (sp : Addr) (xs : List V), σ = [some (.ref x), some (.int wd), some (.int m), some (.ref p), none] ∧ H' x = some (.ins a.c_Web dx [("width", .int wd), ("many", .int m), ("steps", .ref sp)]) ∧
  H' sp = some (.tup xs) ∧ Paired (stN a.c_Step x H') xs sts ∧ Fr x H H'
theorem ok_Web_init (T : Txt K mg a) (I : Txi K a) : FnOk P w K mg base (L2.CX P w) 7 a.f_Web___init__ a.d_Web___init__ ["self", "width", "many", "steps"] (spWI a) := by
  refine T.F_Web___init__.okX sc_Web___init__ (fun vs H Q E h => ?_) (fun cdv A outer s H vs Q E hr h => ?_)
  · obtain ⟨_, _, _, _, _, _, _, rfl, _⟩ := h
    rfl
  · obtain ⟨x, dx, wv, mv, sv, els, d, rfl, hx, hw, hm, he, hd, k⟩ := h
    refine ⟨_, (pss_cons (ps_expr (pe_call (ok_check_shape T) (hr.mono (by decide)) rfl T.m_check_shape T.F_check_shape.kp T.b_check_shape .nil (passes_call (takes_of rfl rfl rfl rfl) (fun _ _ _ _ q => q)) (pa_cons (pv 1) (pa_cons (pv 2) (pa_cons (pv 3) pa_nil)))))
  (pss_cons (ps_expr (pe_call (ok_check_steps T I) (hr.mono (by decide)) rfl T.m_check_steps T.F_check_steps.kp T.b_check_steps .nil (passes_call (takes_of rfl rfl rfl rfl) (fun _ _ _ _ q => q)) (pa_cons (pv 3) (pa_cons (pv 2) pa_nil))))
  (pss_cons (ps_expr (pe_call (ok_check_idle T) (hr.mono (by decide)) rfl T.m_check_idle T.F_check_idle.kp T.b_check_idle .nil (passes_call (takes_of rfl rfl rfl rfl) (fun _ _ _ _ q => q)) (pa_cons (pv 3) pa_nil)))
  (pss_cons (ps_fld (pv 0) (pv 1) rfl)
  (pss_cons (ps_fld (pv 0) (pv 2) rfl)
  (Evl.pss_cut (ps_fld (pv 0) (pe_callTy call_tuple_of (by rfl) T.z_tuple (by decide +kernel) (pa_cons (pv 3) pa_nil)) rfl)
  (pss_cons (ps_fld (pv 0) (pe_op op_sub (pe_callB call_len_seq (by rfl) T.z_len (by decide +kernel) (pa_cons (pe_fld (pv 0) rfl) pa_nil)) pe_int) rfl)
  (pss_one (ps_fld (pv 0) (pe_make T.mk_Bare (ok_Bare_init T) (hr.mono (by decide)) rfl T.m_Bare T.b_Bare___init__ .nil (passes_call (takes_of rfl rfl rfl rfl) (fun _ _ _ _ q => q)) (pa_cons (pe_lc (own := [("step", 4)]) (g := gName 4) (tt := tYes) rfl sc_Web___init__.nd (pi_tup (pe_fld (pv 0) rfl)) (blkOk_by (own := [("step", 4)]) (N := ["self", "width", "many", "steps", "step"]) (sc := defScope s_Web___init__) (by decide +kernel)) (fun _ _ _ _ _ => pg_name (i := 4) sc_Web___init__.nd rfl (Or.inl rfl)) (fun _ _ _ _ _ => pts_nil) (fun _ _ _ _ _ => (pe_fld_b (pv 4) rfl))) (pa_cons (pe_fld (pv 0) rfl) pa_nil))) rfl))))))))), ?_⟩
    walk_at "sm"
    have hlen : lenV H sv (els.map List.length) := by
      cases els with
      | none => exact he
      | some l =>
        obtain ⟨p, rfl, ⟨xs, h1, h2⟩, h3, h4⟩ := he
        exact ⟨p, xs, rfl, h1, paired_len h2, by omega⟩
    rcases hd with ⟨z, hz, rfl⟩ | ⟨wd, m, l, rfl, rfl, rfl, hz, hwd, l1, l2, hd⟩
    · refine ⟨wv, mv, sv, _, rfl, hw, hm, hlen, ?_⟩
      rw [hz]
      exact k
    · obtain ⟨p, rfl, hp, h3, h4⟩ := he
      refine ⟨.int wd, .int m, .ref p, _, rfl, hw, hm, hlen, ?_⟩
      rw [hz]
      intro H1 e1
      have hp1 := hp.go e1
      rcases hd with ⟨iz, hst, rfl⟩ | ⟨hst, sts, rfl, hbe, dd, hid, rfl⟩
      · refine ⟨p, m, l, rfl, hp1, l2, h4, ?_⟩
        rw [hst]
        exact RzW.go (C := a.c_BadWeb) k e1
      · refine ⟨p, m, _, rfl, hp1, l2, h4, ?_⟩
        rw [hst]
        intro H2 e2
        have hp2 := hp1.go e2
        have ls : (sts.map some).length = sts.length := List.length_map ..
        refine ⟨p, sts, dd, rfl, hp2, by omega, hbe.arr, hid, ?_⟩
        cases dd with
        | some q => exact RzW.go (C := a.c_BadWeb) k (e1.trans e2)
        | none =>
          intro H3 e3
          have hx3 := ((e1.trans e2).trans e3) _ _ hx
          obtain ⟨xs, hpx, hxs⟩ := hp.go ((e1.trans e2).trans e3)
          have hn : Paired (stN a.c_Step x H3) xs sts := stN_of hx3 hxs
          refine ⟨_, _, _, hx3, T.ic_Web.cl, T.na_Web_width, by decide, _, _, _, upd_same, T.ic_Web.cl, T.na_Web_many, (by show 1 < 1000; omega), ?_⟩
          have f3 : Fr x H H3 := Fr.of ((e1.trans e2).trans e3)
          have f4 : Fr x H3 (upd (upd H3 x (.ins a.c_Web dx (putF "width" (.int wd) []))) x (.ins a.c_Web dx (putF "many" (.int m) (putF "width" (.int wd) [])))) := Fr.upd.trans Fr.upd
          have x4 : upd (upd H3 x (.ins a.c_Web dx (putF "width" (.int wd) []))) x (.ins a.c_Web dx (putF "many" (.int m) (putF "width" (.int wd) []))) x = some (.ins a.c_Web dx [("width", .int wd), ("many", .int m)]) := upd_same
          have hn4 := Paired.mapP hn fun _ _ z => z.fr hx3 f4
          have hp4 := hpx.kp (Kp.fr hx3 f4)
          have f5 := f3.trans f4
          refine ⟨mdWI a H x dx p wd m sts, ?_, ?_⟩
          · generalize upd (upd H3 x (.ins a.c_Web dx (putF "width" (.int wd) []))) x (.ins a.c_Web dx (putF "many" (.int m) (putF "width" (.int wd) []))) = H4 at f4 x4 hn4 hp4 f5 ⊢
            have fin : ∀ H5 sp, Evl.Ex H4 H5 → H5 sp = some (.tup xs) → ∃ x_8 x_9 x_10, H5 x = some (HO.ins x_8 x_9 x_10) ∧ Cls K x_8 ∧ NoAttr K x_8 "steps" ∧ x_10.length < 1000 ∧ mdWI a H x dx p wd m sts [some (.ref x), some (.int wd), some (.int m), some (.ref p), none] (upd H5 x (HO.ins x_8 x_9 (putF "steps" (.ref sp) x_10))) := by
              intro H5 sp e5 hs
              have x5 := e5 _ _ x4
              have f6 : Fr x H5 (upd H5 x (.ins a.c_Web dx (putF "steps" (.ref sp) [("width", .int wd), ("many", .int m)]))) := Fr.upd
              exact ⟨_, _, _, x5, T.ic_Web.cl, T.na_Web_steps, (by show 2 < 1000; omega), sp, xs, rfl, upd_same, (Kp.fr x5 f6).1 _ _ hs, Paired.mapP hn4 fun _ _ z => (z.go e5).fr x5 f6, (f5.trans (Fr.of e5)).trans f6⟩
            walk_at "sm"
            refine ⟨xs, ?_⟩
            rcases hp4 with g | g
            · exact .inr ⟨SqT.of g, fin H4 p (Evl.Ex.refl _) g⟩
            · exact .inl ⟨SqL.of g, fun l hl => fin _ l (Evl.Ex.new hl) upd_same⟩
          · rintro σ H6 ⟨sp, ys, rfl, x6, hsp, hn6, f6⟩
            walk_at "sm"
            have ly : ys.length = sts.length := paired_len hn6
            have lb : (bsOf sts).length = sts.length := by unfold bsOf; rw [List.length_map]
            have l1' : 1 ≤ sts.length := by omega
            have l2' : sts.length ≤ 200 := by omega
            refine ⟨_, _, _, x6, T.ic_Web.cl, T.na_Web_steps, _, rfl, sp, rfl, ys, .inr (SqT.of hsp), _, _, _, x6, T.ic_Web.cl, T.na_Web_end, (by show 3 < 1000; omega), ?_⟩
            have ee : ((ys.length : Nat) : Int) - 1 = ((sts.length - 1 : Nat) : Int) := by omega
            rw [ee]
            have f7 : Fr x H6 (upd H6 x (.ins a.c_Web dx (putF "end" (.int ((sts.length - 1 : Nat) : Int)) [("width", .int wd), ("many", .int m), ("steps", .ref sp)]))) := Fr.upd
            have x7 : upd H6 x (.ins a.c_Web dx (putF "end" (.int ((sts.length - 1 : Nat) : Int)) [("width", .int wd), ("many", .int m), ("steps", .ref sp)])) x = some (.ins a.c_Web dx [("width", .int wd), ("many", .int m), ("steps", .ref sp), ("end", .int ((sts.length - 1 : Nat) : Int))]) := upd_same
            have hn7 := Paired.mapP hn6 fun _ _ z => z.fr x6 f7
            have hs7 := (Kp.fr x6 f7).1 _ _ hsp
            have f8 := f6.trans f7
            generalize upd H6 x (.ins a.c_Web dx (putF "end" (.int ((sts.length - 1 : Nat) : Int)) [("width", .int wd), ("many", .int m), ("steps", .ref sp)])) = H7 at f7 x7 hn7 hs7 f8 ⊢
            have hel : Paired (elR a.c_Step H7) ys (sts.map some) := el_of_stN hn7
            refine ⟨_, _, _, x7, T.ic_Web.cl, T.na_Web_steps, _, rfl, sp, rfl, ⟨_, SqT.of hs7⟩, lcg_tup (K := K) (a := sp) (xs := ys) (ivBf H7 sts) (fun D hD => ⟨Evl.Ex.new hD, [], upd_same, .nil⟩) (fun D i HX hD hi h => SqT.of (h.1 _ _ hs7)) (fun D i y HX hD hy h => turn_befs T hel l2' hD hy h) ?_⟩
            rintro D HX hD ⟨g1, zs, g2, g3⟩
            rw [ly, ← lb, List.take_length] at g3
            walk_at "sm"
            have x8 := g1 _ _ x7
            refine ⟨_, _, _, x8, T.ic_Web.cl, T.na_Web_end, _, rfl, fun y dy hy hdy ne => ?_⟩
            have eY : Evl.Ex HX (upd (upd HX dy (.own y)) y (.ins a.c_Bare dy [])) := (Evl.Ex.new hdy).trans (Evl.Ex.new (by rw [upd_ne (Ne.symm ne)]; exact hy))
            have yY : upd (upd HX dy (.own y)) y (.ins a.c_Bare dy []) y = some (.ins a.c_Bare dy []) := upd_same
            have g3Y := Paired.mapP g3 fun _ _ z => z.go (Kp.ex eY)
            have g2Y := eY _ _ g2
            generalize upd (upd HX dy (.own y)) y (.ins a.c_Bare dy []) = HY at eY yY g3Y g2Y ⊢
            refine ⟨y, dy, D, bsOf sts, sts.length - 1, rfl, yY, ⟨zs, .inr g2Y, g3Y⟩, hbe, by omega, hid, fun H9 f9 bt => ⟨rfl, ?_⟩⟩
            have nxy : x ≠ y := fun z => by rw [← z, x8] at hy; cases hy
            have x9 : H9 x = some (.ins a.c_Web dx [("width", .int wd), ("many", .int m), ("steps", .ref sp), ("end", .int ((sts.length - 1 : Nat) : Int))]) := f9 _ _ nxy (eY _ _ x8)
            have toH9 : ∀ b o, HX b = some o → H9 b = some o := fun b o h => f9 b o (fun z => by rw [z, hy] at h; cases h) (eY _ _ h)
            have fF : Fr x H9 (upd H9 x (.ins a.c_Web dx (putF "bare" (.ref y) [("width", .int wd), ("many", .int m), ("steps", .ref sp), ("end", .int ((sts.length - 1 : Nat) : Int))]))) := Fr.upd
            refine ⟨_, _, _, x9, T.ic_Web.cl, T.na_Web_bare, (by show 4 < 1000; omega), k _ wd m sts rfl rfl rfl ?_ ?_⟩
            · exact (f8.trans (fun b o n h => toH9 b o (g1 _ _ h))).trans fF
            · refine ⟨dx, sp, y, ys, upd_same, (Kp.fr x9 fF).1 _ _ (toH9 _ _ (g1 _ _ hs7)), Paired.mapP hn7 fun v s z => ?_, Ne.symm nxy, bt.fr x9 fF (Ne.symm nxy)⟩
              have z2 : stN a.c_Step x H9 v s := z.go (fun b o h => toH9 b o (g1 _ _ h))
              exact z2.fr x9 fF
end


/-! ### len, iter and == of webs -/
theorem stR_go' {C : Addr} : ∀ (a b : Addr) (H H' : Hp), Ext H H' → stR C a b H → stR C a b H' := fun _ _ _ _ e h => stR_go e h
section
variable {P : Program} {w : World} {K : PySem.W.Frag} {mg : Str → Option Value} {base : Heap} {a : Ad}
def spWL (a : Ad) : Sp := fun vs H Q _ => ∃ (x : Addr) (wd m : Nat) (sts : List Stp), vs = [.ref x] ∧ WebAt a H x wd m sts ∧ Q (.int sts.length) H
theorem ok_Web_len (T : Txt K mg a) : FnOk P w K mg base CX0 1 a.f_Web___len__ a.d_Web___len__ ["self"] (spWL a) := by
  refine T.F_Web___len__.ok sc_Web___len__ (fun vs H Q E h => ?_) (fun cdv A outer s H vs Q E hr h => ?_)
  · obtain ⟨_, _, _, _, rfl, _⟩ := h
    rfl
  · obtain ⟨x, wd, m, sts, rfl, ⟨dx, sp, bp, xs, h1, h2, h3, h4, h5⟩, k⟩ := h
    refine ⟨_, (pss_one (ps_ret (pe_callB call_len_seq (by rfl) T.z_len (by decide +kernel) (pa_cons (pe_fld (pv 0) rfl) pa_nil)))), ?_⟩
    walk_at "sm"
    refine ⟨_, _, _, h1, T.ic_Web.cl, T.na_Web_steps, _, rfl, sp, rfl, xs, .inr (SqT.of h2), ?_⟩
    rw [paired_len h3]
    exact k
def spWE (a : Ad) : Sp := fun vs H Q _ => ∃ (x y : Addr) (wd wd' m m' : Nat) (sts sts' : List Stp), vs = [.ref x, .ref y] ∧ WebAt a H x wd m sts ∧ WebAt a H y wd' m' sts' ∧ ((wd ≠ wd' ∧ Q (.bl false) H) ∨ (wd = wd' ∧ m = m' ∧ sts = sts' ∧ ∀ H', Evl.Ex H H' → Q (.bl true) H'))
theorem prs_steps {C x y : Addr} {H : Hp} : ∀ {xs ys : List V} {sts : List Stp}, Paired (stN C x H) xs sts → Paired (stN C y H) ys sts → Prs (DIns C (stR C)) xs ys H
  | _, _, _, .nil, .nil => Prs.nil
  | _, _, _, .cons ⟨p, h1, _, h2⟩ t, .cons ⟨q, g1, _, g2⟩ u => by
    refine Prs.cons ?_ (prs_steps t u)
    obtain ⟨dx, kp, op, bp, e1, _⟩ := id h2
    obtain ⟨dy, kq, oq, bq, e2, _⟩ := id g2
    exact ⟨p, q, dx, dy, _, _, h1, g1, e1, e2, _, h2, g2⟩
theorem ok_Web_eq (T : Txt K mg a) : FnOk P w K mg base CX0 4 a.f_Web___eq__ a.d_Web___eq__ ["self", "other"] (spWE a) := by
  refine T.F_Web___eq__.ok sc_Web___eq__ (fun vs H Q E h => ?_) (fun cdv A outer s H vs Q E hr h => ?_)
  · obtain ⟨_, _, _, _, _, _, _, _, rfl, _⟩ := h
    rfl
  · obtain ⟨x, y, wd, wd', m, m', sts, sts', rfl, ⟨dx, sp, bp, xs, h1, h2, h3, h4, h5⟩, ⟨dy, sq, bq, ys, g1, g2, g3, g4, g5⟩, k⟩ := h
    refine ⟨_, (pss_one (ps_ret (pe_and (pe_callB (C8.call_isC T.ic_Web) (by rfl) T.z_isinstance (by decide +kernel) (pa_cons (pv 1) (pa_cons (pe_glob (v := .ref a.c_Web) rfl T.m_Web rfl) pa_nil))) (pe_and (pe_cmpR op_eq (pe_fld (pv 0) rfl) (pe_fld (pv 1) rfl) (nomark _)) (pe_and (pe_cmpR op_eq (pe_fld (pv 0) rfl) (pe_fld (pv 1) rfl) (nomark _)) (pe_one (pe_cmpR (op_eqG (rcG_tup (mon_ins stR_go') (eqG_ins (ok_Step_eqR T) T.at_Step___eq__ T.fn_Step___eq__ T.b_Step___eq__ pass0)) (hr.mono (by decide))) (pe_fld (pv 0) rfl) (pe_fld (pv 1) rfl) (nomark _)))))))), ?_⟩
    walk_at "sm"
    refine ⟨⟨_, _, g1⟩, _, _, _, h1, T.ic_Web.cl, T.na_Web_width, _, rfl, _, _, _, g1, T.ic_Web.cl, T.na_Web_width, _, rfl, rfl, ?_⟩
    rcases k with ⟨ne, k⟩ | ⟨rfl, rfl, rfl, k⟩
    · exact iteN (fun z => ne (by have := V.int.inj z; omega)) k
    · refine iteP rfl ⟨_, _, _, h1, T.ic_Web.cl, T.na_Web_many, _, rfl, _, _, _, g1, T.ic_Web.cl, T.na_Web_many, _, rfl, rfl, iteP rfl ⟨_, _, _, h1, T.ic_Web.cl, T.na_Web_steps, _, rfl, _, _, _, g1, T.ic_Web.cl, T.na_Web_steps, _, rfl, ?_, ?_⟩⟩
      · exact ⟨sp, sq, xs, ys, rfl, rfl, SqT.of h2, SqT.of g2, prs_steps h3 g3⟩
      · exact fun H' e => k H' e
end


/-! ### a walk over an own object whose __iter__ gives a tuple's iterator -/
/-- as FnOk, for a promise that may tell how great the heap was -/
structure FnZ (P : Program) (w : World) (K : PySem.W.Frag) (mg : Str → Option Value) (base : Heap) (CX : CXT) (k : Nat) (f : Addr) (fd : FuncData) (ps : List Str) (sp : Nat → Sp) : Prop where
  len : ∀ n vs H Q E, sp n vs H Q E → vs.length = ps.length
  run : ∀ (A : Around) (outer : List Env) (s : Shared) (H : Hp) (args : Args) (us : List Value) (vs : List V) (Q : VK) (E : XK), Room k A → Env0 P w K mg base A outer s H → BindsTo s fd args (ps.zip us) → Vals vs us → sp s.heap.objs.size vs H Q E →
    codeAny (model P w) A (.call (.ref f) args) (CR CX outer P w H s Q E) s
theorem fnZ_of {CX : CXT} {P : Program} {w : World} {K : PySem.W.Frag} {mg : Str → Option Value} {base : Heap} {k : Nat} {x qual : Str} {st : Stmt} {f : Addr} {fd : FuncData} {N ps : List Str} {sp : Nat → Sp} (F : Fun K x qual st f fd) (S : FnScope N ps (defScope st))
    (len : ∀ n vs H Q E, sp n vs H Q E → vs.length = ps.length)
    (hb : ∀ (cdv : Value) (A : Around) (outer : List Env) (s : Shared) (H : Hp) (vs : List V) (Q : VK) (E : XK), Room k (A.deeper (envOfC qual (defScope st) s.heap.objs.size f cdv)) → sp s.heap.objs.size vs H Q E →
      ∃ t, PSs (cxOf CX P w K mg base N qual (defScope st) f cdv A outer s H E) (defBody st) t ∧ t { nx := fun _ H' => Q .non H', rt := Q } (start N vs) H) : FnZ P w K mg base CX (k + 1) f fd ps sp := by
  obtain ⟨_, _, _, _, _, _, cdv, _, _, rfl, look, cd⟩ := F.ex
  refine ⟨len, fun A outer s H args us vs Q E room env bd rv asks => ?_⟩
  have same := len _ _ _ _ _ asks
  have inK : K.In s.heap := env.mod.kin.keeps fun b o z => (env.bs b o z).1
  have nolim : s.heap.NoLimit := env.mod.nolimit.keeps fun b o z => (env.bs b o z).1
  have kinds : ∀ y ∈ ps.zip us, (defScope st).names.lookup y.1 = some .local ∨ ((defScope st).names.lookup y.1 = some .cell ∧ ((cellsFrom (s.heap.objs.size + 1) (defScope st).names []).lookup y.1).isSome = true) := fun ⟨n, v⟩ hy =>
    (S.par n (List.of_mem_zip hy).1).imp id fun z => ⟨z, PySem.W.cellsFrom_some _ _ _ (.inl z)⟩
  refine codeAny_call_function room.depth (inK _ _ look) rfl S.co S.gen rfl (PySem.W.codeRec_of inK cd) (bd _ _ _ _ (wpAny_newFunctionEnv_cells S.kind kinds fun env2 he s1 fresh => ?_))
  subst he
  refine ⟨nolim.keeps fresh.toInCall.keep, codeAny_func ?_⟩
  obtain ⟨t, ht, todo⟩ := hb cdv A outer s H vs Q E (room.deeper _) asks
  have I0 : Inv (cxOf CX P w K mg base N qual (defScope st) f cdv A outer s H E) [] (start N vs) H s1 := inv_start S room.hd env same rv fresh
  refine wpAny_mono (ht.run [] s1 (start N vs) H _ I0 todo) (fun fl s2 out => ?_) fun _ _ z => z
  cases fl with
  | ret u =>
    obtain ⟨v, _, H2, J, r2, q2⟩ := out
    exact ⟨v, H2, J.os, J.bare, J.base, J.hok, r2, q2⟩
  | next =>
    obtain ⟨_, H2, J, q2⟩ := out
    exact ⟨V.non, H2, J.os, J.bare, J.base, J.hok, rfl, q2⟩
  | brk =>
    obtain ⟨_, _, _, no⟩ := out
    exact no.elim
  | cont =>
    obtain ⟨_, _, _, no⟩ := out
    exact no.elim
/-- at it an iterator over the tuple at t, at its start -/
def ItTO (t it : Addr) : HO := .ext fun h => h.IsTupleIter it t 0
theorem itTO_ok {P : Program} {w : World} {H : Hp} {h : Heap} {t it : Addr} (e : h.IsTupleIter it t 0) : ObjOk P w H h it (ItTO t it) := by
  have e0 := e
  obtain ⟨o, ho, _⟩ := e
  exact ⟨e0, ⟨o, ho⟩, fun h1 h2 q k => q.at k⟩
def rIterT (K : PySem.W.Frag) (n : Nat) : List V → Hp → VK → Prop := fun xs H Q => ∃ (t : Addr) (zs : List V), xs = [.ref t] ∧ SqT K H t zs ∧ ∀ it, H it = none → n ≤ it → Q (.ref it) (upd H it (ItTO t it))
theorem call_iterT {X : Cx} : CallR X (.builtin "iter") (rIterT X.K X.s_0.heap.objs.size) := by
  intro pins s σ H xs us Q I r h
  obtain ⟨t, zs, rfl, hq, q⟩ := h
  obtain ⟨u, rfl, ru⟩ := vals1 r
  cases ru
  obtain ⟨its, rv, pt, hz⟩ := I.tuple hq
  refine Calls.call_function_entry (by decide +kernel) (by decide +kernel) PySem.W.kdk_entry_iter (PySem.W.kdk_args_iter _) ?_
  unfold Builtin.«iter»
  refine wpAny_bind (m := someArgs "iter" 1 2 _) (wpAny_of_eq (a := [Value.ref t]) (by first | rfl | kernel_rfl!) ?_)
  show wpAny _ _ (pyIter (.ref t) >>= _) _ _ _
  refine wpAny_bind (wpAny_pyIter_tuple (show s.heap.IsTuple t its.toArray from pt) (wpAny_pure ⟨_, rfl, ?_⟩))
  exact ⟨.ref s.heap.objs.size, _, I.laid (t' := s.toks) (fun b u e => Heap.get?_push_of_some _ e) (Nat.le_refl _) (itTO_ok ⟨_, Heap.get?_push_size _ rfl, rfl, rfl⟩), rfl, q _ (I.hok.fresh (Nat.le_refl _)) I.sz⟩
/-- for y in o, o an instance whose own __iter__ gives an iterator over the tuple that stands in the field f -/
def spOwnT (C : Addr) (f : Str) : Nat → Sp := fun n vs H Q _ => ∃ (x dx t : Addr) (fs : List (Str × V)) (zs : List V), vs = [.ref x] ∧ H x = some (.ins C dx fs) ∧ fs.lookup f = some (.ref t) ∧ H t = some (.tup zs) ∧ ∀ it, H it = none → n ≤ it → Q (.ref it) (upd H it (ItTO t it))
def iOwnT (K : PySem.W.Frag) (C : Addr) (f : Str) (te : TE) : TI := fun σ H R => te σ H fun v H1 => ∃ (x dx t : Addr) (fs : List (Str × V)) (zs : List V), v = .ref x ∧ H1 x = some (.ins C dx fs) ∧ fs.lookup f = some (.ref t) ∧ H1 t = some (.tup zs) ∧ R (Itt K t) H1
theorem pi_ownT {X : Cx} {tg e : Expr} {te : TE} {k : Nat} {CI : CXT} {EI : XK} {C fi : Addr} {fd : FuncData} {f : Str} (he : PE X e te) (FI : FnZ X.prog X.w X.K X.mg X.base CI k fi fd ["self"] (spOwnT C f)) (hi : PySem.W.findIn X.K (.ref C) "__iter__" = some (some (.ref fi))) (hf : PySem.W.isFn X.K (.ref fi) = true)
    (hb : Binds X.K fd ["self"] []) (hx : Passes CI X EI) (hr : Room (k + 1) X.A) : PI X tg e (iOwnT X.K C f te) := by
  refine ⟨fun pins s σ H R I h => thn (he.run pins s σ H _ I h) fun v s1 ⟨y, H1, I1, r1, x, dx, t, fs, zs, ey, hx1, hl, ht, q⟩ => ?_⟩
  subst ey
  cases r1
  obtain ⟨mA, J, _⟩ := ins_get I1.hok hx1
  obtain ⟨od, J, _⟩ := J.look
  obtain ⟨m0, hF⟩ := I1.fr
  refine PySem.W.owit_iter hF I1.ok.mod.kin J hi hf ?_
  have e0 : Env0 X.prog X.w X.K X.mg X.base X.A X.stack s1 H1 := I1.env0
  have asks : spOwnT C f s1.heap.objs.size [.ref x] H1 (fun v H' => ∃ it, v = .ref it ∧ H' = upd H1 it (ItTO t it) ∧ H1 it = none ∧ s1.heap.objs.size ≤ it) EI := ⟨x, dx, t, fs, zs, rfl, hx1, hl, ht, fun it h1 h2 => ⟨it, rfl, rfl, h1, h2⟩⟩
  have bd := hb s1 [.ref x] I1.kIn rfl
  rw [List.append_nil] at bd
  refine wpAny_call (codeAny_mono (FI.run X.A X.stack s1 H1 ⟨[.ref x], []⟩ [.ref x] [.ref x] _ EI (hr.mono (Nat.le_succ k)) e0 bd (.cons rfl .nil) asks) fun r s2 out => ?_)
  cases r with
  | error ex => exact hx pins σ H1 s1 ex s2 I1 out
  | ok fl =>
    cases fl with
    | next => exact out.elim
    | brk => exact out.elim
    | cont => exact out.elim
    | ret u =>
      obtain ⟨v2, H2, I2, rv, it, ev, eH, hn, hz⟩ := I1.after out
      subst ev
      subst eH
      cases rv
      have hit : upd H1 it (ItTO t it) it = some (ItTO t it) := upd_same
      have ti : s2.heap.IsTupleIter it t 0 := (I2.hok it _ hit).1
      unfold PySem.W.OwitIt
      refine wpAny_specialOf ti.typeIs F.slot_tuple_iterator_next.lookup ?_
      have eD : ItX.dropH (upd H1 it (ItTO t it)) it = H1 := ItX.dropH_upd hn
      have I3 := ItX.inv_drop I2 (show upd H1 it (ItTO t it) it = some (.ext _) from hit)
      have fp := ItX.inv_fp I2 hit (Nat.le_trans I1.sz hz)
      rw [eD] at I3 fp
      refine ⟨it, [it], _, Itt X.K t, H1, rfl, I3, turn_tuple t it, ti, fun b hb => ?_, q⟩
      rw [List.mem_singleton.mp hb]
      exact fp
section
variable {P : Program} {w : World} {K : PySem.W.Frag} {mg : Str → Option Value} {base : Heap} {a : Ad}
theorem ok_Web_iter (T : Txt K mg a) : FnZ P w K mg base CX0 1 a.f_Web___iter__ a.d_Web___iter__ ["self"] (spOwnT a.c_Web "steps") := by
  refine fnZ_of T.F_Web___iter__ sc_Web___iter__ (fun n vs H Q E h => ?_) (fun cdv A outer s H vs Q E hr h => ?_)
  · obtain ⟨_, _, _, _, _, rfl, _⟩ := h
    rfl
  · obtain ⟨x, dx, t, fs, zs, rfl, hx, hl, ht, k⟩ := h
    refine ⟨_, (pss_one (ps_ret (pe_callB call_iterT (by rfl) T.z_iter (by decide +kernel) (pa_cons (pe_fld (pv 0) rfl) pa_nil)))), ?_⟩
    walk_at "sm"
    exact ⟨_, _, _, hx, T.ic_Web.cl, T.na_Web_steps, _, hl, t, zs, rfl, SqT.of ht, k⟩
end


/-! ### the words of a web -/
section
variable {P : Program} {w : World} {K : PySem.W.Frag} {mg : Str → Option Value} {base : Heap} {a : Ad}
def spStep : Sp := fun vs H Q _ => ∃ (p t : Addr) (k : Kd) (ws : List Int) (w : Nat), vs = [.ref p, .ref t, .int w] ∧ KdAt H p k ∧ H t = some (.lst (ws.map V.int)) ∧ ws.length = k.many ∧ (∀ x ∈ ws, 0 ≤ x ∧ x < 4096) ∧ w ≤ 12 ∧ Q (.int (k.word ws w)) H
theorem ok_step_word (T : Txt K mg a) : FnOk P w K mg base CX0 2 a.f_step_word a.d_step_word ["kind", "words", "width"] spStep := by
  refine T.F_step_word.ok sc_step_word (fun vs H Q E h => ?_) (fun cdv A outer s H vs Q E hr h => ?_)
  · obtain ⟨_, _, _, _, _, rfl, _⟩ := h
    rfl
  · obtain ⟨p, t, kd, ws, wd, rfl, hk, ht, hl, hb, hw, k⟩ := h
    refine ⟨_, (pss_cons (ps_set (i := 3) sc_step_word.nd rfl (by first | exact Or.inl rfl | exact Or.inr rfl) (pe_op op_sub (pe_op op_shl pe_int (pv 2)) pe_int))
  (pss_cons (ps_if (pt_cmpR op_eq (pe_ix ix_tup (pv 0) pe_int (fun _ _ => rfl)) pe_str (nomark _)) (pss_one (ps_ret (pe_ifExp (pt_truth (pe_ix ix_list (pv 1) pe_int (fun _ _ => rfl)) (by intro _; rfl)) (pe_ix ix_list (pv 1) pe_int (fun _ _ => rfl)) (pe_ix ix_list (pv 1) pe_int (fun _ _ => rfl)))))
    pss_nil)
  (pss_cons (ps_if (pt_cmpR op_in_seq (pe_ix ix_tup (pv 0) pe_int (fun _ _ => rfl)) (pe_glob rfl T.g_PAIR_SIGNS.choose_spec.1 T.g_PAIR_SIGNS.choose_spec.2) (by rfl)) (pss_one (ps_ret (pe_op op_andM (pe_call (ok_pair_word T) (hr.mono (by decide)) rfl T.m_pair_word T.F_pair_word.kp T.b_pair_word .nil pass0 (pa_cons (pe_ix ix_tup (pv 0) pe_int (fun _ _ => rfl)) (pa_cons (pe_ix ix_list (pv 1) pe_int (fun _ _ => rfl)) (pa_cons (pe_ix ix_list (pv 1) pe_int (fun _ _ => rfl)) pa_nil)))) (pv 3))))
    pss_nil)
  (pss_one (ps_ret (pe_op op_andM (pe_call (ok_single_word T) (hr.mono (by decide)) rfl T.m_single_word T.F_single_word.kp T.b_single_word .nil pass0 (pa_cons (pv 0) (pa_cons (pe_ix ix_list (pv 1) pe_int (fun _ _ => rfl)) pa_nil))) (pv 3))))))), ?_⟩
    obtain ⟨r, hp⟩ := hk.head
    walk_at "sm"
    refine ⟨⟨by omega, by omega, by decide⟩, ix0 hp ⟨rfl, ite2 (fun e => ?_) fun e => ix0 hp (in_tup (T.t_PAIR_SIGNS H) rfl (by decide +kernel) ⟨_, rfl, ?_⟩)⟩⟩
    · have e2 := (sg_pick kd).mp (by simpa using e)
      subst e2
      obtain ⟨x, y, z, rfl⟩ : ∃ x y z, ws = [x, y, z] := match ws, hl with
        | [_, _, _], _ => ⟨_, _, _, rfl⟩
      have k2 : Q (.int (if x = 0 then z else y)) H := k
      refine lx0 ht ⟨x != 0, rfl, ?_⟩
      by_cases hx : x = 0
      · subst hx
        exact iteF (lx2 ht (by rw [if_pos rfl] at k2; exact k2))
      · rw [if_neg hx] at k2
        exact iteP (by simpa using hx) (lx1 ht k2)
    · have e' : ¬ kd = .pick := fun q => e (by rw [q]; rfl)
      have := sg_pr kd
      unfold prL at this
      rw [this]
      have em : (1 : Int) * 2 ^ (wd : Int).toNat - 1 = 2 ^ wd - 1 := by rw [Int.toNat_natCast, Int.one_mul]
      cases kd with
      | pick => exact absurd rfl e'
      | pr kk =>
        obtain ⟨x, y, rfl⟩ : ∃ x y, ws = [x, y] := match ws, hl with
          | [_, _], _ => ⟨_, _, rfl⟩
        have hx := hb x List.mem_cons_self
        exact iteT (ix0 hk (lx0 ht (lx1 ht ⟨kk, x, y, rfl, ⟨by omega, by omega⟩, _, rfl, wd, em, k⟩)))
      | same =>
        obtain ⟨x, rfl⟩ : ∃ x, ws = [x] := match ws, hl with
          | [_], _ => ⟨_, rfl⟩
        have hx := hb x List.mem_cons_self
        exact iteF (lx0 ht ⟨p, .same, x, rfl, hk, rfl, (fun q => by cases q), hx.1, hx.2, _, rfl, wd, em, k⟩)
      | sh l n =>
        obtain ⟨x, rfl⟩ : ∃ x, ws = [x] := match ws, hl with
          | [_], _ => ⟨_, rfl⟩
        have hx := hb x List.mem_cons_self
        exact iteF (lx0 ht ⟨p, .sh l n, x, rfl, hk, rfl, (fun q => by cases q), hx.1, hx.2, _, rfl, wd, em, k⟩)
      | tab ns =>
        obtain ⟨x, rfl⟩ : ∃ x, ws = [x] := match ws, hl with
          | [_], _ => ⟨_, rfl⟩
        have hx := hb x List.mem_cons_self
        exact iteF (lx0 ht ⟨p, .tab ns, x, rfl, hk, rfl, (fun q => by cases q), hx.1, hx.2, _, rfl, wd, em, k⟩)
theorem int_get {l : List Int} {n : Nat} (h : n < l.length) : atI (l.map V.int) (n : Int) = some (.int ((l[n]?).getD 0)) := atI_nat (by rw [List.getElem?_map, List.getElem?_eq_getElem h]; rfl)
def Opd.word (o : Opd) (ws inp : List Int) (wd : Nat) : Int := match o with
  | .pl n => (ws[n]?).getD 0
  | .gi n => (inp[n]?).getD 0
  | .nu n => (n : Int) % 2 ^ wd
def Opd.fits (o : Opd) (nw ni : Nat) : Prop := match o with
  | .pl n => n < nw
  | .gi n => n < ni
  | .nu _ => True
def spOW : Sp := fun vs H Q _ => ∃ (p W J : Addr) (o : Opd) (ws inp : List Int) (wd : Nat), vs = [.ref p, .ref W, .ref J, .int wd] ∧ OpAt H p o ∧ H W = some (.lst (ws.map V.int)) ∧ H J = some (.tup (inp.map V.int)) ∧ wd ≤ 12 ∧ o.fits ws.length inp.length ∧ Q (.int (o.word ws inp wd)) H
theorem ok_operand_word (T : Txt K mg a) : FnOk P w K mg base CX0 1 a.f_operand_word a.d_operand_word ["operand", "words", "inputs", "width"] spOW := by
  refine T.F_operand_word.ok sc_operand_word (fun vs H Q E h => ?_) (fun cdv A outer s H vs Q E hr h => ?_)
  · obtain ⟨_, _, _, _, _, _, _, rfl, _⟩ := h
    rfl
  · obtain ⟨p, W, J, o, ws, inp, wd, rfl, ho, hW, hJ, hw, hf, k⟩ := h
    refine ⟨_, (pss_cons (ps_asg (pv 0) (pg_tup rfl (pgs_cons (pg_name (i := 4) sc_operand_word.nd rfl (by first | exact Or.inl rfl | exact Or.inr rfl)) (pgs_cons (pg_name (i := 5) sc_operand_word.nd rfl (by first | exact Or.inl rfl | exact Or.inr rfl)) pgs_nil))))
  (pss_cons (ps_if (pt_cmpR op_eq (pv 4) pe_str (nomark _)) (pss_one (ps_ret (pe_ix ix_list (pv 1) (pv 5) (fun _ _ => rfl))))
    pss_nil)
  (pss_one (ps_ret (pe_ifExp (pt_cmpR op_eq (pv 4) pe_str (nomark _)) (pe_ix ix_tup (pv 2) (pv 5) (fun _ _ => rfl)) (pe_op op_andM (pv 5) (pe_op op_sub (pe_op op_shl pe_int (pv 3)) pe_int))))))), ?_⟩
    walk_at "sm"
    refine ⟨_, SqT.of ho, rfl, _, _, rfl, _, _, rfl, rfl, rfl, ?_⟩
    cases o with
    | pl n => exact iteP rfl (ixl (SqL.of hW) (int_get hf) k)
    | gi n => exact iteN (show ¬ (V.str "given" = V.str "place") by decide +kernel) ⟨rfl, iteP rfl (ixt hJ (int_get hf) k)⟩
    | nu n => exact iteN (show ¬ (V.str "number" = V.str "place") by decide +kernel) ⟨rfl, iteN (show ¬ (V.str "number" = V.str "given") by decide +kernel) ⟨⟨by omega, by omega, by decide⟩, _, rfl, wd, by rw [Int.toNat_natCast, Int.one_mul], k⟩⟩
def rng (wd : Nat) (l : List Int) : Prop := ∀ x ∈ l, 0 ≤ x ∧ x < 2 ^ wd
def stWord (s : Stp) (ws inp : List Int) (wd : Nat) : Int := s.kd.word (s.ops.map fun o => o.word ws inp wd) wd
theorem word_rng {o : Opd} {ws inp : List Int} {wd : Nat} (hf : o.fits ws.length inp.length) (h1 : rng wd ws) (h2 : rng wd inp) : 0 ≤ o.word ws inp wd ∧ o.word ws inp wd < 2 ^ wd := by
  have p : (0 : Int) < 2 ^ wd := Int.pow_pos (by decide)
  cases o with
  | pl n =>
    have hf : n < ws.length := hf
    show 0 ≤ (ws[n]?).getD 0 ∧ (ws[n]?).getD 0 < 2 ^ wd
    rw [List.getElem?_eq_getElem hf]
    exact h1 _ (List.getElem_mem hf)
  | gi n =>
    have hf : n < inp.length := hf
    show 0 ≤ (inp[n]?).getD 0 ∧ (inp[n]?).getD 0 < 2 ^ wd
    rw [List.getElem?_eq_getElem hf]
    exact h2 _ (List.getElem_mem hf)
  | nu n => exact ⟨Int.emod_nonneg _ (Int.ne_of_gt p), Int.emod_lt_of_pos _ p⟩
theorem kd_rng {k : Kd} {l : List Int} {wd : Nat} (hl : l.length = k.many) (h : rng wd l) : 0 ≤ k.word l wd ∧ k.word l wd < 2 ^ wd := by
  have p : (0 : Int) < 2 ^ wd := Int.pow_pos (by decide)
  have m : ∀ z : Int, 0 ≤ z % 2 ^ wd ∧ z % 2 ^ wd < 2 ^ wd := fun z => ⟨Int.emod_nonneg _ (Int.ne_of_gt p), Int.emod_lt_of_pos _ p⟩
  cases k with
  | pick =>
    match l, hl with
    | [x, y, z], _ =>
      show 0 ≤ (if x = 0 then z else y) ∧ (if x = 0 then z else y) < 2 ^ wd
      split
      · exact h z (by simp)
      · exact h y (by simp)
  | pr kk =>
    match l, hl with
    | [x, y], _ => exact m _
  | same =>
    match l, hl with
    | [x], _ => exact m _
  | sh b n =>
    match l, hl with
    | [x], _ => exact m _
  | tab ns =>
    match l, hl with
    | [x], _ => exact m _
def spWO (a : Ad) : Sp := fun vs H Q _ => ∃ (p W J : Addr) (s : Stp) (ws inp : List Int) (wd : Nat), vs = [.ref p, .ref W, .ref J, .int wd] ∧ StpAt a.c_Step H p s ∧ H W = some (.lst (ws.map V.int)) ∧ H J = some (.tup (inp.map V.int)) ∧ wd ≤ 12 ∧ s.ok ∧ (∀ o ∈ s.ops, o.fits ws.length inp.length) ∧ rng wd ws ∧ rng wd inp ∧
  ∀ H', Evl.Ex H H' → Q (.int (stWord s ws inp wd)) H'
def ivWO (H : Hp) (s : Stp) (ws inp : List Int) (wd : Nat) (D : Addr) (i : Nat) (H' : Hp) : Prop := Evl.Ex H H' ∧ H' D = some (.lst (((s.ops.take i).map fun o => o.word ws inp wd).map V.int))
theorem ok_word_over (T : Txt K mg a) : FnOk P w K mg base CX0 3 a.f_word_over a.d_word_over ["step", "words", "inputs", "width"] (spWO a) := by
  refine T.F_word_over.ok sc_word_over (fun vs H Q E h => ?_) (fun cdv A outer s H vs Q E hr h => ?_)
  · obtain ⟨_, _, _, _, _, _, _, rfl, _⟩ := h
    rfl
  · obtain ⟨p, W, J, st, ws, inp, wd, rfl, ⟨dx, kp, op, bp, s1, s2, ⟨xs, hx, hp⟩, s4⟩, hW, hJ, hw, hok, hf, r1, r2, k⟩ := h
    have lx := paired_len hp
    have lm := many_le st.kd
    refine ⟨_, (pss_cons (ps_setLc (i := 4) (own := [("operand", 5)]) (g := gName 5) (tt := tYes) rfl sc_word_over.nd rfl rfl (sw_true rfl rfl rfl (by decide +kernel)) (pi_tup (pe_fld (pv 0) rfl)) (blkOk_by (own := [("operand", 5)]) (N := ["step", "words", "inputs", "width", "parts", "operand"]) (sc := defScope s_word_over) (by decide +kernel)) (fun _ _ _ _ _ => pg_name (i := 5) sc_word_over.nd rfl (Or.inl rfl)) (fun _ _ _ _ _ => pts_nil) (fun _ _ _ _ _ => (pe_call (ok_operand_word T) (hr.mono (by decide)) rfl T.m_operand_word T.F_operand_word.kp T.b_operand_word .nil pass0 (pa_cons (pv 5) (pa_cons (pv 1) (pa_cons (pv 2) (pa_cons (pv 3) pa_nil)))))))
  (pss_one (ps_ret (pe_call (ok_step_word T) (hr.mono (by decide)) rfl T.m_step_word T.F_step_word.kp T.b_step_word .nil pass0 (pa_cons (pe_fld (pv 0) rfl) (pa_cons (pv 4) (pa_cons (pv 3) pa_nil))))))), ?_⟩
    walk_at "sm"
    refine ⟨_, _, _, s1, T.ic_Step.cl, T.na_Step_operands, _, rfl, op, rfl, ⟨_, SqT.of hx⟩, lcg_tup (K := K) (a := op) (xs := xs) (ivWO H st ws inp wd) (fun D hD => ⟨Evl.Ex.new hD, upd_same⟩) (fun D i HX hD hi h => SqT.of (h.1 _ _ hx)) ?_ ?_⟩
    · rintro D i y HX hD hi ⟨f1, f2⟩
      obtain ⟨o, ho1, q, rfl, ho⟩ := paired_at hp hi
      have om := List.mem_of_getElem? ho1
      have li := (List.getElem?_eq_some_iff.mp ho1).1
      walk_at "sm"
      refine ⟨q, W, J, o, ws, inp, wd, rfl, ho.go f1, f1 _ _ hW, f1 _ _ hJ, hw, hf o om, _, f2, Nat.lt_of_le_of_lt (show _ ≤ 100 by rw [List.length_map, List.length_map, List.length_take, hok.1]; omega) (by decide), f1.mut hD, ?_⟩
      rw [upd_same, List.take_add_one, ho1, List.map_append, List.map_append]
      rfl
    · rintro D HX hD ⟨f1, f2⟩
      rw [lx, List.take_length] at f2
      have p12 : (2 : Int) ^ wd ≤ 4096 := (two_le hw).2
      refine ⟨_, _, _, f1 _ _ s1, T.ic_Step.cl, T.na_Step_kind, _, rfl, kp, D, st.kd, _, wd, rfl, s2.go f1, f2, by rw [List.length_map]; exact hok.1, fun x hx2 => ?_, hw, k _ f1⟩
      obtain ⟨o, om, rfl⟩ := List.mem_map.mp hx2
      have := word_rng (hf o om) r1 r2
      exact ⟨this.1, Int.lt_of_lt_of_le this.2 p12⟩
/-- the words of a web's places -/
def runW (inp : List Int) (wd : Nat) : List Stp → List Int → List Int
  | [], ws => ws
  | s :: r, ws => runW inp wd r (ws ++ [stWord s ws inp wd])
/-- every operand stands: places before, inputs there are -/
def FitW (ni : Nat) : Nat → List Stp → Prop
  | _, [] => True
  | i, s :: r => s.ok ∧ (∀ o ∈ s.ops, o.fits i ni) ∧ FitW ni (i + 1) r
theorem st_rng {s : Stp} {ws inp : List Int} {wd : Nat} (hok : s.ok) (hf : ∀ o ∈ s.ops, o.fits ws.length inp.length) (h1 : rng wd ws) (h2 : rng wd inp) : 0 ≤ stWord s ws inp wd ∧ stWord s ws inp wd < 2 ^ wd :=
  kd_rng (by rw [List.length_map]; exact hok.1) fun x hx => by
    obtain ⟨o, om, rfl⟩ := List.mem_map.mp hx
    exact word_rng (hf o om) h1 h2
theorem runW_len (inp : List Int) (wd : Nat) : ∀ (sts : List Stp) (ws : List Int), (runW inp wd sts ws).length = ws.length + sts.length
  | [], ws => rfl
  | s :: r, ws => by
    show (runW inp wd r (ws ++ [_])).length = _
    rw [runW_len inp wd r]
    simp only [List.length_append, List.length_cons, List.length_nil]
    omega
theorem runW_snoc (inp : List Int) (wd : Nat) (s : Stp) : ∀ (sts : List Stp) (ws : List Int), runW inp wd (sts ++ [s]) ws = runW inp wd sts ws ++ [stWord s (runW inp wd sts ws) inp wd]
  | [], ws => rfl
  | t :: r, ws => runW_snoc inp wd s r (ws ++ [stWord t ws inp wd])
theorem fit_at {ni : Nat} : ∀ {sts : List Stp} {k i : Nat} {s : Stp}, FitW ni k sts → sts[i]? = some s → s.ok ∧ ∀ o ∈ s.ops, o.fits (k + i) ni
  | [], _, _, _, _, h => by simp at h
  | _ :: _, k, 0, _, ⟨h1, h2, _⟩, h => by
    simp at h
    subst h
    exact ⟨h1, h2⟩
  | _ :: r, k, i + 1, s, ⟨_, _, h3⟩, h => by
    have := fit_at (i := i) h3 (by simpa using h)
    rw [show k + 1 + i = k + (i + 1) by omega] at this
    exact this
theorem rng_snoc {wd : Nat} {l : List Int} {x : Int} (h : rng wd l) (hx : 0 ≤ x ∧ x < 2 ^ wd) : rng wd (l ++ [x]) := fun y hy => (List.mem_append.mp hy).elim (h y) fun z => List.mem_singleton.mp z ▸ hx
def spWS (a : Ad) : Sp := fun vs H Q E => ∃ (x : Addr) (wd m : Nat) (sts : List Stp) (ix : V), vs = [.ref x, ix] ∧ WebAt a H x wd m sts ∧ wd ≤ 12 ∧ PlainV H ix ∧ sts.length ≤ 200 ∧ FitW m 0 sts ∧ ((sqV ix = false ∧ RzI a.c_BadInputs H E (-1) "many") ∨ ∃ p xs, ix = .ref p ∧ SqAt H p xs ∧ xs.length ≤ 100 ∧ (∀ y ∈ xs, PlainV H y) ∧
  (xs.length ≠ m → RzI a.c_BadInputs H E (-1) "many") ∧ (xs.length = m → (∀ (i : Nat) (y : V), xs[i]? = some y → (∀ (j : Nat) (z : V), j < i → xs[j]? = some z → okW wd z = true) → okW wd y = false → RzI a.c_BadInputs H E i "word")) ∧
    (∀ inp : List Int, xs = inp.map V.int → rng wd inp → inp.length = m → ∀ q H', Evl.Ex H H' → H' q = some (.tup ((runW inp wd sts []).map V.int)) → Q (.ref q) H'))
theorem okW_int {wd : Nat} {xs : List V} (h : xs.all (okW wd) = true) : ∃ inp : List Int, xs = inp.map V.int ∧ rng wd inp := by
  induction xs with
  | nil => exact ⟨[], rfl, fun x hx => by simp at hx⟩
  | cons y r ih =>
    rw [List.all_cons, Bool.and_eq_true] at h
    obtain ⟨inp, e, k⟩ := ih h.2
    cases y with
    | int i =>
      have z : (decide ((0 : Int) ≤ i) && decide (i ≤ 2 ^ wd - 1)) = true := h.1
      rw [Bool.and_eq_true, decide_eq_true_eq, decide_eq_true_eq] at z
      refine ⟨i :: inp, by rw [e]; rfl, fun x hx => ?_⟩
      rcases List.mem_cons.mp hx with rfl | g
      · exact ⟨z.1, by omega⟩
      · exact k x g
    | non => cases h.1
    | bl b => cases h.1
    | str b => cases h.1
    | byt b => cases h.1
    | flt b => cases h.1
    | ref b => cases h.1
    | ty b => cases h.1
theorem ints_inj : ∀ {l m : List Int}, l.map V.int = m.map V.int → l = m
  | [], [], _ => rfl
  | [], _ :: _, h => by cases h
  | _ :: _, [], h => by cases h
  | x :: l, y :: m, h => by
    obtain ⟨h1, h2⟩ := List.cons.inj h
    rw [V.int.inj h1, ints_inj h2]
def ivWW (H : Hp) (x p J O : Addr) (inp : List Int) (wd : Nat) (sts : List Stp) : Nat → L2.St → Hp → Prop := fun i σ H' => ∃ v4, σ = [some (.ref x), some (.ref p), some (.ref J), some (.ref O), v4] ∧ Evl.Ex H H' ∧ H' O = some (.lst ((runW inp wd (sts.take i) []).map V.int)) ∧ rng wd (runW inp wd (sts.take i) [])
theorem ok_web_worths (T : Txt K mg a) : FnOk P w K mg base (L2.CX P w) 4 a.f_web_worths a.d_web_worths ["web", "inputs"] (spWS a) := by
  refine T.F_web_worths.okX sc_web_worths (fun vs H Q E h => ?_) (fun cdv A outer s H vs Q E hr h => ?_)
  · obtain ⟨_, _, _, _, _, rfl, _⟩ := h
    rfl
  · obtain ⟨x, wd, m, sts, ix, rfl, ⟨dx, sp, bp, xs, h1, h2, h3, h4, h5⟩, hw, hix, hl, hfit, k⟩ := h
    refine ⟨_, (pss_cons (ps_set (i := 2) sc_web_worths.nd rfl (by first | exact Or.inl rfl | exact Or.inr rfl) (pe_call (ok_check_inputs T) (hr.mono (by decide)) rfl T.m_check_inputs T.F_check_inputs.kp T.b_check_inputs .nil (passes_call (takes_of rfl rfl rfl rfl) (fun _ _ _ _ q => q)) (pa_cons (pv 1) (pa_cons (pe_fld (pv 0) rfl) (pa_cons (pe_fld (pv 0) rfl) pa_nil)))))
  (pss_cons (ps_set (i := 3) sc_web_worths.nd rfl (by first | exact Or.inl rfl | exact Or.inr rfl) (pe_lst pa_nil))
  (pss_cons (ps_for (passes_of rfl) rfl (pi_tup (pe_fld (pv 0) rfl)) (pg_name (i := 4) sc_web_worths.nd rfl (by first | exact Or.inl rfl | exact Or.inr rfl)) (pss_one (ps_expr (pe_bm PySem.F.plainAttrs_list PySem.F.slot_list_append PySem.F.type_list_append mt_append (pv 3) (pa_cons (pe_call (ok_word_over T) (hr.mono (by decide)) rfl T.m_word_over T.F_word_over.kp T.b_word_over .nil pass0 (pa_cons (pv 4) (pa_cons (pv 3) (pa_cons (pv 2) (pa_cons (pe_fld (pv 0) rfl) pa_nil))))) pa_nil)))))
  (pss_one (ps_ret (pe_callTy call_tuple_of (by rfl) T.z_tuple (by decide +kernel) (pa_cons (pv 3) pa_nil))))))), ?_⟩
    walk_at "sm"
    refine ⟨_, _, _, h1, T.ic_Web.cl, T.na_Web_many, _, rfl, _, _, _, h1, T.ic_Web.cl, T.na_Web_width, _, rfl, ix, m, wd, rfl, hw, hix, ?_⟩
    rcases k with ⟨hs, k⟩ | ⟨p, ys, rfl, hp, l100, hpl, k1, k2, k3⟩
    · exact .inl ⟨hs, k⟩
    · refine .inr ⟨p, ys, rfl, hp, l100, hpl, k1, fun e => ⟨k2 e, fun hall J H1 e1 hJ => ?_⟩⟩
      obtain ⟨inp, rfl, hr2⟩ := okW_int hall
      have li : inp.length = m := by rw [List.length_map] at e; exact e
      have lx := paired_len h3
      refine ⟨Nat.zero_le _, fun O hO => ?_⟩
      have eO := Evl.Ex.new (o := .lst []) hO
      have e2 := e1.trans eO
      refine ⟨_, rfl, _, _, _, _, _, rfl, e2 _ _ h1, T.ic_Web.cl, T.na_Web_steps, rfl, sp, rfl, ⟨_, SqT.of (e2 _ _ h2)⟩, for_tup (K := K) (a := sp) (xs := xs) (ivWW H1 x p J O inp wd sts) ⟨none, rfl, eO, upd_same, fun y hy => by cases hy⟩ (fun i σ HX hi ⟨_, _, f, _⟩ => SqT.of (f _ _ (e1 _ _ h2))) ?_ ?_⟩
      · rintro i y σ HX hi ⟨v, rfl, f1, f2, f3⟩
        obtain ⟨s, hs, q, rfl, _, hq⟩ := paired_at h3 hi
        have li2 := (List.getElem?_eq_some_iff.mp hs).1
        obtain ⟨hok, hft⟩ := fit_at hfit hs
        rw [Nat.zero_add] at hft
        have f0 := e1.trans f1
        have lw : (runW inp wd (sts.take i) []).length = i := by
          rw [runW_len, List.length_take]
          show 0 + min i sts.length = i
          omega
        walk_at "sm"
        refine ⟨(show tyV K "list" (.ref O) HX from .inl ⟨rfl, _, SqL.of f2⟩), _, _, _, f0 _ _ h1, T.ic_Web.cl, T.na_Web_width, _, rfl, q, O, J, s, _, inp, wd, rfl, hq.go f0, f2, f1 _ _ hJ, hw, hok, by rw [lw, li]; exact hft, f3, hr2, fun H' e' => ?_⟩
        have st := st_rng hok (by rw [lw, li]; exact hft) f3 hr2
        have tk1 : sts.take (i + 1) = sts.take i ++ [s] := by rw [List.take_add_one, hs]; rfl
        refine ⟨O, _, _, rfl, rfl, e' _ _ f2, Nat.lt_of_le_of_lt (show _ ≤ 200 by rw [List.length_map, lw]; omega) (by decide), _, rfl, Evl.Ex.mut (f1.trans e') hO, ?_, ?_⟩
        · rw [upd_same, tk1, runW_snoc, List.map_append]
          rfl
        · rw [tk1, runW_snoc]
          exact rng_snoc f3 st
      · rintro σ HX ⟨v, rfl, f1, f2, f3⟩
        walk_at "sm"
        rw [lx, List.take_length] at f2
        exact ⟨_, .inl ⟨SqL.of f2, fun l hl => k3 inp rfl hr2 li l _ ((e1.trans f1).trans (Evl.Ex.new hl)) upd_same⟩⟩
def spWW1 (a : Ad) : Sp := fun vs H Q E => ∃ (x : Addr) (wd m : Nat) (sts : List Stp) (ix : V), vs = [.ref x, ix] ∧ WebAt a H x wd m sts ∧ wd ≤ 12 ∧ PlainV H ix ∧ 1 ≤ sts.length ∧ sts.length ≤ 200 ∧ FitW m 0 sts ∧ ∃ p inp, ix = .ref p ∧ SqAt H p (inp.map V.int) ∧ rng wd inp ∧ inp.length = m ∧ m ≤ 100 ∧
  ∀ H', Evl.Ex H H' → Q (.int (((runW inp wd sts [])[sts.length - 1]?).getD 0)) H'
theorem ok_web_worth (T : Txt K mg a) : FnOk P w K mg base (L2.CX P w) 5 a.f_web_worth a.d_web_worth ["web", "inputs"] (spWW1 a) := by
  refine T.F_web_worth.okX sc_web_worth (fun vs H Q E h => ?_) (fun cdv A outer s H vs Q E hr h => ?_)
  · obtain ⟨_, _, _, _, _, rfl, _⟩ := h
    rfl
  · obtain ⟨x, wd, m, sts, ix, rfl, hW, hw, hix, l1, hl, hfit, p, inp, rfl, hp, hr2, li, lm, k⟩ := h
    refine ⟨_, (pss_one (ps_ret (pe_ix ix_tup (pe_call (ok_web_worths T) (hr.mono (by decide)) rfl T.m_web_worths T.F_web_worths.kp T.b_web_worths .nil (passes_call (takes_of rfl rfl rfl rfl) (fun _ _ _ _ q => q)) (pa_cons (pv 0) (pa_cons (pv 1) pa_nil))) (pe_un un_neg pe_int) (fun _ _ => rfl)))), ?_⟩
    walk_at "sm"
    have pl : ∀ y ∈ inp.map V.int, PlainV H y := ints_plain inp
    refine ⟨x, wd, m, sts, .ref p, rfl, hW, hw, hix, hl, hfit, .inr ⟨p, _, rfl, hp, by rw [List.length_map]; omega, pl, fun ne => absurd (by rw [List.length_map]; exact li) ne, fun _ i y hy hj hb => ?_, fun inp2 e2 hr3 l3 q H' e hq => ?_⟩⟩
    · obtain ⟨z, hz, rfl⟩ := int_at hy
      have := hr2 z (List.mem_of_getElem? hz)
      exact absurd hb (by
        show ¬ (decide ((0 : Int) ≤ z) && decide (z ≤ 2 ^ wd - 1)) = false
        rw [decide_eq_true this.1, decide_eq_true (show z ≤ 2 ^ wd - 1 by omega)]
        decide)
    · obtain rfl : inp = inp2 := ints_inj e2
      have lr : (runW inp wd sts []).length = sts.length := by rw [runW_len]; show 0 + _ = _; omega
      rcases List.eq_nil_or_concat (runW inp wd sts []) with e0 | ⟨r, z, e0⟩
      · rw [e0] at lr
        have : sts.length = 0 := lr.symm
        omega
      · rw [List.concat_eq_append] at e0
        have k2 := k H' e
        rw [e0] at hq k2 lr
        rw [List.map_append] at hq
        have l3 : sts.length - 1 = r.length := by rw [← lr, List.length_append]; show r.length + 1 - 1 = _; omega
        rw [l3] at k2
        refine ixt hq (at_last _ _) ?_
        simpa using k2
end


/-! ### the law's small draws -/
theorem hand_lst {H : Hp} {p c : Addr} (h : HandAt H p c) : ∃ xs, H p = some (.lst xs) := by
  obtain ⟨cells, i, g, t, hp, _⟩ := h
  exact ⟨_, hp⟩
theorem Fr.mut2 {p q : Addr} {H H' : Hp} {o : HO} (f : Fr p H H') (hq : H' q = none) (n : q ≠ p) : Fr p H (L2.upd H' q o) := fun b u nb h => by
  have h2 := f b u nb h
  rw [upd_ne (fun z => by rw [z, hq] at h2; cases h2)]
  exact h2
section
variable {P : Program} {w : World} {K : PySem.W.Frag} {mg : Str → Option Value} {base : Heap} {a : Ad}
def spLO : Sp := fun vs H Q _ => ∃ (p c : Addr) (pl m : Nat), vs = [.ref p, .int pl, .int m] ∧ HandAt H p c ∧ pl ≤ 200 ∧ m ≤ 6 ∧ ∀ r (o : Opd) H', Fr p H H' → HandAt H' p c → OpAt H' r o → o.ok → o.fits pl m → Q (.ref r) H'
theorem ok_law_operand (T : Txt K mg a) : FnOk P w K mg base CX0 3 a.f_law_operand a.d_law_operand ["_law_hand_here", "_law_place", "_law_many"] spLO := by
  refine T.F_law_operand.ok sc_law_operand (fun vs H Q E h => ?_) (fun cdv A outer s H vs Q E hr h => ?_)
  · obtain ⟨_, _, _, _, rfl, _⟩ := h
    rfl
  · obtain ⟨p, c, pl, m, rfl, hh, hp, hm, k⟩ := h
    refine ⟨_, (pss_cons (ps_set (i := 3) sc_law_operand.nd rfl (by first | exact Or.inl rfl | exact Or.inr rfl) (pe_call (ok_law_take T) (hr.mono (by decide)) rfl T.m_law_take T.F_law_take.kp T.b_law_take .nil pass0 (pa_cons (pv 0) (pa_cons pe_int pa_nil))))
  (pss_cons (ps_if (PW.pt (pw_and (pt_cmpR op_gt (pv 1) pe_int (nomark _)) (pw_and1 (pt_cmpR op_lt (pv 3) pe_int (nomark _))))) (pss_one (ps_ret (pe_tup (pa_cons pe_str (pa_cons (pe_call (ok_law_take T) (hr.mono (by decide)) rfl T.m_law_take T.F_law_take.kp T.b_law_take .nil pass0 (pa_cons (pv 0) (pa_cons (pv 1) pa_nil))) pa_nil)))))
    pss_nil)
  (pss_cons (ps_if (PW.pt (pw_and (pt_cmpR op_gt (pv 2) pe_int (nomark _)) (pw_and1 (pt_cmpR op_lt (pv 3) pe_int (nomark _))))) (pss_one (ps_ret (pe_tup (pa_cons pe_str (pa_cons (pe_call (ok_law_take T) (hr.mono (by decide)) rfl T.m_law_take T.F_law_take.kp T.b_law_take .nil pass0 (pa_cons (pv 0) (pa_cons (pv 2) pa_nil))) pa_nil)))))
    pss_nil)
  (pss_one (ps_ret (pe_tup (pa_cons pe_str (pa_cons (pe_ifExp (pt_cmpR op_eq (pe_call (ok_law_take T) (hr.mono (by decide)) rfl T.m_law_take T.F_law_take.kp T.b_law_take .nil pass0 (pa_cons (pv 0) (pa_cons pe_int pa_nil))) pe_int (nomark _)) (pe_call (ok_law_take T) (hr.mono (by decide)) rfl T.m_law_take T.F_law_take.kp T.b_law_take .nil pass0 (pa_cons (pv 0) (pa_cons pe_int pa_nil))) (pe_call (ok_law_take T) (hr.mono (by decide)) rfl T.m_law_take T.F_law_take.kp T.b_law_take .nil pass0 (pa_cons (pv 0) (pa_cons pe_int pa_nil)))) pa_nil)))))))), ?_⟩
    walk_at "sm"
    refine tk hh (by decide) (by decide) fun r0 H1 r1 r2 f1 h1 => ?_
    have fin : ∀ (o : Opd) (r : Int) (HX : Hp) (q : Addr), r = (o.n : Int) → HX q = none → Fr p H HX → HandAt HX p c → o.ok → o.fits pl m → Q (.ref q) (upd HX q (.tup [.str o.sg, .int r])) := by
      rintro o r HX q rfl hq f h ok ft
      obtain ⟨ys, hy⟩ := hand_lst h
      refine k q o _ (f.mut2 hq (fun z => by rw [z, hy] at hq; cases hq)) (h.upd (h.lt hq) (h.lc hq)) upd_same ok ft
    have nu : ∀ (r : Int) (HX : Hp) (q : Addr), 0 ≤ r → r < 4096 → HX q = none → Fr p H HX → HandAt HX p c → Q (.ref q) (upd HX q (.tup [.str "number", .int r])) := fun r HX q a1 a2 hq f h =>
      fin (.nu r.toNat) r HX q (by show r = ((r.toNat : Nat) : Int); omega) hq f h (by show r.toNat ≤ 4095; omega) trivial
    walk_at "sm"
    refine ite2 (fun hp0 => ite2 (fun _ => ?pl) fun _ => ite2 (fun hm0 => ite2 (fun _ => ?gi) fun _ => ?nu1) fun _ => ?nu2) fun _ => ite2 (fun hm0 => ite2 (fun _ => ?gi2) fun _ => ?nu3) fun _ => ?nu4
    case pl => exact tk h1 (by omega) (by omega) fun r H2 a1 a2 f2 h2 => ⟨sz (by decide), fun q hq => fin (.pl r.toNat) r H2 q (by show r = ((r.toNat : Nat) : Int); omega) hq (f1.trans f2) h2 (by show r.toNat ≤ 199; omega) (by show r.toNat < pl; omega)⟩
    case gi => exact tk h1 (by omega) (by omega) fun r H2 a1 a2 f2 h2 => ⟨sz (by decide), fun q hq => fin (.gi r.toNat) r H2 q (by show r = ((r.toNat : Nat) : Int); omega) hq (f1.trans f2) h2 (by show r.toNat ≤ 5; omega) (by show r.toNat < m; omega)⟩
    case gi2 => exact tk h1 (by omega) (by omega) fun r H2 a1 a2 f2 h2 => ⟨sz (by decide), fun q hq => fin (.gi r.toNat) r H2 q (by show r = ((r.toNat : Nat) : Int); omega) hq (f1.trans f2) h2 (by show r.toNat ≤ 5; omega) (by show r.toNat < m; omega)⟩
    all_goals exact tk h1 (by decide) (by decide) fun r3 H2 a1 a2 f2 h2 => ⟨rfl, ite2 (fun _ => tk h2 (by decide) (by decide) fun r H3 b1 b2 f3 h3 => ⟨sz (by decide), fun q hq => nu r H3 q b1 (by omega) hq ((f1.trans f2).trans f3) h3⟩) fun _ => tk h2 (by decide) (by decide) fun r H3 b1 b2 f3 h3 => ⟨sz (by decide), fun q hq => nu r H3 q b1 (by omega) hq ((f1.trans f2).trans f3) h3⟩⟩
def spPk : Sp := fun vs H Q _ => ∃ (p c l : Addr) (xs : List V), vs = [.ref p, .ref l] ∧ HandAt H p c ∧ H l = some (.lst xs) ∧ 1 ≤ xs.length ∧ xs.length ≤ 1000 ∧ l ≠ p ∧ ∀ x H', x ∈ xs → Fr p H H' → HandAt H' p c → Q x H'
theorem ok_law_pick (T : Txt K mg a) : FnOk P w K mg base CX0 3 a.f_law_pick a.d_law_pick ["_law_hand_here", "_law_menu"] spPk := by
  refine T.F_law_pick.ok sc_law_pick (fun vs H Q E h => ?_) (fun cdv A outer s H vs Q E hr h => ?_)
  · obtain ⟨_, _, _, _, rfl, _⟩ := h
    rfl
  · obtain ⟨p, c, l, xs, rfl, hh, hl, l1, l2, ne, k⟩ := h
    refine ⟨_, (pss_one (ps_ret (pe_ix ix_list (pv 1) (pe_call (ok_law_take T) (hr.mono (by decide)) rfl T.m_law_take T.F_law_take.kp T.b_law_take .nil pass0 (pa_cons (pv 0) (pa_cons (pe_callB call_len_seq (by rfl) T.z_len (by decide +kernel) (pa_cons (pv 1) pa_nil)) pa_nil))) (fun _ _ => rfl)))), ?_⟩
    walk_at "sm"
    refine ⟨xs, .inl (SqL.of hl), tk hh (by omega) (by omega) fun r H1 a1 a2 f1 h1 => ?_⟩
    have hl1 := f1 _ _ ne hl
    obtain ⟨j, rfl⟩ : ∃ j : Nat, r = (j : Int) := ⟨r.toNat, by omega⟩
    have lt : j < xs.length := by omega
    exact ixl (SqL.of hl1) (atI_nat (List.getElem?_eq_getElem lt)) (k _ _ (List.getElem_mem lt) f1 h1)
def spEi : Sp := fun vs H Q _ => ∃ (p c t : Addr) (xs : List V), vs = [.ref p, .ref t] ∧ HandAt H p c ∧ SqAt H t xs ∧ t ≠ p ∧ xs.length ≤ 1000 ∧ ∀ q H', Fr p H H' → HandAt H' p c → SqAt H' q xs → q ≠ p → Q (.ref q) H'
theorem ok_law_either (T : Txt K mg a) : FnOk P w K mg base CX0 3 a.f_law_either a.d_law_either ["_law_hand_here", "_law_things"] spEi := by
  refine T.F_law_either.ok sc_law_either (fun vs H Q E h => ?_) (fun cdv A outer s H vs Q E hr h => ?_)
  · obtain ⟨_, _, _, _, rfl, _⟩ := h
    rfl
  · obtain ⟨p, c, t, xs, rfl, hh, ht, ne, hl, k⟩ := h
    refine ⟨_, (pss_one (ps_ret (pe_ifExp (pt_cmpR op_eq (pe_call (ok_law_take T) (hr.mono (by decide)) rfl T.m_law_take T.F_law_take.kp T.b_law_take .nil pass0 (pa_cons (pv 0) (pa_cons pe_int pa_nil))) pe_int (nomark _)) (pe_callTy call_list_of (by rfl) T.z_list (by decide +kernel) (pa_cons (pv 1) pa_nil)) (pe_callTy call_tuple_of (by rfl) T.z_tuple (by decide +kernel) (pa_cons (pv 1) pa_nil))))), ?_⟩
    walk_at "sm"
    refine tk hh (by decide) (by decide) fun r0 H1 r1 r2 f1 h1 => ?_
    walk_at "sm"
    have ht1 : SqAt H1 t xs := ht.imp (f1 _ _ ne) (f1 _ _ ne)
    have new : ∀ (o : HO) (q : Addr), H1 q = none → Fr p H (upd H1 q o) ∧ HandAt (upd H1 q o) p c ∧ q ≠ p := fun o q hq => by
      obtain ⟨ys, hy⟩ := hand_lst h1
      have n : q ≠ p := fun z => by rw [z, hy] at hq; cases hq
      exact ⟨f1.mut2 hq n, h1.upd (h1.lt hq) (h1.lc hq), n⟩
    refine ite2 (fun _ => ⟨xs, ht1.sq, fun l hl => ?_⟩) fun _ => ?_
    · obtain ⟨g1, g2, g3⟩ := new (.lst xs) l hl
      exact k l _ g1 g2 (.inr upd_same) g3
    · rcases ht1 with g | g
      · exact ⟨xs, .inr ⟨SqT.of g, k t _ f1 h1 (.inl g) ne⟩⟩
      · refine ⟨xs, .inl ⟨SqL.of g, fun l hl => ?_⟩⟩
        obtain ⟨g1, g2, g3⟩ := new (.tup xs) l hl
        exact k l _ g1 g2 (.inl upd_same) g3
end


/-! ### what the law finds under a place -/
def rowL (H : Hp) (x : V) (b : List Nat) : Prop := ∃ q, x = .ref q ∧ H q = some (.lst ((nI b).map V.int))
def ArrL (H : Hp) (p : Addr) (bs : List (List Nat)) : Prop := ∃ xs, H p = some (.lst xs) ∧ Paired (rowL H) xs bs
theorem ArrL.go {H H' : Hp} {p : Addr} {bs : List (List Nat)} (e : Evl.Ex H H') (h : ArrL H p bs) : ArrL H' p bs := by
  obtain ⟨xs, h1, h2⟩ := h
  exact ⟨xs, e _ _ h1, Paired.mapP h2 fun _ _ ⟨q, z1, z2⟩ => ⟨q, z1, e _ _ z2⟩⟩
def cnF (F : Nat → Bool) (n : Nat) : Nat := ((List.range n).filter F).length
theorem cnF_le (F : Nat → Bool) (n : Nat) : cnF F n ≤ n := Nat.le_trans (List.length_filter_le _ _) (Nat.le_of_eq (List.length_range ..))
theorem cnF_add {F : Nat → Bool} {q n : Nat} (h : F q = false) (hq : q < n) : cnF (fun p => F p || decide (p = q)) n = cnF F n + 1 := by
  unfold cnF
  have go : ∀ l : List Nat, l.Nodup → (l.filter fun p => F p || decide (p = q)).length = (l.filter F).length + if q ∈ l then 1 else 0 := by
    intro l
    induction l with
    | nil => intro _; simp
    | cons p l ih =>
      intro nd
      obtain ⟨n1, n2⟩ := List.nodup_cons.mp nd
      have ih := ih n2
      rw [List.filter_cons, List.filter_cons]
      by_cases e : p = q
      · subst e
        rw [if_neg n1] at ih
        rw [if_pos (by simp), if_neg (by rw [h]; decide), if_pos List.mem_cons_self, List.length_cons, ih]
      · have em : (q ∈ p :: l) ↔ q ∈ l := by rw [List.mem_cons]; exact ⟨fun z => z.resolve_left fun y => e y.symm, .inr⟩
        have ee : (F p || decide (p = q)) = F p := by rw [decide_eq_false e, Bool.or_false]
        rw [ee]
        by_cases m : q ∈ l
        · rw [if_pos m] at ih
          rw [if_pos (em.mpr m)]
          split
          · rw [List.length_cons, List.length_cons, ih]
          · exact ih
        · rw [if_neg m] at ih
          rw [if_neg fun z => m (em.mp z)]
          split
          · rw [List.length_cons, List.length_cons, ih]
          · exact ih
  rw [go _ ((range_lt n).imp fun z => Nat.ne_of_lt z), if_pos (List.mem_range.mpr hq)]
/-- k places have been taken off -/
structure UI (bs : List (List Nat)) (s k : Nat) (F : Nat → Bool) (ws : List Nat) : Prop where
  low : ∀ q, F q = true → q < bs.length
  sound : ∀ q, F q = true → Rc bs 0 s q
  src : ∀ q ∈ ws, q < bs.length ∧ (q = s ∨ F q = true)
  clos : ∀ p, (p = s ∨ F p = true) → p ∉ ws → ∀ q ∈ row bs p, F q = true
  cnt : k + ws.length = 1 + cnF F bs.length
/-- a place is off, of its row the first j are told -/
structure UJ (bs : List (List Nat)) (s k at_ j : Nat) (F : Nat → Bool) (ws : List Nat) : Prop where
  low : ∀ q, F q = true → q < bs.length
  sound : ∀ q, F q = true → Rc bs 0 s q
  src : ∀ q ∈ ws, q < bs.length ∧ (q = s ∨ F q = true)
  here : at_ < bs.length ∧ (at_ = s ∨ F at_ = true)
  clos : ∀ p, (p = s ∨ F p = true) → p ∉ ws → p ≠ at_ → ∀ q ∈ row bs p, F q = true
  told : ∀ q ∈ (row bs at_).take j, F q = true
  cnt : k + 1 + ws.length = 1 + cnF F bs.length
theorem UI.start {bs : List (List Nat)} {s : Nat} (h : s < bs.length) : UI bs s 0 (fun _ => false) [s] := by
  have c0 : cnF (fun _ => false) bs.length = 0 := by
    unfold cnF
    rw [List.length_eq_zero_iff, List.filter_eq_nil_iff]
    intro x _
    decide
  refine ⟨fun q z => absurd z (by decide), fun q z => absurd z (by decide), fun q z => ?_, fun p hp hn => ?_, ?_⟩
  · rw [List.mem_singleton.mp z]
    exact ⟨h, .inl rfl⟩
  · rcases hp with rfl | z
    · exact absurd List.mem_cons_self hn
    · cases z
  · rw [c0]
    rfl
theorem UI.pop {bs : List (List Nat)} {s k q : Nat} {F : Nat → Bool} {ws : List Nat} (h : UI bs s k F (ws ++ [q])) : UJ bs s k q 0 F ws := by
  refine ⟨h.low, h.sound, fun p hp => h.src p (List.mem_append_left _ hp), h.src q (by simp), fun p hp hn he => h.clos p hp fun z => ?_, fun p hp => by simp at hp, ?_⟩
  · rcases List.mem_append.mp z with z | z
    · exact hn z
    · exact he (List.mem_singleton.mp z)
  · have := h.cnt
    rw [List.length_append] at this
    have : [q].length = 1 := rfl
    omega
theorem UJ.skip {bs : List (List Nat)} {s k at_ j b : Nat} {F : Nat → Bool} {ws : List Nat} (h : UJ bs s k at_ j F ws) (hb : (row bs at_)[j]? = some b) (hF : F b = true) : UJ bs s k at_ (j + 1) F ws :=
  ⟨h.low, h.sound, h.src, h.here, h.clos, fun q hq => ((take_mem hb).mp hq).elim (h.told q) fun z => z ▸ hF, h.cnt⟩
theorem UJ.add {bs : List (List Nat)} {s k at_ j b : Nat} {F : Nat → Bool} {ws : List Nat} (ok : ∀ p, ∀ q ∈ row bs p, q < bs.length) (h : UJ bs s k at_ j F ws) (hb : (row bs at_)[j]? = some b) (hF : F b = false) : UJ bs s k at_ (j + 1) (fun p => F p || decide (p = b)) (ws ++ [b]) := by
  have hm := List.mem_of_getElem? hb
  have bl := ok at_ b hm
  obtain ⟨c, hc, hbc⟩ := row_mem hm
  have rb : Rc bs 0 s b := by
    rcases h.here.2 with e | e
    · rw [e] at hc
      exact .one hc hbc (Nat.zero_testBit _)
    · exact .more (h.sound _ e) hc hbc (Nat.zero_testBit _)
  have iff : ∀ p, (F p || decide (p = b)) = true ↔ F p = true ∨ p = b := fun p => by rw [Bool.or_eq_true, decide_eq_true_eq]
  refine ⟨fun q z => ((iff q).mp z).elim (h.low q) fun e => e ▸ bl, fun q z => ((iff q).mp z).elim (h.sound q) fun e => e ▸ rb, fun q z => ?_, ⟨h.here.1, h.here.2.imp id fun e => (iff _).mpr (.inl e)⟩, fun p hp hn he q hq => ?_, fun q hq => ?_, ?_⟩
  · rcases List.mem_append.mp z with z | z
    · exact ⟨(h.src q z).1, (h.src q z).2.imp id fun e => (iff q).mpr (.inl e)⟩
    · rw [List.mem_singleton.mp z]
      exact ⟨bl, .inr ((iff b).mpr (.inr rfl))⟩
  · have pb : p ≠ b := fun e => hn (by rw [e]; simp)
    exact (iff q).mpr (.inl (h.clos p (hp.imp id fun e => ((iff p).mp e).resolve_right pb) (fun z => hn (List.mem_append_left _ z)) he q hq))
  · exact (iff q).mpr (((take_mem hb).mp hq).imp (h.told q) id)
  · rw [cnF_add hF bl, List.length_append]
    have := h.cnt
    have : [b].length = 1 := rfl
    omega
theorem UJ.done {bs : List (List Nat)} {s k at_ : Nat} {F : Nat → Bool} {ws : List Nat} (h : UJ bs s k at_ (row bs at_).length F ws) : UI bs s (k + 1) F ws := by
  refine ⟨h.low, h.sound, h.src, fun p hp hn q hq => ?_, h.cnt⟩
  by_cases e : p = at_
  · subst e
    exact h.told q (by rw [List.take_length]; exact hq)
  · exact h.clos p hp hn e q hq
theorem UI.full {bs : List (List Nat)} {s k : Nat} {F : Nat → Bool} (h : UI bs s k F []) (q : Nat) : F q = true ↔ Rc bs 0 s q := by
  refine ⟨h.sound q, fun g => ?_⟩
  induction g with
  | one h1 h2 _ => exact h.clos _ (.inl rfl) (by simp) _ (by rw [row_of h1]; exact h2)
  | more _ h1 h2 _ ih => exact h.clos _ (.inr ih) (by simp) _ (by rw [row_of h1]; exact h2)
theorem UI.last {bs : List (List Nat)} {s : Nat} {F : Nat → Bool} {ws : List Nat} (h : UI bs s (bs.length + 1) F ws) : ws = [] := by
  have h1 := h.cnt
  have h2 := cnF_le F bs.length
  exact List.length_eq_zero_iff.mp (by omega)
def bL (F : Nat → Bool) (n : Nat) : List V := (List.range n).map fun p => V.bl (F p)
theorem bL_len (F : Nat → Bool) (n : Nat) : (bL F n).length = n := by unfold bL; rw [List.length_map, List.length_range]
theorem bL_at {F : Nat → Bool} {n k : Nat} (h : k < n) : (bL F n)[k]? = some (.bl (F k)) := by
  unfold bL
  rw [List.getElem?_map, List.getElem?_range h]
  rfl
theorem bL_set {F G : Nat → Bool} {n k : Nat} {v : Bool} (h : k < n) (e : ∀ p, G p = if p = k then v else F p) : (bL F n).set k (.bl v) = bL G n := by
  refine List.ext_getElem? fun i => ?_
  rw [List.getElem?_set]
  by_cases hi : i < n
  · rw [bL_at hi, bL_at hi, bL_len]
    by_cases ki : k = i
    · subst ki
      rw [if_pos rfl, if_pos h, e, if_pos rfl]
    · rw [if_neg ki, e, if_neg fun z => ki z.symm]
  · rw [if_neg (by omega), List.getElem?_eq_none (by rw [bL_len]; omega), List.getElem?_eq_none (by rw [bL_len]; omega)]
section
variable {P : Program} {w : World} {K : PySem.W.Frag} {mg : Str → Option Value} {base : Heap} {a : Ad}
def spUn : Sp := fun vs H Q _ => ∃ (l : Addr) (s : Nat) (bs : List (List Nat)), vs = [.ref l, .int s] ∧ ArrL H l bs ∧ (∀ p, ∀ q ∈ row bs p, q < bs.length) ∧ s < bs.length ∧ bs.length ≤ 300 ∧ ∀ r ns H', Evl.Ex H H' → ns.Pairwise (· < ·) → (∀ q, q ∈ ns ↔ Rc bs 0 s q) → H' r = some (.lst ((nI ns).map V.int)) → Q (.ref r) H'
def mdUn (H : Hp) (l Fa : Addr) (s : Nat) (bs : List (List Nat)) : L2.St → Hp → Prop := fun σ H' => ∃ (v3 v4 v5 v6 : Option V) (F : Nat → Bool), σ = [some (.ref l), some (.int s), some (.ref Fa), v3, v4, v5, v6] ∧ Evl.Ex H H' ∧ H' Fa = some (.lst (bL F bs.length)) ∧ ∀ q, F q = true ↔ Rc bs 0 s q
def ivUn (H : Hp) (l Fa Td : Addr) (s : Nat) (bs : List (List Nat)) : Nat → L2.St → Hp → Prop := fun k σ H' => ∃ (v4 v5 v6 : Option V) (F : Nat → Bool) (ws : List Nat), σ = [some (.ref l), some (.int s), some (.ref Fa), some (.ref Td), v4, v5, v6] ∧ Evl.Ex H H' ∧ H' Fa = some (.lst (bL F bs.length)) ∧ H' Td = some (.lst ((nI ws).map V.int)) ∧ UI bs s k F ws
def ivUm (H : Hp) (l Fa Td : Addr) (s : Nat) (bs : List (List Nat)) (k at_ : Nat) : Nat → L2.St → Hp → Prop := fun j σ H' => ∃ (v4 v5 v6 : Option V) (F : Nat → Bool) (ws : List Nat), σ = [some (.ref l), some (.int s), some (.ref Fa), some (.ref Td), v4, v5, v6] ∧ Evl.Ex H H' ∧ H' Fa = some (.lst (bL F bs.length)) ∧ H' Td = some (.lst ((nI ws).map V.int)) ∧ UJ bs s k at_ j F ws
def ivUc (H : Hp) (F : Nat → Bool) (D : Addr) (i : Nat) (H' : Hp) : Prop := Evl.Ex H H' ∧ H' D = some (.lst ((nI ((List.range i).filter F)).map V.int))
theorem bL_rep (n : Nat) : bL (fun _ => false) n = List.replicate n (V.bl false) := by
  unfold bL
  rw [List.map_const', List.length_range]
theorem ok_law_under (T : Txt K mg a) : FnOk P w K mg base CX0 1 a.f_law_under a.d_law_under ["_law_befores", "_law_place"] spUn := by
  refine T.F_law_under.ok sc_law_under (fun vs H Q E h => ?_) (fun cdv A outer s H vs Q E hr h => ?_)
  · obtain ⟨_, _, _, rfl, _⟩ := h
    rfl
  · obtain ⟨l, st, bs, rfl, ⟨xs, hl, hx⟩, ok, hs, hn, k⟩ := h
    have lx := paired_len hx
    refine ⟨_, (pss_cons (ps_set (i := 2) sc_law_under.nd rfl (by first | exact Or.inl rfl | exact Or.inr rfl) (pe_op op_rep (pe_lst (pa_cons pe_bl pa_nil)) (pe_callB call_len_seq (by rfl) T.z_len (by decide +kernel) (pa_cons (pv 0) pa_nil))))
  (pss_cons (ps_set (i := 3) sc_law_under.nd rfl (by first | exact Or.inl rfl | exact Or.inr rfl) (pe_lst (pa_cons (pv 1) pa_nil)))
  (Evl.pss_cut (ps_for PassesOwn.never rfl (pi_range1 (by rfl) T.z_range (pa_cons (pe_op op_add (pe_callB call_len_seq (by rfl) T.z_len (by decide +kernel) (pa_cons (pv 0) pa_nil)) pe_int) pa_nil)) (pg_name (i := 4) sc_law_under.nd rfl (by first | exact Or.inl rfl | exact Or.inr rfl)) (pss_cons (ps_if (pt_cmpR op_eq (pe_callB call_len_seq (by rfl) T.z_len (by decide +kernel) (pa_cons (pv 3) pa_nil)) pe_int (nomark _)) (pss_one ps_break)
    pss_nil)
  (pss_cons (ps_set (i := 5) sc_law_under.nd rfl (by first | exact Or.inl rfl | exact Or.inr rfl) (pe_bm0 PySem.F.plainAttrs_list PySem.F.slot_list_pop PySem.F.type_list_pop mt_pop (pv 3)))
  (pss_one (ps_for PassesOwn.never rfl (pi_list (pe_ix ix_list (pv 0) (pv 5) (fun _ _ => rfl))) (pg_name (i := 6) sc_law_under.nd rfl (by first | exact Or.inl rfl | exact Or.inr rfl)) (pss_one (ps_if (pt_not (pt_val (pe_ix ix_list (pv 2) (pv 6) (fun _ _ => rfl)))) (pss_cons (ps_asg pe_bl (pg_sub (pv 2) (pv 6) set_list (by intro _; rfl)))
  (pss_one (ps_expr (pe_bm PySem.F.plainAttrs_list PySem.F.slot_list_append PySem.F.type_list_append mt_append (pv 3) (pa_cons (pv 6) pa_nil)))))
    pss_nil)))))))
  (pss_one (ps_ret (pe_lc (own := [("_law_k", 4)]) (g := gName 4)  rfl sc_law_under.nd (pi_range1 (by rfl) T.z_range (pa_cons (pe_callB call_len_seq (by rfl) T.z_len (by decide +kernel) (pa_cons (pv 0) pa_nil)) pa_nil)) (blkOk_by (own := [("_law_k", 4)]) (N := ["_law_befores", "_law_place", "_law_found", "_law_todo", "_law_k", "_law_at", "_law_before"]) (sc := defScope s_law_under) (by decide +kernel)) (fun _ _ _ _ _ => pg_name (i := 4) sc_law_under.nd rfl (Or.inl rfl)) (fun _ _ _ _ _ => (pts_one (pt_val (pe_ix ix_list_b (pv 2) (pv 4) (fun _ _ => rfl))))) (fun _ _ _ _ _ => (pv 4)))))))), ?_⟩
    walk_at "sm"
    refine ⟨sz (by decide), fun f0 hf0 => ?_⟩
    have e0 := Evl.Ex.new (o := .lst [V.bl false]) hf0
    have hl0 := e0 _ _ hl
    have hff : upd H f0 (.lst [V.bl false]) f0 = some (.lst [V.bl false]) := upd_same
    generalize upd H f0 (.lst [V.bl false]) = H0 at e0 hl0 hff ⊢
    refine ⟨xs, .inl (SqL.of hl0), f0, _, _, rfl, rfl, hff, by omega, by omega, sz (by rw [Int.toNat_natCast]; show 1 * xs.length ≤ 100000; omega), fun Fa hFa => ⟨sz (by decide), fun Td hTd => ?_⟩⟩
    have ef : (List.replicate ((xs.length : Nat) : Int).toNat [V.bl false]).flatten = bL (fun _ => false) bs.length := by
      rw [Int.toNat_natCast, lx, bL_rep, List.flatten_replicate_singleton]
    rw [ef] at hTd ⊢
    have e1 := e0.trans (Evl.Ex.new (o := .lst (bL (fun _ => false) bs.length)) hFa)
    have hF1 : upd H0 Fa (.lst (bL (fun _ => false) bs.length)) Fa = some (.lst (bL (fun _ => false) bs.length)) := upd_same
    generalize upd H0 Fa (.lst (bL (fun _ => false) bs.length)) = H1 at hTd e1 hF1 ⊢
    have eT := Evl.Ex.new (o := .lst [V.int (st : Nat)]) hTd
    have hFn : H Fa = none := Evl.fresh_back e0 hFa
    have hTn : H Td = none := Evl.fresh_back e1 hTd
    have nFT : Fa ≠ Td := fun z => by rw [← z, hF1] at hTd; cases hTd
    refine ⟨mdUn H l Fa st bs, ?_, ?_⟩
    · have hl2 := (e1.trans eT) _ _ hl
      refine ⟨_, rfl, l, rfl, xs, .inl (SqL.of hl2), _, _, rfl, rfl, _, rfl, by omega, by omega, for_range (lo := 0) (n := (((xs.length : Nat) : Int) + 1).toNat) (ivUn H l Fa Td st bs) ⟨none, none, none, _, [st], rfl, e1.trans eT, eT _ _ hF1, upd_same, UI.start hs⟩ ?_ ?_⟩
      · rintro k σ HX hk ⟨v4, v5, v6, F, ws, rfl, g1, g2, g3, ui⟩
        walk_at "sm"
        rcases List.eq_nil_or_concat ws with rfl | ⟨ws, q, rfl⟩
        · exact ⟨_, .inl (SqL.of g3), iteP rfl ⟨_, _, _, _, F, rfl, g1, g2, ui.full⟩⟩
        · rw [List.concat_eq_append] at g3 ui
          rw [nI_snoc] at g3
          refine ⟨_, .inl (SqL.of g3), iteN (by rw [List.length_append]; simp; omega) ⟨(show tyV K "list" (.ref Td) HX from .inl ⟨rfl, _, SqL.of g3⟩), Td, _, .int q, rfl, rfl, g3, by simp, ?_⟩⟩
          rw [List.dropLast_concat]
          have uj := ui.pop
          have g1' := Evl.Ex.mut (o := .lst ((nI ws).map V.int)) g1 hTn
          have g2' : upd HX Td (.lst ((nI ws).map V.int)) Fa = some (.lst (bL F bs.length)) := by rw [upd_ne nFT]; exact g2
          have g3' : upd HX Td (.lst ((nI ws).map V.int)) Td = some (.lst ((nI ws).map V.int)) := upd_same
          generalize upd HX Td (.lst ((nI ws).map V.int)) = H2 at g1' g2' g3' ⊢
          obtain ⟨b, hb⟩ : ∃ b, bs[q]? = some b := ⟨_, List.getElem?_eq_getElem uj.here.1⟩
          obtain ⟨x, hx1, c, rfl, hc⟩ := paired_of hx hb
          have hrow := row_of hb
          refine ⟨_, rfl, _, rfl, ixl (SqL.of (g1' _ _ hl)) (atI_nat hx1) ⟨c, rfl, ⟨_, SqL.of (g1' _ _ hc)⟩, for_list (K := K) (a := c) (xs := (nI b).map V.int) (ivUm H l Fa Td st bs k q) ⟨_, _, _, F, ws, rfl, g1', g2', g3', uj⟩ (fun j σ HY hj ⟨_, _, _, _, _, _, f, _⟩ => SqL.of (f _ _ hc)) ?_ ?_⟩⟩
          · rintro j x σ HY hj ⟨v4, v5, v6, F, ws, rfl, f1, f2, f3, uj⟩
            obtain ⟨d, hd, rfl⟩ := nat_at hj
            have hd2 : (row bs q)[j]? = some d := by rw [hrow]; exact hd
            have dl : d < bs.length := ok q d (List.mem_of_getElem? hd2)
            have lw : ws.length ≤ 301 := by
              have h1 := uj.cnt
              have h2 := cnF_le F bs.length
              omega
            walk_at "sm"
            refine ixl (SqL.of f2) (atI_nat (bL_at dl)) ⟨_, rfl, ?_⟩
            cases hF : F d with
            | true => exact iteF ⟨_, _, _, F, ws, rfl, f1, f2, f3, uj.skip hd2 hF⟩
            | false =>
              have ixd : ixN (bL F bs.length).length (d : Int) = some d := by
                unfold ixN
                rw [bL_len, if_pos (Int.natCast_nonneg d), if_pos (by omega)]
                rfl
              refine iteT ⟨Fa, _, (d : Int), d, rfl, rfl, f2, ixd, ?_⟩
              rw [bL_set dl (G := fun p => F p || decide (p = d)) fun p => by
                by_cases e : p = d
                · rw [if_pos e, decide_eq_true e, Bool.or_true]
                · rw [if_neg e, decide_eq_false e, Bool.or_false]]
              have f1' := Evl.Ex.mut (o := .lst (bL (fun p => F p || decide (p = d)) bs.length)) f1 hFn
              have f2' : upd HY Fa (.lst (bL (fun p => F p || decide (p = d)) bs.length)) Fa = some (.lst (bL (fun p => F p || decide (p = d)) bs.length)) := upd_same
              have f3' : upd HY Fa (.lst (bL (fun p => F p || decide (p = d)) bs.length)) Td = some (.lst ((nI ws).map V.int)) := by rw [upd_ne (Ne.symm nFT)]; exact f3
              generalize upd HY Fa (.lst (bL (fun p => F p || decide (p = d)) bs.length)) = H3 at f1' f2' f3' ⊢
              walk_at "sm"
              refine ⟨(show tyV K "list" (.ref Td) H3 from .inl ⟨rfl, _, SqL.of f3'⟩), Td, _, _, rfl, rfl, f3', Nat.lt_of_le_of_lt (show _ ≤ 301 by rw [nI_len]; exact lw) (by decide), _, _, _, _, ws ++ [d], rfl, Evl.Ex.mut f1' hTn, by rw [upd_ne nFT]; exact f2', by rw [upd_same, nI_snoc], uj.add ok hd2 hF⟩
          · rintro σ HY ⟨v4, v5, v6, F, ws, rfl, f1, f2, f3, uj⟩
            rw [nI_len, ← hrow] at uj
            exact ⟨_, _, _, F, ws, rfl, f1, f2, f3, uj.done⟩
      · rintro σ HX ⟨v4, v5, v6, F, ws, rfl, g1, g2, g3, ui⟩
        have ek : (((xs.length : Nat) : Int) + 1).toNat = bs.length + 1 := by omega
        rw [ek] at ui
        obtain rfl := ui.last
        exact ⟨_, _, _, _, F, rfl, g1, g2, ui.full⟩
    · rintro σ HX ⟨v3, v4, v5, v6, F, rfl, g1, g2, g3⟩
      have hlX := g1 _ _ hl
      walk_at "sm"
      refine ⟨xs, .inl (SqL.of hlX), by omega, by omega, lcg_range (lo := 0) (n := ((xs.length : Nat) : Int).toNat) (ivUc HX F) (fun D hD => ⟨Evl.Ex.new hD, upd_same⟩) ?_ ?_⟩
      · rintro D i HY hD hi ⟨h1, h2⟩
        have hi2 : i < bs.length := by omega
        have rs : (List.range (i + 1)).filter F = (List.range i).filter F ++ if F i = true then [i] else [] := by
          rw [List.range_succ, List.filter_append, List.filter_cons, List.filter_nil]
        have lr : ((List.range i).filter F).length ≤ i := Nat.le_trans (List.length_filter_le _ _) (Nat.le_of_eq (List.length_range ..))
        walk_at "sm"
        rw [show (0 : Int) + (i : Int) = (i : Int) by omega]
        refine ixl (SqL.of (h1 _ _ g2)) (atI_nat (bL_at hi2)) ⟨_, rfl, ?_⟩
        cases hF : F i with
        | true =>
          rw [hF] at rs
          refine iteT ⟨_, h2, Nat.lt_of_le_of_lt (show _ ≤ 300 by rw [nI_len]; omega) (by decide), h1.mut hD, ?_⟩
          rw [upd_same, rs, if_pos rfl, nI_snoc]
        | false =>
          rw [hF] at rs
          refine iteF ⟨h1, ?_⟩
          rw [rs, if_neg (by decide), List.append_nil]
          exact h2
      · rintro D HY hD ⟨h1, h2⟩
        have en : ((xs.length : Nat) : Int).toNat = bs.length := by omega
        rw [en] at h2
        refine k D _ HY (g1.trans h1) ((range_lt _).filter _) (fun q => ?_) h2
        rw [List.mem_filter, List.mem_range, g3]
        refine ⟨fun z => z.2, fun z => ⟨?_, z⟩⟩
        cases z with
        | one e1 e2 _ => exact ok _ q (by rw [row_of e1]; exact e2)
        | more _ e1 e2 _ => exact ok _ q (by rw [row_of e1]; exact e2)
end


/-! ### the rows of the law: their befores -/
theorem cr_sortedSet_b {X : Cx} {s : Shared} {H : Hp} {scope : Scope} {env : Env} {fp : List Addr} (hc : X.calm = true) : CallR (X.blk s H scope env fp) (.builtin "sorted") (rSortedSet X.w) := cr_sortedSet (X := X.blk s H scope env fp) hc
theorem call_setIs_b {X : Cx} {s : Shared} {H : Hp} {scope : Scope} {env : Env} {fp : List Addr} (hc : X.calm = true) : CallR (X.blk s H scope env fp) (.type "set") (rSetI X.K X.w) := call_setIs (X := X.blk s H scope env fp) hc
theorem pi_tup_b {X : Cx} {s : Shared} {H : Hp} {scope : Scope} {env : Env} {fp : List Addr} {tg l : Expr} {tl : TE} (hl : PE (X.blk s H scope env fp) l tl) : PI (X.blk s H scope env fp) tg l (iTup X.K tl) := pi_tup hl
theorem pi_list_b {X : Cx} {s : Shared} {H : Hp} {scope : Scope} {env : Env} {fp : List Addr} {tg l : Expr} {tl : TE} (hl : PE (X.blk s H scope env fp) l tl) : PI (X.blk s H scope env fp) tg l (iList X.K tl) := pi_list hl
theorem ix_tup_b2 {X : Cx} {s s' : Shared} {H H' : Hp} {scope scope' : Scope} {env env' : Env} {fp fp' : List Addr} : IxR ((X.blk s H scope env fp).blk s' H' scope' env' fp') (rIxT X.K) := ix_tup
theorem ix_list_b2 {X : Cx} {s s' : Shared} {H H' : Hp} {scope scope' : Scope} {env env' : Env} {fp fp' : List Addr} : IxR ((X.blk s H scope env fp).blk s' H' scope' env' fp') (rIxL X.K) := ix_list
/-- a row: a kind and its operands -/
def rowS (H : Hp) (v : V) (s : Stp) : Prop := ∃ p kp op, v = .ref p ∧ H p = some (.tup [.ref kp, .ref op]) ∧ KdAt H kp s.kd ∧ OpsAt H op s.ops
theorem rowS.go {H H' : Hp} {v : V} {s : Stp} (e : Kp H H') (h : rowS H v s) : rowS H' v s := by
  obtain ⟨p, kp, op, h1, h2, h3, h4⟩ := h
  exact ⟨p, kp, op, h1, e.1 _ _ h2, h3.kp e, h4.go e.1⟩
def RowsS (H : Hp) (l : Addr) (sts : List Stp) : Prop := ∃ xs, H l = some (.lst xs) ∧ Paired (rowS H) xs sts
theorem RowsS.go {H H' : Hp} {l : Addr} {sts : List Stp} (e : Kp H H') (h : RowsS H l sts) : RowsS H' l sts := by
  obtain ⟨xs, h1, h2⟩ := h
  exact ⟨xs, e.2 _ _ h1, Paired.mapP h2 fun _ _ z => z.go e⟩
section
variable {P : Program} {w : World} {K : PySem.W.Frag} {mg : Str → Option Value} {base : Heap} {a : Ad}
def spLB : Sp := fun vs H Q _ => ∃ (l : Addr) (sts : List Stp), vs = [.ref l] ∧ RowsS H l sts ∧ (∀ s ∈ sts, s.ok) ∧ sts.length ≤ 300 ∧ ∀ q H', Evl.Ex H H' → ArrL H' q (bsOf sts) → Q (.ref q) H'
theorem pairD {H H' : Hp} {D : Addr} : ∀ {xs : List V} {bs : List (List Nat)}, Paired (rowL H) xs bs → (∀ v ∈ xs, v ≠ .ref D) → (∀ q b, H q = some (.lst ((nI b).map V.int)) → q ≠ D → H' q = some (.lst ((nI b).map V.int))) → Paired (rowL H') xs bs
  | _, _, .nil, _, _ => .nil
  | _, _, .cons ⟨q, h1, h2⟩ t, n, k => .cons ⟨q, h1, k q _ h2 fun z => n _ List.mem_cons_self (by rw [h1, z])⟩ (pairD t (fun v hv => n v (List.mem_cons_of_mem _ hv)) k)
/-- [o[1] for o in operands if o[0] == 'place'] -/
theorem lc_places {K : PySem.W.Frag} {o : Addr} {ops : List Opd} {H : Hp} {s0 s1 s2 s3 : Option V} {Q : VK} (ho : OpsAt H o ops) (hl : ops.length ≤ 100) (k : ∀ D H', Evl.Ex H H' → H' D = some (.lst ((plN ops).map V.int)) → Q (.ref D) H') :
    (∃ xs, SqT K H o xs) ∧ LcG (Itt K o) (gName 3) (tTest (tOp rEq (tOp (rIxT K) (tVar 3) (tC (V.int 0))) (tC (V.str "place")))) (tOp (rIxT K) (tVar 3) (tC (V.int 1))) [3] [s0, s1, s2, s3] Q H := by
  obtain ⟨xs, hx, hp⟩ := ho
  have lx := paired_len hp
  refine ⟨⟨_, SqT.of hx⟩, lcg_tup (K := K) (a := o) (xs := xs) (ivBef H ops) (fun D hD => ⟨Evl.Ex.new hD, upd_same⟩) (fun D i HX hD hi h => SqT.of (h.1 _ _ hx)) ?_ ?_⟩
  · rintro D i y HX hD hi ⟨f1, f2⟩
    obtain ⟨od, ho1, q, rfl, hq⟩ := paired_at hp hi
    have hq2 := hq.go f1
    have li := (List.getElem?_eq_some_iff.mp hi).1
    have tk1 : ops.take (i + 1) = ops.take i ++ [od] := by rw [List.take_add_one, ho1]; rfl
    have ll : (plN (ops.take i)).length ≤ 100 := by
      have h1 := plN_len (ops.take i)
      rw [List.length_take] at h1
      omega
    walk_at "sm"
    refine ix0 hq2 ⟨rfl, ?_⟩
    cases od with
    | pl n =>
      refine iteP rfl (ix1 hq2 ⟨_, f2, Nat.lt_of_le_of_lt (show _ ≤ 100 by rw [List.length_map]; exact ll) (by decide), f1.mut hD, ?_⟩)
      rw [upd_same, tk1, plN_snoc, List.map_append]
      rfl
    | gi n =>
      refine iteN (show ¬ (V.str "given" = V.str "place") by decide +kernel) ⟨f1, ?_⟩
      rw [tk1, plN_snoc, List.map_append]
      exact f2.trans (by simp [plN])
    | nu n =>
      refine iteN (show ¬ (V.str "number" = V.str "place") by decide +kernel) ⟨f1, ?_⟩
      rw [tk1, plN_snoc, List.map_append]
      exact f2.trans (by simp [plN])
  · rintro D HX hD ⟨f1, f2⟩
    rw [lx, List.take_length] at f2
    exact k D HX f1 f2
def ivLB (H : Hp) (sts : List Stp) (D : Addr) (i : Nat) (H' : Hp) : Prop := Evl.Ex H H' ∧ ∃ xs, H' D = some (.lst xs) ∧ Paired (rowL H') xs ((bsOf sts).take i) ∧ ∀ v ∈ xs, v ≠ .ref D
theorem ok_law_web_befores (T : Txt K mg a) : FnOk P w K mg base CX0 1 a.f_law_web_befores a.d_law_web_befores ["_law_steps"] spLB := by
  refine T.F_law_web_befores.ok sc_law_web_befores (fun vs H Q E h => ?_) (fun cdv A outer s H vs Q E hr h => ?_)
  · obtain ⟨_, _, rfl, _⟩ := h
    rfl
  · obtain ⟨l, sts, rfl, ⟨xs, hl, hx⟩, hok, hn, k⟩ := h
    have lx := paired_len hx
    refine ⟨_, (pss_one (ps_ret (pe_lc (own := [("_law_kind_here", 1), ("_law_operands_here", 2)]) (g := gTup K 2 (gCons (gName 1) (gCons (gName 2) (gNil)))) (tt := tYes) rfl sc_law_web_befores.nd (pi_list (pv 0)) (blkOk_by (own := [("_law_kind_here", 1), ("_law_operands_here", 2)]) (N := ["_law_steps", "_law_kind_here", "_law_operands_here", "_law_o"]) (sc := defScope s_law_web_befores) (by decide +kernel)) (fun _ _ _ _ _ => pg_tup rfl (pgs_cons (pg_name (i := 1) sc_law_web_befores.nd rfl (Or.inl rfl)) (pgs_cons (pg_name (i := 2) sc_law_web_befores.nd rfl (Or.inl rfl)) pgs_nil))) (fun _ _ _ _ _ => pts_nil) (fun _ _ _ _ _ => (pe_callB (cr_sortedSet_b rfl) (by rfl) T.z_sorted (by decide +kernel) (pa_cons (pe_callTy (call_setIs_b rfl) (by rfl) T.z_set (by decide +kernel) (pa_cons (pe_lc (own := [("_law_o", 3)]) (g := gName 3)  rfl sc_law_web_befores.nd (pi_tup_b (pv 2)) (by (show BlkOk ["_law_steps", "_law_kind_here", "_law_operands_here", "_law_o"] ⟨_, _, _, _, _⟩ _ _); exact blkOk_by (by first | rfl | kernel_rfl)) (fun _ _ _ _ _ => pg_name (i := 3) sc_law_web_befores.nd rfl (Or.inl rfl)) (fun _ _ _ _ _ => (pts_one (pt_cmpR op_eq (pe_ix ix_tup_b2 (pv 3) pe_int (fun _ _ => rfl)) pe_str (nomark _)))) (fun _ _ _ _ _ => (pe_ix ix_tup_b2 (pv 3) pe_int (fun _ _ => rfl)))) pa_nil)) pa_nil)))))), ?_⟩
    walk_at "sm"
    have lb : (bsOf sts).length = sts.length := by unfold bsOf; rw [List.length_map]
    refine ⟨⟨_, SqL.of hl⟩, lcg_list (K := K) (a := l) (xs := xs) (ivLB H sts) (fun D hD => ⟨Evl.Ex.new hD, [], upd_same, .nil, fun v hv => by cases hv⟩) (fun D i HX hD hi h => SqL.of (h.1 _ _ hl)) ?_ ?_⟩
    · rintro D i y HX hD hi ⟨f1, ys, f2, f3, f4⟩
      obtain ⟨s, hs, p, kp, op, rfl, q1, q2, q3⟩ := paired_at hx hi
      have sm := List.mem_of_getElem? hs
      have so := hok s sm
      have lm := many_le s.kd
      have li := (List.getElem?_eq_some_iff.mp hs).1
      have eb : (bsOf sts)[i]? = some (befs s.ops) := by unfold bsOf; rw [List.getElem?_map, hs]; rfl
      have ly : ys.length ≤ 300 := by rw [paired_len f3, List.length_take, lb]; exact Nat.le_trans (Nat.min_le_right _ _) hn
      walk_at "sm"
      refine ⟨_, SqT.of (f1 _ _ q1), rfl, _, _, rfl, _, _, rfl, rfl, op, rfl, lc_places (q3.go (Kp.ex f1).1) (by rw [so.1]; omega) fun E1 HY g1 g2 => ?_⟩
      walk_at "sm"
      refine ⟨E1, plN s.ops, rfl, .inl (SqL.of g2), by have := plN_len s.ops; have := so.1; omega, fun p2 c hc _ hp2 => ⟨p2, _, c, rfl, upd_same, by have := plN_len s.ops; have := so.1; omega, fun ns p3 n1 n2 n3 hp3 => ?_⟩⟩
      obtain rfl := befs_uniq so.2 n1 n2
      have e2 := (g1.trans (Evl.Ex.new hp2)).trans (Evl.Ex.new (o := .lst ((nI (befs s.ops)).map V.int)) hp3)
      have fD := e2 _ _ f2
      refine ⟨ys, fD, Nat.lt_of_le_of_lt ly (by decide), Evl.Ex.mut (f1.trans e2) hD, _, upd_same, ?_, ?_⟩
      · have hp3' : HY p3 = none := by
          by_cases e : p3 = p2
          · rw [e]; exact hp2
          · rw [upd_ne e] at hp3; exact hp3
        have n3 : p3 ≠ D := fun z => by
          have := g1 _ _ f2
          rw [← z, hp3'] at this
          cases this
        rw [List.take_add_one, eb]
        refine Paired.snoc ⟨p3, rfl, by rw [upd_ne n3, upd_same]⟩ (pairD f3 f4 fun q b hq n => ?_)
        rw [upd_ne n]
        exact e2 _ _ hq
      · intro v hv
        rcases List.mem_append.mp hv with g | g
        · exact f4 v g
        · rw [List.mem_singleton.mp g]
          intro z
          have e3 := V.ref.inj z
          have := g1 _ _ f2
          have hp3' : HY p3 = none := by
            by_cases e : p3 = p2
            · rw [e]; exact hp2
            · rw [upd_ne e] at hp3; exact hp3
          rw [← e3, hp3'] at this
          cases this
    · rintro D HX hD ⟨f1, ys, f2, f3, f4⟩
      rw [lx, ← lb, List.take_length] at f3
      exact k D HX f1 ⟨ys, f2, f3⟩
end


/-! ### the law's own words of a web -/
section
variable {P : Program} {w : World} {K : PySem.W.Frag} {mg : Str → Option Value} {base : Heap} {a : Ad}
def spLWW : Sp := fun vs H Q _ => ∃ (l J : Addr) (sts : List Stp) (inp : List Int) (wd : Nat), vs = [.ref l, .int wd, .ref J] ∧ RowsS H l sts ∧ H J = some (.lst (inp.map V.int)) ∧ 1 ≤ wd ∧ wd ≤ 12 ∧ rng wd inp ∧ sts.length ≤ 300 ∧ FitW inp.length 0 sts ∧
  ∀ q H', Evl.Ex H H' → H' q = some (.lst ((runW inp wd sts []).map V.int)) → Q (.ref q) H'
def ivLW (H : Hp) (l J W : Addr) (sts : List Stp) (inp : List Int) (wd : Nat) : Nat → L2.St → Hp → Prop := fun i σ H' => ∃ v4 v5 v6 v7, σ = [some (.ref l), some (.int wd), some (.ref J), some (.ref W), v4, v5, v6, v7] ∧ Evl.Ex H H' ∧ H' W = some (.lst ((runW inp wd (sts.take i) []).map V.int)) ∧ rng wd (runW inp wd (sts.take i) [])
def ivLX (H : Hp) (l J W kp op hp : Addr) (ws inp : List Int) (wd : Nat) (s : Stp) : Nat → L2.St → Hp → Prop := fun j σ H' => ∃ v7, σ = [some (.ref l), some (.int wd), some (.ref J), some (.ref W), some (.ref kp), some (.ref op), some (.ref hp), v7] ∧ Evl.Ex H H' ∧
  H' W = some (.lst (ws.map V.int)) ∧ H' hp = some (.lst (((s.ops.take j).map fun o => o.word ws inp wd).map V.int))
theorem ok_law_web_words (T : Txt K mg a) : FnOk P w K mg base CX0 3 a.f_law_web_words a.d_law_web_words ["_law_steps", "_law_width", "_law_inputs"] spLWW := by
  refine T.F_law_web_words.ok sc_law_web_words (fun vs H Q E h => ?_) (fun cdv A outer s H vs Q E hr h => ?_)
  · obtain ⟨_, _, _, _, _, rfl, _⟩ := h
    rfl
  · obtain ⟨l, J, sts, inp, wd, rfl, ⟨xs, hl, hx⟩, hJ, hw1, hw, hri, hn, hfit, k⟩ := h
    have lx := paired_len hx
    refine ⟨_, (pss_cons (ps_set (i := 3) sc_law_web_words.nd rfl (by first | exact Or.inl rfl | exact Or.inr rfl) (pe_lst pa_nil))
  (pss_cons (ps_for PassesOwn.never rfl (pi_list (pv 0)) (pg_tup rfl (pgs_cons (pg_name (i := 4) sc_law_web_words.nd rfl (by first | exact Or.inl rfl | exact Or.inr rfl)) (pgs_cons (pg_name (i := 5) sc_law_web_words.nd rfl (by first | exact Or.inl rfl | exact Or.inr rfl)) pgs_nil))) (pss_cons (ps_set (i := 6) sc_law_web_words.nd rfl (by first | exact Or.inl rfl | exact Or.inr rfl) (pe_lst pa_nil))
  (pss_cons (ps_for PassesOwn.never rfl (pi_tup (pv 5)) (pg_name (i := 7) sc_law_web_words.nd rfl (by first | exact Or.inl rfl | exact Or.inr rfl)) (pss_one (ps_if (pt_cmpR op_eq (pe_ix ix_tup (pv 7) pe_int (fun _ _ => rfl)) pe_str (nomark _)) (pss_one (ps_expr (pe_bm PySem.F.plainAttrs_list PySem.F.slot_list_append PySem.F.type_list_append mt_append (pv 6) (pa_cons (pe_ix ix_list (pv 3) (pe_ix ix_tup (pv 7) pe_int (fun _ _ => rfl)) (fun _ _ => rfl)) pa_nil))))
    (pss_one (ps_if (pt_cmpR op_eq (pe_ix ix_tup (pv 7) pe_int (fun _ _ => rfl)) pe_str (nomark _)) (pss_one (ps_expr (pe_bm PySem.F.plainAttrs_list PySem.F.slot_list_append PySem.F.type_list_append mt_append (pv 6) (pa_cons (pe_ix ix_list (pv 2) (pe_ix ix_tup (pv 7) pe_int (fun _ _ => rfl)) (fun _ _ => rfl)) pa_nil))))
    (pss_one (ps_expr (pe_bm PySem.F.plainAttrs_list PySem.F.slot_list_append PySem.F.type_list_append mt_append (pv 6) (pa_cons (pe_op op_mod (pe_callTy call_int1 (by rfl) T.z_int (by decide +kernel) (pa_cons (pe_ix ix_tup (pv 7) pe_int (fun _ _ => rfl)) pa_nil)) (pe_call (ok_law_two T) (hr.mono (by decide)) rfl T.m_law_two T.F_law_two.kp T.b_law_two .nil pass0 (pa_cons (pv 1) pa_nil))) pa_nil)))))))))
  (pss_one (ps_expr (pe_bm PySem.F.plainAttrs_list PySem.F.slot_list_append PySem.F.type_list_append mt_append (pv 3) (pa_cons (pe_call (ok_law_step_word T) (hr.mono (by decide)) rfl T.m_law_step_word T.F_law_step_word.kp T.b_law_step_word .nil pass0 (pa_cons (pv 4) (pa_cons (pv 6) (pa_cons (pv 1) pa_nil)))) pa_nil)))))))
  (pss_one (ps_ret (pv 3))))), ?_⟩
    walk_at "sm"
    refine ⟨Nat.zero_le _, fun W hW => ?_⟩
    have eW := Evl.Ex.new (o := .lst []) hW
    refine ⟨_, rfl, l, rfl, ⟨_, SqL.of (eW _ _ hl)⟩, for_list (K := K) (a := l) (xs := xs) (ivLW H l J W sts inp wd) ⟨none, none, none, none, rfl, eW, upd_same, fun y hy => by cases hy⟩ (fun i σ HX hi ⟨_, _, _, _, _, f, _⟩ => SqL.of (f _ _ hl)) ?_ ?_⟩
    · rintro i y σ HX hi ⟨v4, v5, v6, v7, rfl, f1, f2, f3⟩
      obtain ⟨s, hs, p, kp, op, rfl, q1, q2, q3⟩ := paired_at hx hi
      obtain ⟨hok, hft⟩ := fit_at hfit hs
      rw [Nat.zero_add] at hft
      have li := (List.getElem?_eq_some_iff.mp hs).1
      have lw : (runW inp wd (sts.take i) []).length = i := by
        rw [runW_len, List.length_take]
        show 0 + min i sts.length = i
        omega
      have lm := many_le s.kd
      walk_at "sm"
      refine ⟨_, SqT.of (f1 _ _ q1), rfl, _, _, rfl, _, _, rfl, rfl, Nat.zero_le _, fun hp hhp => ?_⟩
      have eh := Evl.Ex.new (o := .lst []) hhp
      have f1' := f1.trans eh
      have f2' := eh _ _ f2
      have hh0 : upd HX hp (.lst []) hp = some (.lst []) := upd_same
      have hpn : H hp = none := Evl.fresh_back f1 hhp
      have nW : W ≠ hp := fun z => by rw [← z, f2] at hhp; cases hhp
      generalize upd HX hp (.lst []) = H2 at eh f1' f2' hh0 ⊢
      obtain ⟨os, ho1, ho2⟩ := q3
      have lo := paired_len ho2
      generalize hws : runW inp wd (sts.take i) [] = ws at f2' f3 lw
      refine ⟨_, rfl, op, rfl, ⟨_, SqT.of (f1' _ _ ho1)⟩, for_tup (K := K) (a := op) (xs := os) (ivLX H l J W kp op hp ws inp wd s) ⟨_, rfl, f1', f2', hh0⟩ (fun j σ HY hj ⟨_, _, g, _⟩ => SqT.of (g _ _ ho1)) ?_ ?_⟩
      · rintro j z σ HY hj ⟨w7, rfl, g1, g2, g3⟩
        obtain ⟨o, hod, qq, rfl, hq⟩ := paired_at ho2 hj
        have hq2 := hq.go g1
        have lj := (List.getElem?_eq_some_iff.mp hod).1
        have fo := hft o (List.mem_of_getElem? hod)
        have fin : ∀ v : Int, v = o.word ws inp wd → ∃ l' xs' y', V.ref hp = .ref l' ∧ [V.int v] = [y'] ∧ HY l' = some (.lst xs') ∧ xs'.length < sizeLine ∧ ivLX H l J W kp op hp ws inp wd s (j + 1) [some (.ref l), some (.int wd), some (.ref J), some (.ref W), some (.ref kp), some (.ref op), some (.ref hp), some (.ref qq)] (upd HY l' (.lst (xs' ++ [y']))) := by
          rintro v rfl
          refine ⟨hp, _, _, rfl, rfl, g3, Nat.lt_of_le_of_lt (show _ ≤ 100 by rw [List.length_map, List.length_map, List.length_take]; have := hok.1; omega) (by decide), _, rfl, Evl.Ex.mut g1 hpn, by rw [upd_ne nW]; exact g2, ?_⟩
          rw [upd_same, List.take_add_one, hod, List.map_append, List.map_append]
          rfl
        have ty : tyV K "list" (.ref hp) HY := .inl ⟨rfl, _, SqL.of g3⟩
        walk_at "sm"
        refine ix0 hq2 ⟨rfl, ?_⟩
        cases o with
        | pl n =>
          have fo : n < ws.length := by rw [lw]; exact fo
          exact iteP rfl ⟨ty, ix1 hq2 (ixl (SqL.of g2) (int_get fo) (fin _ rfl))⟩
        | gi n => exact iteN (show ¬ (V.str "given" = V.str "place") by decide +kernel) (ix0 hq2 ⟨rfl, iteP rfl ⟨ty, ix1 hq2 (ixl (SqL.of (g1 _ _ hJ)) (int_get fo) (fin _ rfl))⟩⟩)
        | nu n =>
          refine iteN (show ¬ (V.str "number" = V.str "place") by decide +kernel) (ix0 hq2 ⟨rfl, iteN (show ¬ (V.str "number" = V.str "given") by decide +kernel) ⟨ty, ix1 hq2 (.inl ⟨_, rfl, wd, rfl, by omega, _, rfl, (two_le hw).1, fin _ rfl⟩)⟩⟩)
      · rintro σ HY ⟨w7, rfl, g1, g2, g3⟩
        rw [lo, List.take_length] at g3
        walk_at "sm"
        have hft2 : ∀ o ∈ s.ops, o.fits ws.length inp.length := by rw [lw]; exact hft
        have st := st_rng hok hft2 f3 hri
        refine ⟨(show tyV K "list" (.ref W) HY from .inl ⟨rfl, _, SqL.of g2⟩), kp, hp, s.kd, _, wd, rfl, q2.go g1, g3, by rw [List.length_map]; exact hok.1, fun x hx2 => ?_, hw1, hw, ?_⟩
        · obtain ⟨o, om, rfl⟩ := List.mem_map.mp hx2
          exact word_rng (hft2 o om) f3 hri
        · have tk1 : sts.take (i + 1) = sts.take i ++ [s] := by rw [List.take_add_one, hs]; rfl
          refine ⟨W, _, _, rfl, rfl, g2, Nat.lt_of_le_of_lt (show _ ≤ 300 by rw [List.length_map, lw]; omega) (by decide), _, _, _, _, rfl, Evl.Ex.mut g1 hW, ?_, ?_⟩
          · rw [upd_same, tk1, runW_snoc, hws, List.map_append]
            rfl
          · rw [tk1, runW_snoc, hws]
            exact rng_snoc f3 st
    · rintro σ HX ⟨v4, v5, v6, v7, rfl, f1, f2, f3⟩
      rw [lx, List.take_length] at f2
      exact ⟨_, rfl, k W HX f1 f2⟩
end


/-! ### the law looks at a step; rows as tuples -/
section
variable {P : Program} {w : World} {K : PySem.W.Frag} {mg : Str → Option Value} {base : Heap} {a : Ad}
def spTu : Sp := fun vs H Q _ => ∃ (l : Addr) (bs : List (List Nat)), vs = [.ref l] ∧ ArrL H l bs ∧ bs.length ≤ 300 ∧ ∀ q H', Evl.Ex H H' → ArrT H' q bs → Q (.ref q) H'
theorem ok_law_tuples (T : Txt K mg a) : FnOk P w K mg base CX0 1 a.f_law_tuples a.d_law_tuples ["_law_rows"] spTu := by
  refine T.F_law_tuples.ok sc_law_tuples (fun vs H Q E h => ?_) (fun cdv A outer s H vs Q E hr h => ?_)
  · obtain ⟨_, _, rfl, _⟩ := h
    rfl
  · obtain ⟨l, bs, rfl, ⟨xs, hl, hx⟩, hn, k⟩ := h
    have lx := paired_len hx
    refine ⟨_, (pss_one (ps_ret (pe_callTy call_tuple_of (by rfl) T.z_tuple (by decide +kernel) (pa_cons (pe_lc (own := [("_law_row", 1)]) (g := gName 1) (tt := tYes) rfl sc_law_tuples.nd (pi_list (pv 0)) (blkOk_by (own := [("_law_row", 1)]) (N := ["_law_rows", "_law_row"]) (sc := defScope s_law_tuples) (by decide +kernel)) (fun _ _ _ _ _ => pg_name (i := 1) sc_law_tuples.nd rfl (Or.inl rfl)) (fun _ _ _ _ _ => pts_nil) (fun _ _ _ _ _ => (pe_callTy call_tuple_of_b (by rfl) T.z_tuple (by decide +kernel) (pa_cons (pv 1) pa_nil)))) pa_nil)))), ?_⟩
    walk_at "sm"
    refine ⟨⟨_, SqL.of hl⟩, lcg_list (K := K) (a := l) (xs := xs) (ivCC H bs) (fun D hD => ⟨Evl.Ex.new hD, [], upd_same, .nil⟩) (fun D i HX hD hi h => SqL.of (h.1 _ _ hl)) ?_ ?_⟩
    · rintro D i y HX hD hi ⟨f1, ys, f2, f3⟩
      obtain ⟨b, hb1, q, rfl, hq⟩ := paired_at hx hi
      have li := (List.getElem?_eq_some_iff.mp hb1).1
      have ly : ys.length ≤ 300 := by rw [paired_len f3, List.length_take]; exact Nat.le_trans (Nat.min_le_right _ _) hn
      walk_at "sm"
      refine ⟨_, .inl ⟨SqL.of (f1 _ _ hq), fun t ht => ?_⟩⟩
      have e6 := Evl.Ex.new (o := .tup ((nI b).map V.int)) ht
      have hl6 : upd HX t (HO.tup ((nI b).map V.int)) t = some (HO.tup ((nI b).map V.int)) := upd_same
      have hD6 := e6 _ _ f2
      have f6 := f1.trans e6
      have f36 := Paired.mapP f3 fun x c z => z.go (Kp.ex e6)
      generalize upd HX t (HO.tup ((nI b).map V.int)) = H6 at e6 hl6 hD6 f6 f36 ⊢
      refine ⟨ys, hD6, Nat.lt_of_le_of_lt ly (by decide), f6.mut hD, _, upd_same, ?_⟩
      have tk : ∀ c zs, H6 c = some (.tup zs) → upd H6 D (HO.lst (ys ++ [V.ref t])) c = some (.tup zs) := fun c zs h => by
        rw [upd_ne (fun z => by rw [z, hD6] at h; cases h)]
        exact h
      rw [List.take_add_one, hb1]
      exact Paired.snoc ⟨t, rfl, tk _ _ hl6⟩ (Paired.mapP f36 fun x c ⟨qq, z1, z2⟩ => ⟨qq, z1, tk _ _ z2⟩)
    · rintro D HX hD ⟨f1, ys, f2, f3⟩
      walk_at "sm"
      rw [lx, List.take_of_length_le (Nat.le_refl _)] at f3
      exact ⟨_, .inl ⟨SqL.of f2, fun t ht => k t _ (f1.trans (Evl.Ex.new ht)) ⟨ys, upd_same, Paired.mapP f3 fun x c z => z.go (Kp.ex (Evl.Ex.new ht))⟩⟩⟩
theorem lc_places5 {K : PySem.W.Frag} {o : Addr} {ops : List Opd} {H : Hp} {s0 s1 s2 s3 s4 s5 : Option V} {Q : VK} (ho : OpsAt H o ops) (hl : ops.length ≤ 100) (k : ∀ D H', Evl.Ex H H' → H' D = some (.lst ((plN ops).map V.int)) → Q (.ref D) H') :
    (∃ xs, SqT K H o xs) ∧ LcG (Itt K o) (gName 5) (tTest (tOp rEq (tOp (rIxT K) (tVar 5) (tC (V.int 0))) (tC (V.str "place")))) (tOp (rIxT K) (tVar 5) (tC (V.int 1))) [5] [s0, s1, s2, s3, s4, s5] Q H := by
  obtain ⟨xs, hx, hp⟩ := ho
  have lx := paired_len hp
  refine ⟨⟨_, SqT.of hx⟩, lcg_tup (K := K) (a := o) (xs := xs) (ivBef H ops) (fun D hD => ⟨Evl.Ex.new hD, upd_same⟩) (fun D i HX hD hi h => SqT.of (h.1 _ _ hx)) ?_ ?_⟩
  · rintro D i y HX hD hi ⟨f1, f2⟩
    obtain ⟨od, ho1, q, rfl, hq⟩ := paired_at hp hi
    have hq2 := hq.go f1
    have li := (List.getElem?_eq_some_iff.mp hi).1
    have tk1 : ops.take (i + 1) = ops.take i ++ [od] := by rw [List.take_add_one, ho1]; rfl
    have ll : (plN (ops.take i)).length ≤ 100 := by
      have h1 := plN_len (ops.take i)
      rw [List.length_take] at h1
      omega
    walk_at "sm"
    refine ix0 hq2 ⟨rfl, ?_⟩
    cases od with
    | pl n =>
      refine iteP rfl (ix1 hq2 ⟨_, f2, Nat.lt_of_le_of_lt (show _ ≤ 100 by rw [List.length_map]; exact ll) (by decide), f1.mut hD, ?_⟩)
      rw [upd_same, tk1, plN_snoc, List.map_append]
      rfl
    | gi n =>
      refine iteN (show ¬ (V.str "given" = V.str "place") by decide +kernel) ⟨f1, ?_⟩
      rw [tk1, plN_snoc, List.map_append]
      exact f2.trans (by simp [plN])
    | nu n =>
      refine iteN (show ¬ (V.str "number" = V.str "place") by decide +kernel) ⟨f1, ?_⟩
      rw [tk1, plN_snoc, List.map_append]
      exact f2.trans (by simp [plN])
  · rintro D HX hD ⟨f1, f2⟩
    rw [lx, List.take_length] at f2
    exact k D HX f1 f2
theorem ne_ops {H : Hp} {p q : Addr} {l m : List Opd} {Q : VK} (h1 : OpsAt H p l) (h2 : OpsAt H q m) (r : Q (.bl (!decide (l = m))) H) : rNeD K (.ref p) (.ref q) H Q := by
  refine ⟨opsD l, opsD m, h1.dp, h2.dp, shaped_of (opsD_lay l) (by decide), shaped_of (opsD_lay m) (by decide), ?_⟩
  rw [show PyData.eqv (opsD l) (opsD m) = PyData.eqvAll (l.map Opd.D) (m.map Opd.D) from rfl, opsD_eqv]
  exact r
theorem ne_nats {H : Hp} {p q : Addr} {l : List Nat} {Q : VK} (h1 : H p = some (.tup ((nI l).map V.int))) (h2 : H q = some (.tup ((nI l).map V.int))) (r : Q (.bl false) H) : rNeD K (.ref p) (.ref q) H Q :=
  ne_same (d := .tuple (((nI l).map V.int).map dV)) (.tup (SqT.of h1) (dp_flats (ints_flat _))) (.tup (SqT.of h2) (dp_flats (ints_flat _))) (shaped_of (lay_tup (lay_flats (ints_flat _))) (by decide)) r
/-- another operand in the first one's place -/
def oth : Opd → Opd
  | .nu n => if n = 4095 then .gi 5 else .nu 4095
  | _ => .nu 4095
theorem oth_ne (o : Opd) : oth o ≠ o := by
  cases o with
  | pl n => intro h; cases h
  | gi n => intro h; cases h
  | nu n =>
    show (if n = 4095 then Opd.gi 5 else .nu 4095) ≠ .nu n
    split
    · intro h; cases h
    · rename_i e
      intro h
      exact e (Opd.nu.inj h).symm
theorem oth_ok (o : Opd) : (oth o).ok := by
  cases o with
  | pl n => exact Nat.le_refl 4095
  | gi n => exact Nat.le_refl 4095
  | nu n =>
    show (if n = 4095 then Opd.gi 5 else .nu 4095).ok
    split
    · exact Nat.le_refl 5
    · exact Nat.le_refl 4095
theorem GdAt.kp {H H' : Hp} {p : Addr} {k : Kd} (e : Kp H H') (h : GdAt H p k) : GdAt H' p k := by
  rcases h with h | ⟨ns, l, h1, h2, h3, h4⟩
  · exact .inl (h.kp e)
  · exact .inr ⟨ns, l, h1, e.1 _ _ h2, e.2 _ _ h3, h4⟩
/-- a step made -/
theorem mk_step {H : Hp} {p q : Addr} {xs : List V} {s : Stp} {Q : Addr → Hp → Prop} {E : XK} (hk : GdAt H p s.kd) (hok : s.ok) (hq : SqAt H q xs) (ho : Paired (opR H) xs s.ops) (k : ∀ x H', Evl.Ex H H' → StpAt a.c_Step H' x s → Q x H') :
    ∀ x dx, H x = none → H dx = none → dx ≠ x → spSI a [.ref x, .ref p, .ref q] (upd (upd H dx (.own x)) x (.ins a.c_Step dx [])) (fun v H2 => v = .non ∧ Q x H2) E := fun x dx hx hdx ne => by
  have e : Evl.Ex H (upd (upd H dx (.own x)) x (.ins a.c_Step dx [])) := (Evl.Ex.new hdx).trans (Evl.Ex.new (by rw [upd_ne (Ne.symm ne)]; exact hx))
  refine ⟨x, dx, .ref p, .ref q, rfl, upd_same, .inr ⟨p, s, rfl, hk.kp (Kp.ex e), ⟨hok, q, xs, rfl, hq.go e, Paired.mapP ho fun _ _ z => z.go (Kp.ex e).1⟩, fun H' f st => ⟨rfl, k x H' (fun b o h => f b o (fun z => by rw [z, hx] at h; cases h) (e _ _ h)) st⟩⟩⟩
theorem many_pos (k : Kd) : 1 ≤ k.many := by cases k <;> simp [Kd.many]
theorem cut_tail {l : List V} (x : V) (h : l.length ≤ 2) : cutV (x :: l) (some 1) none = l := by
  match l, h with
  | [], _ => rfl
  | [_], _ => rfl
  | [_, _], _ => rfl
theorem cut1 (n : Nat) : ¬ (HT.sIx (n + 1) 0 (some 1) = 0 ∧ HT.sIx (n + 1) (n + 1) none = n + 1) := fun h => by
  have := h.1
  unfold HT.sIx at this
  simp at this
theorem ne_opd {H : Hp} {p q : Addr} {o o' : Opd} {Q : VK} (h1 : OpAt H p o) (h2 : OpAt H q o') (r : Q (.bl (!decide (o = o'))) H) : rNeD K (.ref p) (.ref q) H Q := by
  refine ⟨o.D, o'.D, h1.dp, h2.dp, shaped_of o.lay (by decide), shaped_of o'.lay (by decide), ?_⟩
  rw [Opd.eqv]
  exact r
def mdSR (a : Ad) (H : Hp) (q kp op : Addr) (s : Stp) : L2.St → Hp → Prop := fun σ H' => ∃ (v3 v5 : Option V) (u : Addr) (s' : Stp), σ = [some (.ref q), some (.ref kp), some (.ref op), v3, some (.ref u), v5] ∧ Evl.Ex H H' ∧ StpAt a.c_Step H' u s' ∧ s'.kd = s.kd ∧ s'.ops ≠ s.ops
def spSR (a : Ad) : Sp := fun vs H Q _ => ∃ (q kp op : Addr) (s : Stp), vs = [.ref q, .ref kp, .ref op] ∧ StpAt a.c_Step H q s ∧ KdAt H kp s.kd ∧ OpsAt H op s.ops ∧ s.ok ∧ ∀ H', Evl.Ex H H' → Q (.bl true) H'
theorem ok_law_step_right (T : Txt K mg a) (D : Txo w K a) : FnOk P w K mg base CX0 9 a.f_law_step_right a.d_law_step_right ["_law_step", "_law_kind_here", "_law_operands_here"] (spSR a) := by
  refine T.F_law_step_right.ok sc_law_step_right (fun vs H Q E h => ?_) (fun cdv A outer s H vs Q E hr h => ?_)
  · obtain ⟨_, _, _, _, rfl, _⟩ := h
    rfl
  · obtain ⟨q, kp, op, st, rfl, hs, hk, ho, hok, k⟩ := h
    refine ⟨_, (pss_cons (ps_set (i := 3) sc_law_step_right.nd rfl (by first | exact Or.inl rfl | exact Or.inr rfl) (pe_callB (cr_sortedSet rfl) (by rfl) T.z_sorted (by decide +kernel) (pa_cons (pe_callTy (call_setIs rfl) (by rfl) T.z_set (by decide +kernel) (pa_cons (pe_lc (own := [("_law_o", 5)]) (g := gName 5)  rfl sc_law_step_right.nd (pi_tup (pv 2)) (blkOk_by (own := [("_law_o", 5)]) (N := ["_law_step", "_law_kind_here", "_law_operands_here", "_law_places", "_law_other", "_law_o"]) (sc := defScope s_law_step_right) (by decide +kernel)) (fun _ _ _ _ _ => pg_name (i := 5) sc_law_step_right.nd rfl (Or.inl rfl)) (fun _ _ _ _ _ => (pts_one (pt_cmpR op_eq (pe_ix ix_tup_b (pv 5) pe_int (fun _ _ => rfl)) pe_str (nomark _)))) (fun _ _ _ _ _ => (pe_ix ix_tup_b (pv 5) pe_int (fun _ _ => rfl)))) pa_nil)) pa_nil)))
  (pss_cons (ps_if (PW.pt (pw_or (pt_not (pt_val (pe_callB (C8.call_isC T.ic_Step) (by rfl) T.z_isinstance (by decide +kernel) (pa_cons (pv 0) (pa_cons (pe_glob (v := .ref a.c_Step) rfl T.m_Step rfl) pa_nil))))) (pw_or (pt_cmpR (op_neD hr.units) (pe_fld (pv 0) rfl) (pv 1) (nomark _)) (pw_or (pt_cmpR (op_neD hr.units) (pe_fld (pv 0) rfl) (pe_callTy call_tuple_of (by rfl) T.z_tuple (by decide +kernel) (pa_cons (pv 2) pa_nil)) (nomark _)) (pw_or1 (pt_cmpR (op_neD hr.units) (pe_fld (pv 0) rfl) (pe_callTy call_tuple_of (by rfl) T.z_tuple (by decide +kernel) (pa_cons (pv 3) pa_nil)) (nomark _))))))) (pss_one (ps_ret pe_bl))
    pss_nil)
  (Evl.pss_cut (ps_set (i := 4) sc_law_step_right.nd rfl (by first | exact Or.inl rfl | exact Or.inr rfl) (pe_make T.mk_Step (ok_Step_init T D) (hr.mono (by decide)) rfl T.m_Step T.b_Step___init__ .nil passL (pa_cons (pv 1) (pa_cons (pe_op op_cat (pe_lst (pa_cons (pe_ifExp (pt_cmpR (op_neD hr.units) (pe_ix ix_tup (pv 2) pe_int (fun _ _ => rfl)) (pe_tup (pa_cons pe_str (pa_cons pe_int pa_nil))) (nomark _)) (pe_tup (pa_cons pe_str (pa_cons pe_int pa_nil))) (pe_tup (pa_cons pe_str (pa_cons pe_int pa_nil)))) pa_nil)) (pe_callTy call_list_of (by rfl) T.z_list (by decide +kernel) (pa_cons (pe_slice sl_tup (pv 2) (po_some pe_int) po_none) pa_nil))) pa_nil))))
  (pss_one (ps_ret (pe_and (pe_cmpR (op_eqI (ok_Step_eq T) T.at_Step___eq__ T.fn_Step___eq__ T.b_Step___eq__ pass0 (hr.mono (by decide))) (pv 0) (pe_make T.mk_Step (ok_Step_init T D) (hr.mono (by decide)) rfl T.m_Step T.b_Step___init__ .nil passL (pa_cons (pv 1) (pa_cons (pe_callTy call_list_of (by rfl) T.z_list (by decide +kernel) (pa_cons (pv 2) pa_nil)) pa_nil))) (nomark _)) (pe_one (pe_not (pe_cmpR (op_eqI (ok_Step_eq T) T.at_Step___eq__ T.fn_Step___eq__ T.b_Step___eq__ pass0 (hr.mono (by decide))) (pv 0) (pv 4) (nomark _)))))))))), ?_⟩
    walk_at "sm"
    obtain ⟨dx, k1, o1, b1, s1, s2, s3, s4⟩ := hs
    have lm := many_le st.kd
    have ln := hok.1
    refine lc_places5 ho (by omega) fun E1 HY g1 g2 => ?_
    walk_at "sm"
    refine ⟨E1, plN st.ops, rfl, .inl (SqL.of g2), by have := plN_len st.ops; omega, fun p2 c hc _ hp2 => ⟨p2, _, c, rfl, upd_same, by have := plN_len st.ops; omega, fun ns p3 n1 n2 n3 hp3 => ?_⟩⟩
    obtain rfl := befs_uniq hok.2 n1 n2
    have e2 := (g1.trans (Evl.Ex.new hp2)).trans (Evl.Ex.new (o := .lst ((nI (befs st.ops)).map V.int)) hp3)
    refine ⟨⟨_, _, e2 _ _ s1⟩, _, _, _, e2 _ _ s1, T.ic_Step.cl, T.na_Step_kind, _, rfl, (s2.go e2).ne (hk.go e2) ⟨_, rfl, iteF ⟨_, _, _, e2 _ _ s1, T.ic_Step.cl, T.na_Step_operands, _, rfl, ?_⟩⟩⟩
    obtain ⟨os, ho1, ho2⟩ := ho
    refine ⟨os, .inr ⟨SqT.of (e2 _ _ ho1), ne_ops (s3.go (Kp.ex e2).1) ⟨os, e2 _ _ ho1, Paired.mapP ho2 fun _ _ z => z.go (Kp.ex e2).1⟩ ⟨_, rfl, iteF' (by rw [decide_eq_true rfl]; rfl) ?_⟩⟩⟩
    refine ⟨_, _, _, e2 _ _ s1, T.ic_Step.cl, T.na_Step_befores, _, rfl, p3, rfl, _, .inl ⟨SqL.of upd_same, fun t ht => ne_nats ((e2.trans (Evl.Ex.new ht)) _ _ s4) upd_same ⟨_, rfl, iteF ?_⟩⟩⟩
    have e3 := e2.trans (Evl.Ex.new (o := .tup ((nI (befs st.ops)).map V.int)) ht)
    have hos := Paired.mapP ho2 fun _ _ z => z.go (Kp.ex e3).1
    have ho3 := e3 _ _ ho1
    have hk3 := hk.go e3
    have hs3 := StpAt.go e3 ⟨dx, k1, o1, b1, s1, s2, s3, s4⟩
    refine ⟨mdSR a H q kp op st, ?_, ?_⟩
    · walk_at "sm"
      obtain ⟨o0, ops, eo⟩ : ∃ o0 ops, st.ops = o0 :: ops := by
        cases e : st.ops with
        | nil =>
          rw [e] at ln
          have := many_pos st.kd
          simp at ln
          omega
        | cons o l => exact ⟨o, l, rfl⟩
      rw [eo] at ho2
      cases ho2 with
      | @cons v0 _ os' _ f t2 =>
        obtain ⟨q0, rfl, hq0⟩ := f
        have l3 : os'.length ≤ 2 := by
          rw [paired_len t2]
          rw [eo, List.length_cons] at ln
          omega
        have chain : ∀ (H5 : Hp) (pq : Addr), Evl.Ex H H5 → OpAt H5 pq (oth o0) → (0 + 1 ≤ sizeLine ∧ ∀ (p_1 : Addr), H5 p_1 = none → rSlT K (V.ref op) (some 1) none (upd H5 p_1 (HO.lst [V.ref pq])) fun x H1 => ∃ p, x = V.ref p ∧ ∃ x, (SqL K H1 p x ∨ SqT K H1 p x) ∧ ∀ (l : Addr), H1 l = none →
            rCat (V.ref p_1) (V.ref l) (upd H1 l (HO.lst x)) fun x H1 => ∀ (x_1 dx : Addr), H1 x_1 = none → H1 dx = none → dx ≠ x_1 → spSI a [V.ref x_1, V.ref kp, x] (upd (upd H1 dx (HO.own x_1)) x_1 (HO.ins a.c_Step dx []))
              (fun v H2 => v = V.non ∧ mdSR a H q kp op st [some (V.ref q), some (V.ref kp), some (V.ref op), some (V.ref p3), some (V.ref x_1), none] H2) E0) := by
          intro H5 pq e5 hpq
          refine ⟨sz (by decide), fun p1 hp1 => ?_⟩
          have e6 := Evl.Ex.new (o := .lst [V.ref pq]) hp1
          have h6 : upd H5 p1 (.lst [V.ref pq]) p1 = some (.lst [V.ref pq]) := upd_same
          generalize upd H5 p1 (.lst [V.ref pq]) = H6 at e6 h6 ⊢
          refine ⟨op, _, rfl, SqT.of ((e5.trans e6) _ _ ho1), by rw [List.length_cons]; exact cut1 os'.length, fun p2 hp2 => ?_⟩
          rw [cut_tail (V.ref q0) l3]
          have e7 := Evl.Ex.new (o := .tup os') hp2
          have h7 : upd H6 p2 (.tup os') p2 = some (.tup os') := upd_same
          generalize upd H6 p2 (.tup os') = H7 at e7 h7 ⊢
          refine ⟨p2, rfl, os', .inr (SqT.of h7), fun l hl => ?_⟩
          have e8 := Evl.Ex.new (o := .lst os') hl
          have h8 : upd H7 l (.lst os') l = some (.lst os') := upd_same
          generalize upd H7 l (.lst os') = H8 at e8 h8 ⊢
          have e58 := (e6.trans e7).trans e8
          refine ⟨p1, l, _, _, rfl, rfl, e8 _ _ (e7 _ _ h6), h8, sz (by show 1 + os'.length ≤ 100000; omega), fun p4 hp4 => ?_⟩
          have e9 := Evl.Ex.new (o := .lst ([V.ref pq] ++ os')) hp4
          have eZ := (e5.trans e58).trans e9
          refine mk_step (s := ⟨st.kd, oth o0 :: ops⟩) (.inl (hk.go eZ)) ⟨by rw [← ln, eo]; rfl, fun o ho => ?_⟩ (.inr upd_same) (.cons ⟨pq, rfl, (hpq.go e58).go e9⟩ (Paired.mapP t2 fun _ _ z => z.go (Kp.ex eZ).1)) fun x HF eF hx => ⟨_, _, x, _, rfl, eZ.trans eF, hx, rfl, fun z => ?_⟩
          · rcases List.mem_cons.mp ho with rfl | g
            · exact oth_ok o0
            · exact hok.2 o (by rw [eo]; exact List.mem_cons_of_mem _ g)
          · rw [eo] at z
            exact oth_ne o0 (List.cons.inj z).1
        refine ix0 (e3 _ _ ho1) ⟨sz (by decide), fun m1 hm1 => ?_⟩
        refine ne_opd (o := o0) (o' := .nu 4095) ((e3.trans (Evl.Ex.new hm1)) _ _ hq0) upd_same ⟨_, rfl, ?_⟩
        by_cases e : o0 = .nu 4095
        · have eo2 : oth o0 = .gi 5 := by rw [e]; rfl
          exact iteF' (by rw [decide_eq_true e]; rfl) ⟨sz (by decide), fun m2 hm2 => chain _ m2 ((e3.trans (Evl.Ex.new hm1)).trans (Evl.Ex.new hm2)) (by rw [eo2]; exact upd_same)⟩
        · have eo2 : oth o0 = .nu 4095 := by
            cases o0 with
            | pl n => rfl
            | gi n => rfl
            | nu n =>
              show (if n = 4095 then Opd.gi 5 else .nu 4095) = .nu 4095
              rw [if_neg fun z => e (by rw [z])]
          exact iteT' (by rw [decide_eq_false e]; rfl) ⟨sz (by decide), fun m2 hm2 => chain _ m2 ((e3.trans (Evl.Ex.new hm1)).trans (Evl.Ex.new hm2)) (by rw [eo2]; exact upd_same)⟩
    · rintro σ H4 ⟨v3, v5, u, s', rfl, e4, hu, hk4, no⟩
      walk_at "sm"
      refine ⟨_, .inr (SqT.of (e4 _ _ ho1)), fun l hl => ?_⟩
      have e5 := e4.trans (Evl.Ex.new (o := .lst os) hl)
      refine mk_step (s := st) (.inl (hk.go e5)) hok (.inr upd_same) (Paired.mapP ho2 fun _ _ z => z.go (Kp.ex e5).1) fun x H6 e6 hx => ?_
      have e7 := e5.trans e6
      have hq7 : StpAt a.c_Step H6 q st := StpAt.go e7 ⟨dx, k1, o1, b1, s1, s2, s3, s4⟩
      have hu7 := (hu.go (Evl.Ex.new (o := .lst os) hl)).go e6
      obtain ⟨dx2, _, _, _, x1, _⟩ := id hx
      obtain ⟨dx3, _, _, _, x3, _⟩ := id hu7
      refine ⟨q, x, _, _, _, _, rfl, rfl, e7 _ _ s1, x1, q, x, st, st, rfl, hq7, hx, rfl, true, by rw [decide_eq_true rfl], _, rfl, iteT ⟨q, u, _, _, _, _, rfl, rfl, e7 _ _ s1, x3, q, u, st, s', rfl, hq7, hu7, hk4.symm, false, by rw [decide_eq_false (Ne.symm no)], ?_⟩⟩
      exact ⟨_, rfl, k _ e7⟩
end


/-! ### a step that is refused -/
/-- isinstance of the exception that the suite holds, made without arguments -/
def rIsR (K : PySem.W.Frag) (e : Addr) (cls : Value) (d : Option Addr) : List V → Hp → VK → Prop := fun xs H Q => ∃ (C : Addr) (c : V) (cv : Value) (b : Bool), xs = [.ref e, c] ∧ cls = .ref C ∧ ClsV c cv ∧ ExcC K C ∧ PySem.W.kitOne K (.ref C) cv = some b ∧ d = none ∧ Q (.bl b) H
theorem call_isR {X : Cx} {e : Addr} {o : Obj} {cls : Value} {d : Option Addr} {pn : List (Addr × Obj)} (hz : Zc cls d o) (hf : ∃ vs, o.data = .fields vs) : CallR (X.suite e ((e, o) :: pn)) (.builtin "isinstance") (rIsR X.K e cls d) := by
  intro pins s σ H xs us Q I r h
  obtain ⟨C, c, cv, b, rfl, rfl, hc, T, k, rfl, q⟩ := h
  obtain ⟨u1, u2, rfl, r1, r2⟩ := vals2 r
  obtain rfl : u1 = Value.ref e := r1
  obtain rfl := hc.eq r2
  obtain ⟨here, _⟩ := I.pin (e, o) (List.mem_append.mpr (.inl List.mem_cons_self))
  obtain ⟨vs, hv⟩ := hf
  have J : PySem.W.InstAt s.heap e o C none := ⟨here, hz.1, by unfold PySem.W.notCls; rw [hv] <;> rfl, by rw [hz.2] <;> trivial⟩
  exact PySem.W.kia_one (PySem.W.handS_kitx_exc T.hg T.hk T.hs T.hd T.ha T.hn T.ht T.hm) I.kIn J k (fun z => nomatch z) fun tk => ⟨.bl b, H, I.kept (t' := tk) fun _ _ z => z, rfl, q⟩
theorem bad2.go {H H' : Hp} {s : Str} {y : V} (e : Evl.Ex H H') (h : bad2 H s y) : bad2 H' s y :=
  ⟨h.1, h.2.1.go e, fun q => (h.2.2 q).imp id fun ⟨p, zs, h1, h2, h3, h4⟩ => ⟨p, zs, h1, h2.go e, fun z hz => (h3 z hz).go e, h4⟩⟩
theorem BadKd.go {H H' : Hp} {x : V} (e : Evl.Ex H H') (h : BadKd H x) : BadKd H' x := by
  rcases h with (h | h | h | ⟨p, xs, h1, h2⟩) | ⟨p, xs, ds, h1, h2, h3, h4⟩
  · exact .inl (.inl h)
  · exact .inl (.inr (.inl h))
  · exact .inl (.inr (.inr (.inl h)))
  · exact .inl (.inr (.inr (.inr ⟨p, xs, h1, e _ _ h2⟩)))
  · refine .inr ⟨p, xs, ds, h1, e _ _ h2, h3.go e, ?_⟩
    rcases h4 with h | h | h | ⟨s, y, h5, h6⟩ | h
    · exact .inl h
    · exact .inr (.inl h)
    · exact .inr (.inr (.inl h))
    · exact .inr (.inr (.inr (.inl ⟨s, y, h5, h6.go e⟩)))
    · exact .inr (.inr (.inr (.inr h)))
structure Txv (K : PySem.W.Frag) (mg : Str → Option Value) (a : Ad) : Prop where
  mU : mg "UndoError" = some (.ref a.c_UndoError)
  ex : ExcC K a.c_BadStep
  u : PySem.W.kitOne K (.ref a.c_BadStep) (.ref a.c_UndoError) = some true
  v : PySem.W.kitOne K (.ref a.c_BadStep) (.type "ValueError") = some true
  wb : PySem.W.kitOne K (.ref a.c_BadStep) (.ref a.c_BadWeb) = some false
section
variable {P : Program} {w : World} {K : PySem.W.Frag} {mg : Str → Option Value} {base : Heap} {a : Ad}
def spRF : Sp := fun vs H Q _ => ∃ (kx ox : V), vs = [kx, ox] ∧ (BadKd H kx ∨ ∃ p kd, kx = .ref p ∧ GdAt H p kd ∧ BadOps H kd ox) ∧ ∀ H', Evl.Ex H H' → Q (.bl true) H'
theorem ok_law_step_refused (T : Txt K mg a) (D : Txo w K a) (Y : Txv K mg a) : FnOk P w K mg base CX0 9 a.f_law_step_refused a.d_law_step_refused ["_law_kind_here", "_law_operands_here"] spRF := by
  refine T.F_law_step_refused.ok sc_law_step_refused (fun vs H Q E h => ?_) (fun cdv A outer s H vs Q E hr h => ?_)
  · obtain ⟨_, _, rfl, _⟩ := h
    rfl
  · obtain ⟨kx, ox, rfl, hb, k⟩ := h
    refine ⟨_, (pss_cons (ps_try_as (i := 2) (Wout := fun _ _ _ _ => False) rfl rfl sc_law_step_refused.nd rfl rfl ⟨rfl, by decide, Or.inl T.m_BadStep⟩ takes0 (fun W pn xe tk _ => (pss_one (ps_expr (pe_makeS T.mk_Step (ok_Step_init T D) (hr.mono (by decide)) rfl T.m_Step T.b_Step___init__ (fun σ => passAt tk σ) (pa_cons (pv 0) (pa_cons (pv 1) pa_nil)))))) (fun ae oe cls d pn hz hf => (pss_one (ps_ret (pe_and (pe_callB (call_isR hz hf) (by rfl) T.z_isinstance (by decide +kernel) (pa_cons (pv 2) (pa_cons (pe_glob (v := .ref a.c_UndoError) (by rfl) Y.mU (by rfl)) pa_nil))) (pe_and (pe_callB (call_isR hz hf) (by rfl) T.z_isinstance (by decide +kernel) (pa_cons (pv 2) (pa_cons (pe_bltn (v := .ty "ValueError") (by rfl) T.z_ValueError (by decide +kernel) rfl) pa_nil))) (pe_one (pe_not (pe_callB (call_isR hz hf) (by rfl) T.z_isinstance (by decide +kernel) (pa_cons (pv 2) (pa_cons (pe_glob (v := .ref a.c_BadWeb) (by rfl) T.m_BadWeb (by rfl)) pa_nil)))))))))))
  (pss_one (ps_ret pe_bl))), ?_⟩
    walk_at "sm"
    intro x dx hx hdx ne
    have e : Evl.Ex H (upd (upd H dx (.own x)) x (.ins a.c_Step dx [])) := (Evl.Ex.new hdx).trans (Evl.Ex.new (by rw [upd_ne (Ne.symm ne)]; exact hx))
    have kp := Kp.ex e
    refine ⟨x, dx, kx, ox, rfl, upd_same, .inl ⟨?_, fun H' f => ?_⟩⟩
    · rcases hb with hb | ⟨p, kd, rfl, hg, hb⟩
      · exact .inl (hb.go e)
      · refine .inr ⟨p, kd, rfl, hg.kp kp, ?_⟩
        rcases hb with ⟨h1, h2⟩ | ⟨q, xs, bs, rfl, h1, h2, h3, h4⟩
        · exact .inl ⟨h1.kp kp, h2⟩
        · exact .inr ⟨q, xs, bs, rfl, h1.kp kp, h2, Paired.mapP h3 fun _ _ z => z.kp kp, h4⟩
    · have eH : Evl.Ex H H' := fun b o h => f b o (fun z => by rw [z, hx] at h; cases h) (e _ _ h)
      refine was_true T.xe_BadStep fun ae hae => ?_
      walk_at "sm"
      exact ⟨_, _, _, true, rfl, rfl, .own _, Y.ex, Y.u, rfl, _, rfl, iteT ⟨_, _, _, true, rfl, rfl, .ty _, Y.ex, Y.v, rfl, _, rfl, iteT ⟨_, _, _, false, rfl, rfl, .own _, Y.ex, Y.wb, rfl, _, rfl, k _ eH⟩⟩⟩
end


/-! ### what the words of a web come to, told -/
section
variable {P : Program} {w : World} {K : PySem.W.Frag} {mg : Str → Option Value} {base : Heap} {a : Ad}
theorem okW_of {wd : Nat} {z : Int} (h : 0 ≤ z ∧ z < 2 ^ wd) : okW wd (.int z) = true := by
  show (decide ((0 : Int) ≤ z) && decide (z ≤ 2 ^ wd - 1)) = true
  rw [decide_eq_true h.1, decide_eq_true (show z ≤ 2 ^ wd - 1 by omega)]
  rfl
/-- inputs that are wrong: where, and what -/
def BadI (H : Hp) (m wd : Nat) (ix : V) (i : Int) (what : Str) : Prop := (sqV ix = false ∧ i = -1 ∧ what = "many") ∨ ∃ p xs, ix = .ref p ∧ SqAt H p xs ∧ xs.length ≤ 100 ∧ (∀ y ∈ xs, PlainV H y) ∧ ((xs.length ≠ m ∧ i = -1 ∧ what = "many") ∨
  (xs.length = m ∧ what = "word" ∧ ∃ (n : Nat) (y : V), i = n ∧ xs[n]? = some y ∧ okW wd y = false ∧ ∀ (j : Nat) (z : V), j < n → xs[j]? = some z → okW wd z = true))
def spIT (a : Ad) : Sp := fun vs H Q _ => ∃ (x : Addr) (wd m : Nat) (sts : List Stp) (ix : V), vs = [.ref x, ix] ∧ WebAt a H x wd m sts ∧ wd ≤ 12 ∧ PlainV H ix ∧ 1 ≤ sts.length ∧ sts.length ≤ 200 ∧ FitW m 0 sts ∧ m ≤ 100 ∧
  ((∃ i what, BadI H m wd ix i what ∧ ∀ q H', Evl.Ex H H' → H' q = some (.tup [.str "bad", .int i, .str what]) → Q (.ref q) H') ∨
    ∃ p inp, ix = .ref p ∧ SqAt H p (inp.map V.int) ∧ rng wd inp ∧ inp.length = m ∧ ∀ q t H', Evl.Ex H H' → H' q = some (.tup [.str "words", .ref t, .int (((runW inp wd sts [])[sts.length - 1]?).getD 0)]) → H' t = some (.tup ((runW inp wd sts []).map V.int)) → Q (.ref q) H')
theorem ok_law_inputs_told (T : Txt K mg a) : FnOk P w K mg base CX0 6 a.f_law_inputs_told a.d_law_inputs_told ["_law_made", "_law_inputs"] (spIT a) := by
  refine T.F_law_inputs_told.ok sc_law_inputs_told (fun vs H Q E h => ?_) (fun cdv A outer s H vs Q E hr h => ?_)
  · obtain ⟨_, _, _, _, _, rfl, _⟩ := h
    rfl
  · obtain ⟨x, wd, m, sts, ix, rfl, hW, hw, hix, l1, l2, hfit, lm, hc⟩ := h
    refine ⟨_, (pss_one (ps_try_as (i := 2) (Wout := fun _ _ _ _ => False) rfl rfl sc_law_inputs_told.nd rfl rfl ⟨rfl, by decide, Or.inl T.m_BadInputs⟩ takes0 (fun W pn xe tk _ => (pss_one (ps_ret (pe_tup (pa_cons pe_str (pa_cons (pe_callS (ok_web_worths T) (hr.mono (by decide)) rfl T.m_web_worths T.F_web_worths.kp T.b_web_worths (fun σ => passAt tk σ) (pa_cons (pv 0) (pa_cons (pv 1) pa_nil))) (pa_cons (pe_callS (ok_web_worth T) (hr.mono (by decide)) rfl T.m_web_worth T.F_web_worth.kp T.b_web_worth (fun σ => passAt tk σ) (pa_cons (pv 0) (pa_cons (pv 1) pa_nil))) pa_nil))))))) (fun ae oe cls d pn hz hf => (pss_one (ps_ret (pe_tup (pa_cons pe_str (pa_cons (pe_xf T.xf_BadInputs T.xn_BadInputs_index hz hf (pv 2)) (pa_cons (pe_xf T.xf_BadInputs T.xn_BadInputs_what hz hf (pv 2)) pa_nil))))))))), ?_⟩
    walk_at "sm"
    refine ⟨x, wd, m, sts, ix, rfl, hW, hw, hix, l2, hfit, ?_⟩
    rcases hc with ⟨i, what, hb, k⟩ | ⟨p, inp, rfl, hp, hr2, li, k⟩
    · have out : RzI a.c_BadInputs H (WE (wAs K (Value.ref a.c_BadInputs) 2 (fun ae cls d => tRet (tTup (tCons (tC (V.str "bad")) (tCons (tXf ae cls d a.c_BadInputs "index" (tVar 2)) (tCons (tXf ae cls d a.c_BadInputs "what" (tVar 2)) tNil))))) (fun x x_1 x_2 x_3 => False) { nx := fun x H' => Q V.non H', rt := Q })
          [some (V.ref x), some ix, none]) i what := by
        intro d HW2 eW hd
        refine was_true T.xe_BadInputs fun e he => ?_
        walk_at "sm"
        exact ⟨_, hd, _, rfl, _, hd, _, rfl, sz (by decide), fun f hf => k f _ (eW.trans (Evl.Ex.new hf)) upd_same⟩
      rcases hb with ⟨h1, rfl, rfl⟩ | ⟨p, xs, rfl, hp, hl, hpl, ⟨h1, rfl, rfl⟩ | ⟨h1, rfl, n, y, rfl, hy, hbad, hgood⟩⟩
      · exact .inl ⟨h1, out⟩
      · exact .inr ⟨p, xs, rfl, hp, hl, hpl, fun _ => out, fun z => absurd z h1, fun inp e _ l3 => absurd (by rw [e, List.length_map]; exact l3) h1⟩
      · refine .inr ⟨p, xs, rfl, hp, hl, hpl, fun z => absurd h1 z, fun _ i2 y2 hi2 hg2 hb2 => ?_, fun inp e hr3 l3 => ?_⟩
        · have e : i2 = n := by
            rcases Nat.lt_trichotomy i2 n with h | h | h
            · rw [hgood i2 y2 h hi2] at hb2; cases hb2
            · exact h
            · rw [hg2 n y h hy] at hbad; cases hbad
          rw [e]; exact out
        · rw [e] at hy
          obtain ⟨z, hz, rfl⟩ := int_at hy
          exact absurd hbad (by rw [okW_of (hr3 z (List.mem_of_getElem? hz))]; decide)
    · have pl : ∀ y ∈ inp.map V.int, PlainV H y := ints_plain inp
      refine .inr ⟨p, _, rfl, hp, by rw [List.length_map]; omega, pl, fun ne => absurd (by rw [List.length_map]; exact li) ne, fun _ i y hy hj hb => ?_, fun inp2 e2 hr3 l3 q H' e hq => ?_⟩
      · obtain ⟨z, hz, rfl⟩ := int_at hy
        exact absurd hb (by rw [okW_of (hr2 z (List.mem_of_getElem? hz))]; decide)
      · obtain rfl : inp = inp2 := ints_inj e2
        exact ⟨x, wd, m, sts, .ref p, rfl, hW.go e, hw, hix.go e, l1, l2, hfit, p, inp, rfl, hp.go e, hr2, li, lm, fun H2 e3 => ⟨sz (by decide), fun t ht => k t q _ ((e.trans e3).trans (Evl.Ex.new ht)) upd_same ((Evl.Ex.new ht) _ _ (e3 _ _ hq))⟩⟩
end


/-! ### rows drawn: chains -/
theorem fr_kp {H H' : Hp} {p c : Addr} (f : Fr p H H') (hh : HandAt H p c) : ∀ b xs, H b = some (.tup xs) → H' b = some (.tup xs) := fun b xs h => by
  obtain ⟨ys, hp⟩ := hand_lst hh
  exact f b _ (fun z => by rw [z, hp] at h; cases h) h
theorem KdAt.tp {H H' : Hp} {p : Addr} {k : Kd} (e : ∀ b xs, H b = some (.tup xs) → H' b = some (.tup xs)) (h : KdAt H p k) : KdAt H' p k := by
  cases k with
  | pr k => exact e _ _ h
  | pick => exact e _ _ h
  | same => exact e _ _ h
  | sh l n => exact ⟨e _ _ h.1, h.2⟩
  | tab ns => obtain ⟨t, h1, h2, h3⟩ := h; exact ⟨t, e _ _ h1, e _ _ h2, h3⟩
theorem rowS.tp {H H' : Hp} {v : V} {s : Stp} (e : ∀ b xs, H b = some (.tup xs) → H' b = some (.tup xs)) (h : rowS H v s) : rowS H' v s := by
  obtain ⟨p, kp, op, h1, h2, h3, h4⟩ := h
  exact ⟨p, kp, op, h1, e _ _ h2, h3.tp e, h4.go e⟩
/-- a hand beside: what is new stands apart from it -/
theorem hand_new {H HX : Hp} {p c q : Addr} {o : HO} (f : Fr p H HX) (h : HandAt HX p c) (hq : HX q = none) : Fr p H (upd HX q o) ∧ HandAt (upd HX q o) p c ∧ q ≠ p := by
  obtain ⟨ys, hy⟩ := hand_lst h
  have n : q ≠ p := fun z => by rw [z, hy] at hq; cases hq
  exact ⟨f.mut2 hq n, h.upd (h.lt hq) (h.lc hq), n⟩
section
variable {P : Program} {w : World} {K : PySem.W.Frag} {mg : Str → Option Value} {base : Heap} {a : Ad}
def spCh : Sp := fun vs H Q _ => ∃ (p c : Addr) (m n : Nat), vs = [.ref p, .int m, .int n] ∧ HandAt H p c ∧ m ≤ 6 ∧ 1 ≤ n ∧ n ≤ 201 ∧ ∀ l sts H', Fr p H H' → HandAt H' p c → RowsS H' l sts → l ≠ p → sts.length = n → (∀ s ∈ sts, s.ok) → Q (.ref l) H'
def ivCh (H : Hp) (p c l : Addr) (m n : Nat) : Nat → L2.St → Hp → Prop := fun i σ H' => ∃ (v4 : Option V) (xs : List V) (sts : List Stp), σ = [some (.ref p), some (.int m), some (.int n), some (.ref l), v4] ∧ Fr p H H' ∧ HandAt H' p c ∧ H' l = some (.lst xs) ∧ Paired (rowS H') xs sts ∧ sts.length = i + 1 ∧ ∀ s ∈ sts, s.ok
theorem ok_law_chain_steps (T : Txt K mg a) : FnOk P w K mg base CX0 4 a.f_law_chain_steps a.d_law_chain_steps ["_law_hand_here", "_law_many", "_law_steps"] spCh := by
  refine T.F_law_chain_steps.ok sc_law_chain_steps (fun vs H Q E h => ?_) (fun cdv A outer s H vs Q E hr h => ?_)
  · obtain ⟨_, _, _, _, rfl, _⟩ := h
    rfl
  · obtain ⟨p, c, m, n, rfl, hh, hm, n1, n2, k⟩ := h
    refine ⟨_, (pss_cons (ps_set (i := 3) sc_law_chain_steps.nd rfl (by first | exact Or.inl rfl | exact Or.inr rfl) (pe_lst (pa_cons (pe_tup (pa_cons (pe_tup (pa_cons pe_str pa_nil)) (pa_cons (pe_tup (pa_cons (pe_tup (pa_cons pe_str (pa_cons (pe_call (ok_law_take T) (hr.mono (by decide)) rfl T.m_law_take T.F_law_take.kp T.b_law_take .nil pass0 (pa_cons (pv 0) (pa_cons pe_int pa_nil))) pa_nil))) pa_nil)) pa_nil))) pa_nil)))
  (pss_cons (ps_for PassesOwn.never rfl (pi_range2 (by rfl) T.z_range (pa_cons pe_int (pa_cons (pv 2) pa_nil))) (pg_name (i := 4) sc_law_chain_steps.nd rfl (by first | exact Or.inl rfl | exact Or.inr rfl)) (pss_one (ps_expr (pe_bm PySem.F.plainAttrs_list PySem.F.slot_list_append PySem.F.type_list_append mt_append (pv 3) (pa_cons (pe_tup (pa_cons (pe_tup (pa_cons pe_str pa_nil)) (pa_cons (pe_tup (pa_cons (pe_tup (pa_cons pe_str (pa_cons (pe_op op_sub (pv 4) pe_int) pa_nil))) (pa_cons (pe_call (ok_law_operand T) (hr.mono (by decide)) rfl T.m_law_operand T.F_law_operand.kp T.b_law_operand .nil pass0 (pa_cons (pv 0) (pa_cons (pv 4) (pa_cons (pv 1) pa_nil)))) pa_nil))) pa_nil))) pa_nil)))))
  (pss_one (ps_ret (pv 3))))), ?_⟩
    walk_at "sm"
    refine ⟨sz (by decide), fun t1 ht1 => ?_⟩
    obtain ⟨g1, h1, e1⟩ := hand_new (o := .tup [.str "same"]) (Fr.refl H) hh ht1
    have k1 : upd H t1 (.tup [.str "same"]) t1 = some (.tup [.str "same"]) := upd_same
    generalize upd H t1 (.tup [.str "same"]) = H1 at g1 h1 k1 ⊢
    refine tk h1 (by decide) (by decide) fun r H2 r1 r2 f2 h2 => ?_
    have k2 := fr_kp f2 h1 _ _ k1
    have g2 := g1.trans f2
    walk_at "sm"
    refine ⟨sz (by decide), fun t2 ht2 => ?_⟩
    obtain ⟨g3, h3, e3⟩ := hand_new (o := .tup [.str "number", .int r]) g2 h2 ht2
    have x3 := Evl.Ex.new (o := .tup [.str "number", .int r]) ht2
    have o3 : upd H2 t2 (.tup [.str "number", .int r]) t2 = some (.tup [.str "number", .int r]) := upd_same
    generalize upd H2 t2 (.tup [.str "number", .int r]) = H3 at g3 h3 x3 o3 ⊢
    refine ⟨sz (by decide), fun t3 ht3 => ?_⟩
    obtain ⟨g4, h4, e4⟩ := hand_new (o := .tup [.ref t2]) g3 h3 ht3
    have x4 := Evl.Ex.new (o := .tup [.ref t2]) ht3
    have o4 : upd H3 t3 (.tup [.ref t2]) t3 = some (.tup [.ref t2]) := upd_same
    generalize upd H3 t3 (.tup [.ref t2]) = H4 at g4 h4 x4 o4 ⊢
    refine ⟨sz (by decide), fun t4 ht4 => ?_⟩
    obtain ⟨g5, h5, e5⟩ := hand_new (o := .tup [.ref t1, .ref t3]) g4 h4 ht4
    have x5 := Evl.Ex.new (o := .tup [.ref t1, .ref t3]) ht4
    have o5 : upd H4 t4 (.tup [.ref t1, .ref t3]) t4 = some (.tup [.ref t1, .ref t3]) := upd_same
    generalize upd H4 t4 (.tup [.ref t1, .ref t3]) = H5 at g5 h5 x5 o5 ⊢
    refine ⟨sz (by decide), fun l hl => ?_⟩
    obtain ⟨g6, h6, e6⟩ := hand_new (o := .lst [.ref t4]) g5 h5 hl
    have lc : l ≠ c := h5.lc hl
    have hfl : ∀ u, H l = some u → False := fun u z => by
      have := g5 l u e6 z
      rw [hl] at this
      cases this
    have x6 := Evl.Ex.new (o := .lst [.ref t4]) hl
    have o6 : upd H5 l (.lst [.ref t4]) l = some (.lst [.ref t4]) := upd_same
    generalize upd H5 l (.lst [.ref t4]) = H6 at g6 h6 x6 o6 ⊢
    have er : r = ((r.toNat : Nat) : Int) := by omega
    have row0 : rowS H6 (.ref t4) ⟨.same, [.nu r.toNat]⟩ := by
      refine ⟨t4, t1, t3, rfl, x6 _ _ o5, x6 _ _ (x5 _ _ (x4 _ _ (x3 _ _ k2))), [.ref t2], x6 _ _ (x5 _ _ o4), .cons ⟨t2, rfl, ?_⟩ .nil⟩
      have := x6 _ _ (x5 _ _ (x4 _ _ o3))
      rw [er] at this
      exact this
    have ok0 : ∀ s ∈ [(⟨.same, [.nu r.toNat]⟩ : Stp)], s.ok := fun s hs => by
      rw [List.mem_singleton.mp hs]
      refine ⟨rfl, fun o ho => ?_⟩
      rw [List.mem_singleton.mp ho]
      show r.toNat ≤ 4095
      omega
    refine ⟨_, rfl, _, _, rfl, ⟨by omega, by omega, by omega, by omega⟩, for_range (lo := 1) (n := ((n : Int) - 1).toNat) (ivCh H p c l m n) ⟨none, _, [⟨.same, [.nu r.toNat]⟩], rfl, g6, h6, o6, .cons row0 .nil, rfl, ok0⟩ ?_ ?_⟩
    · rintro i σ HX hi ⟨v4, xs, sts, rfl, f1, hx, hlx, hrow, hlen, hok⟩
      have i200 : i < 200 := by omega
      walk_at "sm"
      refine ⟨(show tyV K "list" (.ref l) HX from .inl ⟨rfl, _, SqL.of hlx⟩), sz (by decide), fun t1 ht1 => ?_⟩
      obtain ⟨g1, h1, _⟩ := hand_new (o := .tup [.str "+"]) f1 hx ht1
      have x1 := Evl.Ex.new (o := .tup [.str "+"]) ht1
      have o1 : upd HX t1 (.tup [.str "+"]) t1 = some (.tup [.str "+"]) := upd_same
      generalize upd HX t1 (.tup [.str "+"]) = H1 at g1 h1 x1 o1 ⊢
      refine ⟨sz (by decide), fun t2 ht2 => ?_⟩
      rw [show (1 : Int) + (i : Int) - 1 = ((i : Nat) : Int) by omega, show (1 : Int) + (i : Int) = ((i + 1 : Nat) : Int) by omega] at *
      obtain ⟨g2, h2, _⟩ := hand_new (o := .tup [.str "place", .int (i : Nat)]) g1 h1 ht2
      have x2 := Evl.Ex.new (o := .tup [.str "place", .int (i : Nat)]) ht2
      have o2 : upd H1 t2 (.tup [.str "place", .int (i : Nat)]) t2 = some (.tup [.str "place", .int (i : Nat)]) := upd_same
      generalize upd H1 t2 (.tup [.str "place", .int (i : Nat)]) = H2 at g2 h2 x2 o2 ⊢
      refine ⟨p, c, i + 1, m, rfl, h2, by omega, hm, fun r o H3 f3 h3 hr3 ok3 ft3 => ⟨sz (by decide), fun t3 ht3 => ?_⟩⟩
      have k3 := fr_kp f3 h2
      obtain ⟨g4, h4, _⟩ := hand_new (o := .tup [.ref t2, .ref r]) (g2.trans f3) h3 ht3
      have x4 := Evl.Ex.new (o := .tup [.ref t2, .ref r]) ht3
      have o4 : upd H3 t3 (.tup [.ref t2, .ref r]) t3 = some (.tup [.ref t2, .ref r]) := upd_same
      generalize upd H3 t3 (.tup [.ref t2, .ref r]) = H4 at g4 h4 x4 o4 ⊢
      refine ⟨sz (by decide), fun t4 ht4 => ?_⟩
      obtain ⟨g5, h5, _⟩ := hand_new (o := .tup [.ref t1, .ref t3]) g4 h4 ht4
      have x5 := Evl.Ex.new (o := .tup [.ref t1, .ref t3]) ht4
      have o5 : upd H4 t4 (.tup [.ref t1, .ref t3]) t4 = some (.tup [.ref t1, .ref t3]) := upd_same
      generalize upd H4 t4 (.tup [.ref t1, .ref t3]) = H5 at g5 h5 x5 o5 ⊢
      have l5 := x5 _ _ (x4 _ _ (f3 _ _ e6 (x2 _ _ (x1 _ _ hlx))))
      have tup5 : ∀ b ys, HX b = some (.tup ys) → H5 b = some (.tup ys) := fun b ys h => x5 _ _ (x4 _ _ (k3 _ _ (x2 _ _ (x1 _ _ h))))
      have lxs := paired_len hrow
      have tk : ∀ b ys, H5 b = some (.tup ys) → upd H5 l (.lst (xs ++ [.ref t4])) b = some (.tup ys) := fun b ys h => by
        rw [upd_ne (fun z => by rw [z, l5] at h; cases h)]
        exact h
      have rowN : rowS H5 (.ref t4) ⟨.pr .add, [.pl i, o]⟩ := ⟨t4, t1, t3, rfl, o5, x5 _ _ (x4 _ _ (k3 _ _ (x2 _ _ o1))), [.ref t2, .ref r], x5 _ _ o4, .cons ⟨t2, rfl, x5 _ _ (x4 _ _ (k3 _ _ o2))⟩ (.cons ⟨r, rfl, (hr3.go x4).go x5⟩ .nil)⟩
      refine ⟨l, _, _, rfl, rfl, l5, Nat.lt_of_le_of_lt (show _ ≤ 300 by omega) (by decide), some (.int ((i + 1 : Nat) : Int)), xs ++ [.ref t4], sts ++ [⟨.pr .add, [.pl i, o]⟩], rfl, fun b u nb h => ?_, h5.upd e6 ?_, upd_same, Paired.snoc (rowN.tp tk) (Paired.mapP hrow fun _ _ z => (z.tp tup5).tp tk), by rw [List.length_append, hlen]; rfl, fun s hs => ?_⟩
      · rw [upd_ne (fun z => ?_)]
        · exact g5 b u nb h
        · rw [z] at h
          exact hfl _ h
      · exact lc
      · rcases List.mem_append.mp hs with g | g
        · exact hok s g
        · rw [List.mem_singleton.mp g]
          refine ⟨rfl, fun u hu => ?_⟩
          rcases List.mem_cons.mp hu with rfl | hu
          · show i ≤ 199
            omega
          · rw [List.mem_singleton.mp hu]
            exact ok3
    · rintro σ HX ⟨v4, xs, sts, rfl, f1, hx, hlx, hrow, hlen, hok⟩
      exact ⟨_, rfl, k l sts HX f1 hx ⟨xs, hlx, hrow⟩ e6 (by omega) hok⟩
end


/-! ### the odd operands -/
theorem PlainV.frh {H H' : Hp} {p c : Addr} {x : V} (f : Fr p H H') (h1 : HandAt H p c) (h2 : HandAt H' p c) (h : PlainV H x) : PlainV H' x := by
  have e := fr_kp f h1
  rcases h with h | h | h | h | ⟨q, xs, h, r⟩ | ⟨q, xs, h, r⟩
  · exact .inl h
  · exact .inr (.inl h)
  · exact .inr (.inr (.inl h))
  · exact .inr (.inr (.inr (.inl h)))
  · exact .inr (.inr (.inr (.inr (.inl ⟨q, xs, h, e _ _ r⟩))))
  · by_cases z : q = p
    · obtain ⟨ys, hy⟩ := hand_lst h2
      exact .inr (.inr (.inr (.inr (.inr ⟨q, ys, h, by rw [z]; exact hy⟩))))
    · exact .inr (.inr (.inr (.inr (.inr ⟨q, xs, h, f _ _ z r⟩))))
theorem OpV.frh {H H' : Hp} {p c : Addr} {x : V} {b : Bool} (f : Fr p H H') (h1 : HandAt H p c) (h2 : HandAt H' p c) (h : OpV H x b) : OpV H' x b := by
  have e := fr_kp f h1
  rcases h with ⟨k1, h | h | h | ⟨q, xs, k2, k3, k4⟩⟩ | ⟨q, s, z, m, k1, k2, k3, k4, k5⟩
  · exact .inl ⟨k1, .inl h⟩
  · exact .inl ⟨k1, .inr (.inl h)⟩
  · exact .inl ⟨k1, .inr (.inr (.inl h))⟩
  · exact .inl ⟨k1, .inr (.inr (.inr ⟨q, xs, k2, e _ _ k3, k4⟩))⟩
  · exact .inr ⟨q, s, z, m, k1, e _ _ k2, k3, k4.frh f h1 h2, k5⟩
section
variable {P : Program} {w : World} {K : PySem.W.Frag} {mg : Str → Option Value} {base : Heap} {a : Ad}
def spOO : Sp := fun vs H Q _ => ∃ (p c : Addr), vs = [.ref p] ∧ HandAt H p c ∧ ∀ x H', Fr p H H' → HandAt H' p c → OpV H' x false → Q x H'
theorem ok_law_odd_operand (T : Txt K mg a) : FnOk P w K mg base CX0 4 a.f_law_odd_operand a.d_law_odd_operand ["_law_hand_here"] spOO := by
  refine T.F_law_odd_operand.ok sc_law_odd_operand (fun vs H Q E h => ?_) (fun cdv A outer s H vs Q E hr h => ?_)
  · obtain ⟨_, _, rfl, _⟩ := h
    rfl
  · obtain ⟨p, c, rfl, hh, k⟩ := h
    refine ⟨_, (pss_one (ps_ret (pe_call (ok_law_pick T) (hr.mono (by decide)) rfl T.m_law_pick T.F_law_pick.kp T.b_law_pick .nil pass0 (pa_cons (pv 0) (pa_cons (pe_lst (pa_cons pe_non (pa_cons (pe_tup (pa_cons pe_str pa_nil)) (pa_cons (pe_tup (pa_cons pe_str (pa_cons pe_int pa_nil))) (pa_cons (pe_tup (pa_cons pe_str (pa_cons (pe_un un_neg pe_int) pa_nil))) (pa_cons (pe_tup (pa_cons pe_str (pa_cons pe_bl pa_nil))) (pa_cons (pe_tup (pa_cons pe_str (pa_cons pe_int pa_nil))) (pa_cons (pe_tup (pa_cons pe_str (pa_cons (pe_un un_neg pe_int) pa_nil))) (pa_cons (pe_tup (pa_cons pe_str (pa_cons pe_non pa_nil))) (pa_cons (pe_tup (pa_cons pe_str (pa_cons pe_int pa_nil))) (pa_cons (pe_tup (pa_cons pe_str (pa_cons (pe_un un_neg pe_int) pa_nil))) (pa_cons (pe_tup (pa_cons pe_str (pa_cons pe_non pa_nil))) (pa_cons (pe_tup (pa_cons pe_str (pa_cons pe_int pa_nil))) (pa_cons (pe_tup (pa_cons pe_int (pa_cons pe_int pa_nil))) (pa_cons (pe_tup (pa_cons pe_str (pa_cons pe_int (pa_cons pe_int pa_nil)))) (pa_cons pe_str (pa_cons pe_int (pa_cons (pe_tup pa_nil) pa_nil)))))))))))))))))) pa_nil))))), ?_⟩
    walk_at "sm"
    refine ⟨sz (by decide), fun t1 ht1 => ?_⟩
    obtain ⟨g1, h1, _⟩ := hand_new (o := .tup [.str "place"]) (Fr.refl H) hh ht1
    have x1 := Evl.Ex.new (o := .tup [.str "place"]) ht1
    have o1 : upd H t1 (.tup [.str "place"]) t1 = some (.tup [.str "place"]) := upd_same
    generalize upd H t1 (.tup [.str "place"]) = H1 at g1 h1 x1 o1 ⊢
    refine ⟨sz (by decide), fun t2 ht2 => ?_⟩
    obtain ⟨g2, h2, _⟩ := hand_new (o := .tup [.str "place", .int 200]) g1 h1 ht2
    have x2 := Evl.Ex.new (o := .tup [.str "place", .int 200]) ht2
    have o2 : upd H1 t2 (.tup [.str "place", .int 200]) t2 = some (.tup [.str "place", .int 200]) := upd_same
    generalize upd H1 t2 (.tup [.str "place", .int 200]) = H2 at g2 h2 x2 o2 ⊢
    refine ⟨sz (by decide), fun t3 ht3 => ?_⟩
    obtain ⟨g3, h3, _⟩ := hand_new (o := .tup [.str "place", .int (-1)]) g2 h2 ht3
    have x3 := Evl.Ex.new (o := .tup [.str "place", .int (-1)]) ht3
    have o3 : upd H2 t3 (.tup [.str "place", .int (-1)]) t3 = some (.tup [.str "place", .int (-1)]) := upd_same
    generalize upd H2 t3 (.tup [.str "place", .int (-1)]) = H3 at g3 h3 x3 o3 ⊢
    refine ⟨sz (by decide), fun t4 ht4 => ?_⟩
    obtain ⟨g4, h4, _⟩ := hand_new (o := .tup [.str "place", .bl true]) g3 h3 ht4
    have x4 := Evl.Ex.new (o := .tup [.str "place", .bl true]) ht4
    have o4 : upd H3 t4 (.tup [.str "place", .bl true]) t4 = some (.tup [.str "place", .bl true]) := upd_same
    generalize upd H3 t4 (.tup [.str "place", .bl true]) = H4 at g4 h4 x4 o4 ⊢
    refine ⟨sz (by decide), fun t5 ht5 => ?_⟩
    obtain ⟨g5, h5, _⟩ := hand_new (o := .tup [.str "given", .int 6]) g4 h4 ht5
    have x5 := Evl.Ex.new (o := .tup [.str "given", .int 6]) ht5
    have o5 : upd H4 t5 (.tup [.str "given", .int 6]) t5 = some (.tup [.str "given", .int 6]) := upd_same
    generalize upd H4 t5 (.tup [.str "given", .int 6]) = H5 at g5 h5 x5 o5 ⊢
    refine ⟨sz (by decide), fun t6 ht6 => ?_⟩
    obtain ⟨g6, h6, _⟩ := hand_new (o := .tup [.str "given", .int (-1)]) g5 h5 ht6
    have x6 := Evl.Ex.new (o := .tup [.str "given", .int (-1)]) ht6
    have o6 : upd H5 t6 (.tup [.str "given", .int (-1)]) t6 = some (.tup [.str "given", .int (-1)]) := upd_same
    generalize upd H5 t6 (.tup [.str "given", .int (-1)]) = H6 at g6 h6 x6 o6 ⊢
    refine ⟨sz (by decide), fun t7 ht7 => ?_⟩
    obtain ⟨g7, h7, _⟩ := hand_new (o := .tup [.str "given", .non]) g6 h6 ht7
    have x7 := Evl.Ex.new (o := .tup [.str "given", .non]) ht7
    have o7 : upd H6 t7 (.tup [.str "given", .non]) t7 = some (.tup [.str "given", .non]) := upd_same
    generalize upd H6 t7 (.tup [.str "given", .non]) = H7 at g7 h7 x7 o7 ⊢
    refine ⟨sz (by decide), fun t8 ht8 => ?_⟩
    obtain ⟨g8, h8, _⟩ := hand_new (o := .tup [.str "number", .int 4096]) g7 h7 ht8
    have x8 := Evl.Ex.new (o := .tup [.str "number", .int 4096]) ht8
    have o8 : upd H7 t8 (.tup [.str "number", .int 4096]) t8 = some (.tup [.str "number", .int 4096]) := upd_same
    generalize upd H7 t8 (.tup [.str "number", .int 4096]) = H8 at g8 h8 x8 o8 ⊢
    refine ⟨sz (by decide), fun t9 ht9 => ?_⟩
    obtain ⟨g9, h9, _⟩ := hand_new (o := .tup [.str "number", .int (-1)]) g8 h8 ht9
    have x9 := Evl.Ex.new (o := .tup [.str "number", .int (-1)]) ht9
    have o9 : upd H8 t9 (.tup [.str "number", .int (-1)]) t9 = some (.tup [.str "number", .int (-1)]) := upd_same
    generalize upd H8 t9 (.tup [.str "number", .int (-1)]) = H9 at g9 h9 x9 o9 ⊢
    refine ⟨sz (by decide), fun t10 ht10 => ?_⟩
    obtain ⟨g10, h10, _⟩ := hand_new (o := .tup [.str "number", .non]) g9 h9 ht10
    have x10 := Evl.Ex.new (o := .tup [.str "number", .non]) ht10
    have o10 : upd H9 t10 (.tup [.str "number", .non]) t10 = some (.tup [.str "number", .non]) := upd_same
    generalize upd H9 t10 (.tup [.str "number", .non]) = H10 at g10 h10 x10 o10 ⊢
    refine ⟨sz (by decide), fun t11 ht11 => ?_⟩
    obtain ⟨g11, h11, _⟩ := hand_new (o := .tup [.str "word", .int 0]) g10 h10 ht11
    have x11 := Evl.Ex.new (o := .tup [.str "word", .int 0]) ht11
    have o11 : upd H10 t11 (.tup [.str "word", .int 0]) t11 = some (.tup [.str "word", .int 0]) := upd_same
    generalize upd H10 t11 (.tup [.str "word", .int 0]) = H11 at g11 h11 x11 o11 ⊢
    refine ⟨sz (by decide), fun t12 ht12 => ?_⟩
    obtain ⟨g12, h12, _⟩ := hand_new (o := .tup [.int 0, .int 0]) g11 h11 ht12
    have x12 := Evl.Ex.new (o := .tup [.int 0, .int 0]) ht12
    have o12 : upd H11 t12 (.tup [.int 0, .int 0]) t12 = some (.tup [.int 0, .int 0]) := upd_same
    generalize upd H11 t12 (.tup [.int 0, .int 0]) = H12 at g12 h12 x12 o12 ⊢
    refine ⟨sz (by decide), fun t13 ht13 => ?_⟩
    obtain ⟨g13, h13, _⟩ := hand_new (o := .tup [.str "place", .int 0, .int 0]) g12 h12 ht13
    have x13 := Evl.Ex.new (o := .tup [.str "place", .int 0, .int 0]) ht13
    have o13 : upd H12 t13 (.tup [.str "place", .int 0, .int 0]) t13 = some (.tup [.str "place", .int 0, .int 0]) := upd_same
    generalize upd H12 t13 (.tup [.str "place", .int 0, .int 0]) = H13 at g13 h13 x13 o13 ⊢
    refine ⟨sz (by decide), fun t14 ht14 => ?_⟩
    obtain ⟨g14, h14, _⟩ := hand_new (o := .tup []) g13 h13 ht14
    have x14 := Evl.Ex.new (o := .tup []) ht14
    have o14 : upd H13 t14 (.tup []) t14 = some (.tup []) := upd_same
    generalize upd H13 t14 (.tup []) = H14 at g14 h14 x14 o14 ⊢
    refine ⟨sz (by decide), fun l hl => ?_⟩
    obtain ⟨gl, hhl, nl⟩ := hand_new (o := .lst [V.non, V.ref t1, V.ref t2, V.ref t3, V.ref t4, V.ref t5, V.ref t6, V.ref t7, V.ref t8, V.ref t9, V.ref t10, V.ref t11, V.ref t12, V.ref t13, V.str "place", V.int 5, V.ref t14]) g14 h14 hl
    have xl := Evl.Ex.new (o := .lst [V.non, V.ref t1, V.ref t2, V.ref t3, V.ref t4, V.ref t5, V.ref t6, V.ref t7, V.ref t8, V.ref t9, V.ref t10, V.ref t11, V.ref t12, V.ref t13, V.str "place", V.int 5, V.ref t14]) hl
    have ol : upd H14 l (.lst [V.non, V.ref t1, V.ref t2, V.ref t3, V.ref t4, V.ref t5, V.ref t6, V.ref t7, V.ref t8, V.ref t9, V.ref t10, V.ref t11, V.ref t12, V.ref t13, V.str "place", V.int 5, V.ref t14]) l = some (.lst [V.non, V.ref t1, V.ref t2, V.ref t3, V.ref t4, V.ref t5, V.ref t6, V.ref t7, V.ref t8, V.ref t9, V.ref t10, V.ref t11, V.ref t12, V.ref t13, V.str "place", V.int 5, V.ref t14]) := upd_same
    generalize upd H14 l (.lst [V.non, V.ref t1, V.ref t2, V.ref t3, V.ref t4, V.ref t5, V.ref t6, V.ref t7, V.ref t8, V.ref t9, V.ref t10, V.ref t11, V.ref t12, V.ref t13, V.str "place", V.int 5, V.ref t14]) = HL at gl hhl xl ol ⊢
    have all : ∀ y ∈ [V.non, V.ref t1, V.ref t2, V.ref t3, V.ref t4, V.ref t5, V.ref t6, V.ref t7, V.ref t8, V.ref t9, V.ref t10, V.ref t11, V.ref t12, V.ref t13, V.str "place", V.int 5, V.ref t14], OpV HL y false := by
      intro y hy
      simp only [List.mem_cons, List.not_mem_nil, or_false] at hy
      rcases hy with rfl | rfl | rfl | rfl | rfl | rfl | rfl | rfl | rfl | rfl | rfl | rfl | rfl | rfl | rfl | rfl | rfl
      · exact .inl ⟨rfl, .inl rfl⟩
      · exact .inl ⟨rfl, .inr (.inr (.inr ⟨t1, _, rfl, (xl _ _ (x14 _ _ (x13 _ _ (x12 _ _ (x11 _ _ (x10 _ _ (x9 _ _ (x8 _ _ (x7 _ _ (x6 _ _ (x5 _ _ (x4 _ _ (x3 _ _ (x2 _ _ o1)))))))))))))), by decide, .inl (by decide)⟩))⟩
      · exact .inr ⟨t2, _, _, 199, rfl, (xl _ _ (x14 _ _ (x13 _ _ (x12 _ _ (x11 _ _ (x10 _ _ (x9 _ _ (x8 _ _ (x7 _ _ (x6 _ _ (x5 _ _ (x4 _ _ (x3 _ _ o2))))))))))))), .inl ⟨rfl, rfl⟩, plain_int, by decide⟩
      · exact .inr ⟨t3, _, _, 199, rfl, (xl _ _ (x14 _ _ (x13 _ _ (x12 _ _ (x11 _ _ (x10 _ _ (x9 _ _ (x8 _ _ (x7 _ _ (x6 _ _ (x5 _ _ (x4 _ _ o3)))))))))))), .inl ⟨rfl, rfl⟩, plain_int, by decide⟩
      · exact .inr ⟨t4, _, _, 199, rfl, (xl _ _ (x14 _ _ (x13 _ _ (x12 _ _ (x11 _ _ (x10 _ _ (x9 _ _ (x8 _ _ (x7 _ _ (x6 _ _ (x5 _ _ o4))))))))))), .inl ⟨rfl, rfl⟩, .inr (.inl ⟨_, rfl⟩), by decide⟩
      · exact .inr ⟨t5, _, _, 5, rfl, (xl _ _ (x14 _ _ (x13 _ _ (x12 _ _ (x11 _ _ (x10 _ _ (x9 _ _ (x8 _ _ (x7 _ _ (x6 _ _ o5)))))))))), .inr (.inl ⟨rfl, rfl⟩), plain_int, by decide⟩
      · exact .inr ⟨t6, _, _, 5, rfl, (xl _ _ (x14 _ _ (x13 _ _ (x12 _ _ (x11 _ _ (x10 _ _ (x9 _ _ (x8 _ _ (x7 _ _ o6))))))))), .inr (.inl ⟨rfl, rfl⟩), plain_int, by decide⟩
      · exact .inr ⟨t7, _, _, 5, rfl, (xl _ _ (x14 _ _ (x13 _ _ (x12 _ _ (x11 _ _ (x10 _ _ (x9 _ _ (x8 _ _ o7)))))))), .inr (.inl ⟨rfl, rfl⟩), .inl rfl, by decide⟩
      · exact .inr ⟨t8, _, _, 4095, rfl, (xl _ _ (x14 _ _ (x13 _ _ (x12 _ _ (x11 _ _ (x10 _ _ (x9 _ _ o8))))))), .inr (.inr ⟨rfl, rfl⟩), plain_int, by decide⟩
      · exact .inr ⟨t9, _, _, 4095, rfl, (xl _ _ (x14 _ _ (x13 _ _ (x12 _ _ (x11 _ _ (x10 _ _ o9)))))), .inr (.inr ⟨rfl, rfl⟩), plain_int, by decide⟩
      · exact .inr ⟨t10, _, _, 4095, rfl, (xl _ _ (x14 _ _ (x13 _ _ (x12 _ _ (x11 _ _ o10))))), .inr (.inr ⟨rfl, rfl⟩), .inl rfl, by decide⟩
      · exact .inl ⟨rfl, .inr (.inr (.inr ⟨t11, _, rfl, (xl _ _ (x14 _ _ (x13 _ _ (x12 _ _ o11)))), by decide, .inr (.inr ⟨_, rfl⟩)⟩))⟩
      · exact .inl ⟨rfl, .inr (.inr (.inr ⟨t12, _, rfl, (xl _ _ (x14 _ _ (x13 _ _ o12))), by decide, .inr (.inl ⟨_, _, rfl⟩)⟩))⟩
      · exact .inl ⟨rfl, .inr (.inr (.inr ⟨t13, _, rfl, (xl _ _ (x14 _ _ o13)), by decide, .inl (by decide)⟩))⟩
      · exact .inl ⟨rfl, .inr (.inr (.inl ⟨_, rfl⟩))⟩
      · exact .inl ⟨rfl, .inr (.inl ⟨_, rfl⟩)⟩
      · exact .inl ⟨rfl, .inr (.inr (.inr ⟨t14, _, rfl, (xl _ _ o14), by decide, .inl (by decide)⟩))⟩
    exact ⟨p, c, l, _, rfl, hhl, ol, by show 1 ≤ 17; omega, by show 17 ≤ 1000; omega, nl, fun x H' hx f h => k x H' (gl.trans f) h ((all x hx).frh f hhl h)⟩
end


/-! ### the odd kinds -/
section
variable {P : Program} {w : World} {K : PySem.W.Frag} {mg : Str → Option Value} {base : Heap} {a : Ad}
def spOKd : Sp := fun vs H Q _ => ∃ (p c : Addr), vs = [.ref p] ∧ HandAt H p c ∧ ∀ x H', Fr p H H' → HandAt H' p c → BadKd H' x → Q x H'
theorem ok_law_odd_kind (T : Txt K mg a) : FnOk P w K mg base CX0 4 a.f_law_odd_kind a.d_law_odd_kind ["_law_hand_here"] spOKd := by
  refine T.F_law_odd_kind.ok sc_law_odd_kind (fun vs H Q E h => ?_) (fun cdv A outer s H vs Q E hr h => ?_)
  · obtain ⟨_, _, rfl, _⟩ := h
    rfl
  · obtain ⟨p, c, rfl, hh, k⟩ := h
    refine ⟨_, (pss_one (ps_ret (pe_call (ok_law_pick T) (hr.mono (by decide)) rfl T.m_law_pick T.F_law_pick.kp T.b_law_pick .nil pass0 (pa_cons (pv 0) (pa_cons (pe_lst (pa_cons pe_non (pa_cons pe_str (pa_cons (pe_tup pa_nil) (pa_cons (pe_tup (pa_cons pe_str (pa_cons pe_int pa_nil))) (pa_cons (pe_tup (pa_cons pe_str pa_nil)) (pa_cons (pe_tup (pa_cons pe_str pa_nil)) (pa_cons (pe_tup (pa_cons pe_str (pa_cons (pe_un un_neg pe_int) pa_nil))) (pa_cons (pe_tup (pa_cons pe_str (pa_cons pe_int pa_nil))) (pa_cons (pe_tup (pa_cons pe_str (pa_cons pe_bl pa_nil))) (pa_cons (pe_tup (pa_cons pe_str (pa_cons pe_non pa_nil))) (pa_cons (pe_tup (pa_cons pe_str (pa_cons (pe_tup pa_nil) pa_nil))) (pa_cons (pe_tup (pa_cons pe_str (pa_cons (pe_tup (pa_cons pe_int (pa_cons pe_int (pa_cons pe_int pa_nil)))) pa_nil))) (pa_cons (pe_tup (pa_cons pe_str (pa_cons (pe_tup (pa_cons pe_int pa_nil)) pa_nil))) (pa_cons (pe_tup (pa_cons pe_str (pa_cons (pe_tup (pa_cons pe_bl (pa_cons pe_int pa_nil))) pa_nil))) (pa_cons (pe_tup (pa_cons pe_str pa_nil)) (pa_cons (pe_tup (pa_cons pe_str (pa_cons pe_int pa_nil))) (pa_cons (pe_tup (pa_cons pe_int pa_nil)) (pa_cons (pe_tup (pa_cons pe_str (pa_cons pe_int pa_nil))) (pa_cons pe_int pa_nil)))))))))))))))))))) pa_nil))))), ?_⟩
    walk_at "sm"
    refine ⟨sz (by decide), fun t1 ht1 => ?_⟩
    obtain ⟨g1, h1, _⟩ := hand_new (o := .tup []) (Fr.refl H) hh ht1
    have x1 := Evl.Ex.new (o := .tup []) ht1
    have o1 : upd H t1 (.tup []) t1 = some (.tup []) := upd_same
    generalize upd H t1 (.tup []) = H1 at g1 h1 x1 o1 ⊢
    refine ⟨sz (by decide), fun t2 ht2 => ?_⟩
    obtain ⟨g2, h2, _⟩ := hand_new (o := .tup [.str "+", .int 1]) g1 h1 ht2
    have x2 := Evl.Ex.new (o := .tup [.str "+", .int 1]) ht2
    have o2 : upd H1 t2 (.tup [.str "+", .int 1]) t2 = some (.tup [.str "+", .int 1]) := upd_same
    generalize upd H1 t2 (.tup [.str "+", .int 1]) = H2 at g2 h2 x2 o2 ⊢
    refine ⟨sz (by decide), fun t3 ht3 => ?_⟩
    obtain ⟨g3, h3, _⟩ := hand_new (o := .tup [.str "/"]) g2 h2 ht3
    have x3 := Evl.Ex.new (o := .tup [.str "/"]) ht3
    have o3 : upd H2 t3 (.tup [.str "/"]) t3 = some (.tup [.str "/"]) := upd_same
    generalize upd H2 t3 (.tup [.str "/"]) = H3 at g3 h3 x3 o3 ⊢
    refine ⟨sz (by decide), fun t4 ht4 => ?_⟩
    obtain ⟨g4, h4, _⟩ := hand_new (o := .tup [.str "<<"]) g3 h3 ht4
    have x4 := Evl.Ex.new (o := .tup [.str "<<"]) ht4
    have o4 : upd H3 t4 (.tup [.str "<<"]) t4 = some (.tup [.str "<<"]) := upd_same
    generalize upd H3 t4 (.tup [.str "<<"]) = H4 at g4 h4 x4 o4 ⊢
    refine ⟨sz (by decide), fun t5 ht5 => ?_⟩
    obtain ⟨g5, h5, _⟩ := hand_new (o := .tup [.str "<<", .int (-1)]) g4 h4 ht5
    have x5 := Evl.Ex.new (o := .tup [.str "<<", .int (-1)]) ht5
    have o5 : upd H4 t5 (.tup [.str "<<", .int (-1)]) t5 = some (.tup [.str "<<", .int (-1)]) := upd_same
    generalize upd H4 t5 (.tup [.str "<<", .int (-1)]) = H5 at g5 h5 x5 o5 ⊢
    refine ⟨sz (by decide), fun t6 ht6 => ?_⟩
    obtain ⟨g6, h6, _⟩ := hand_new (o := .tup [.str ">>", .int 4096]) g5 h5 ht6
    have x6 := Evl.Ex.new (o := .tup [.str ">>", .int 4096]) ht6
    have o6 : upd H5 t6 (.tup [.str ">>", .int 4096]) t6 = some (.tup [.str ">>", .int 4096]) := upd_same
    generalize upd H5 t6 (.tup [.str ">>", .int 4096]) = H6 at g6 h6 x6 o6 ⊢
    refine ⟨sz (by decide), fun t7 ht7 => ?_⟩
    obtain ⟨g7, h7, _⟩ := hand_new (o := .tup [.str "<<", .bl true]) g6 h6 ht7
    have x7 := Evl.Ex.new (o := .tup [.str "<<", .bl true]) ht7
    have o7 : upd H6 t7 (.tup [.str "<<", .bl true]) t7 = some (.tup [.str "<<", .bl true]) := upd_same
    generalize upd H6 t7 (.tup [.str "<<", .bl true]) = H7 at g7 h7 x7 o7 ⊢
    refine ⟨sz (by decide), fun t8 ht8 => ?_⟩
    obtain ⟨g8, h8, _⟩ := hand_new (o := .tup [.str ">>", .non]) g7 h7 ht8
    have x8 := Evl.Ex.new (o := .tup [.str ">>", .non]) ht8
    have o8 : upd H7 t8 (.tup [.str ">>", .non]) t8 = some (.tup [.str ">>", .non]) := upd_same
    generalize upd H7 t8 (.tup [.str ">>", .non]) = H8 at g8 h8 x8 o8 ⊢
    refine ⟨sz (by decide), fun t9 ht9 => ?_⟩
    obtain ⟨g9, h9, _⟩ := hand_new (o := .tup []) g8 h8 ht9
    have x9 := Evl.Ex.new (o := .tup []) ht9
    have o9 : upd H8 t9 (.tup []) t9 = some (.tup []) := upd_same
    generalize upd H8 t9 (.tup []) = H9 at g9 h9 x9 o9 ⊢
    refine ⟨sz (by decide), fun t10 ht10 => ?_⟩
    obtain ⟨g10, h10, _⟩ := hand_new (o := .tup [.str "table", .ref t9]) g9 h9 ht10
    have x10 := Evl.Ex.new (o := .tup [.str "table", .ref t9]) ht10
    have o10 : upd H9 t10 (.tup [.str "table", .ref t9]) t10 = some (.tup [.str "table", .ref t9]) := upd_same
    generalize upd H9 t10 (.tup [.str "table", .ref t9]) = H10 at g10 h10 x10 o10 ⊢
    refine ⟨sz (by decide), fun t11 ht11 => ?_⟩
    obtain ⟨g11, h11, _⟩ := hand_new (o := .tup [.int 1, .int 2, .int 3]) g10 h10 ht11
    have x11 := Evl.Ex.new (o := .tup [.int 1, .int 2, .int 3]) ht11
    have o11 : upd H10 t11 (.tup [.int 1, .int 2, .int 3]) t11 = some (.tup [.int 1, .int 2, .int 3]) := upd_same
    generalize upd H10 t11 (.tup [.int 1, .int 2, .int 3]) = H11 at g11 h11 x11 o11 ⊢
    refine ⟨sz (by decide), fun t12 ht12 => ?_⟩
    obtain ⟨g12, h12, _⟩ := hand_new (o := .tup [.str "table", .ref t11]) g11 h11 ht12
    have x12 := Evl.Ex.new (o := .tup [.str "table", .ref t11]) ht12
    have o12 : upd H11 t12 (.tup [.str "table", .ref t11]) t12 = some (.tup [.str "table", .ref t11]) := upd_same
    generalize upd H11 t12 (.tup [.str "table", .ref t11]) = H12 at g12 h12 x12 o12 ⊢
    refine ⟨sz (by decide), fun t13 ht13 => ?_⟩
    obtain ⟨g13, h13, _⟩ := hand_new (o := .tup [.int 4096]) g12 h12 ht13
    have x13 := Evl.Ex.new (o := .tup [.int 4096]) ht13
    have o13 : upd H12 t13 (.tup [.int 4096]) t13 = some (.tup [.int 4096]) := upd_same
    generalize upd H12 t13 (.tup [.int 4096]) = H13 at g13 h13 x13 o13 ⊢
    refine ⟨sz (by decide), fun t14 ht14 => ?_⟩
    obtain ⟨g14, h14, _⟩ := hand_new (o := .tup [.str "table", .ref t13]) g13 h13 ht14
    have x14 := Evl.Ex.new (o := .tup [.str "table", .ref t13]) ht14
    have o14 : upd H13 t14 (.tup [.str "table", .ref t13]) t14 = some (.tup [.str "table", .ref t13]) := upd_same
    generalize upd H13 t14 (.tup [.str "table", .ref t13]) = H14 at g14 h14 x14 o14 ⊢
    refine ⟨sz (by decide), fun t15 ht15 => ?_⟩
    obtain ⟨g15, h15, _⟩ := hand_new (o := .tup [.bl true, .int 1]) g14 h14 ht15
    have x15 := Evl.Ex.new (o := .tup [.bl true, .int 1]) ht15
    have o15 : upd H14 t15 (.tup [.bl true, .int 1]) t15 = some (.tup [.bl true, .int 1]) := upd_same
    generalize upd H14 t15 (.tup [.bl true, .int 1]) = H15 at g15 h15 x15 o15 ⊢
    refine ⟨sz (by decide), fun t16 ht16 => ?_⟩
    obtain ⟨g16, h16, _⟩ := hand_new (o := .tup [.str "table", .ref t15]) g15 h15 ht16
    have x16 := Evl.Ex.new (o := .tup [.str "table", .ref t15]) ht16
    have o16 : upd H15 t16 (.tup [.str "table", .ref t15]) t16 = some (.tup [.str "table", .ref t15]) := upd_same
    generalize upd H15 t16 (.tup [.str "table", .ref t15]) = H16 at g16 h16 x16 o16 ⊢
    refine ⟨sz (by decide), fun t17 ht17 => ?_⟩
    obtain ⟨g17, h17, _⟩ := hand_new (o := .tup [.str "table"]) g16 h16 ht17
    have x17 := Evl.Ex.new (o := .tup [.str "table"]) ht17
    have o17 : upd H16 t17 (.tup [.str "table"]) t17 = some (.tup [.str "table"]) := upd_same
    generalize upd H16 t17 (.tup [.str "table"]) = H17 at g17 h17 x17 o17 ⊢
    refine ⟨sz (by decide), fun t18 ht18 => ?_⟩
    obtain ⟨g18, h18, _⟩ := hand_new (o := .tup [.str "table", .int 5]) g17 h17 ht18
    have x18 := Evl.Ex.new (o := .tup [.str "table", .int 5]) ht18
    have o18 : upd H17 t18 (.tup [.str "table", .int 5]) t18 = some (.tup [.str "table", .int 5]) := upd_same
    generalize upd H17 t18 (.tup [.str "table", .int 5]) = H18 at g18 h18 x18 o18 ⊢
    refine ⟨sz (by decide), fun t19 ht19 => ?_⟩
    obtain ⟨g19, h19, _⟩ := hand_new (o := .tup [.int 1]) g18 h18 ht19
    have x19 := Evl.Ex.new (o := .tup [.int 1]) ht19
    have o19 : upd H18 t19 (.tup [.int 1]) t19 = some (.tup [.int 1]) := upd_same
    generalize upd H18 t19 (.tup [.int 1]) = H19 at g19 h19 x19 o19 ⊢
    refine ⟨sz (by decide), fun t20 ht20 => ?_⟩
    obtain ⟨g20, h20, _⟩ := hand_new (o := .tup [.str "pick", .int 0]) g19 h19 ht20
    have x20 := Evl.Ex.new (o := .tup [.str "pick", .int 0]) ht20
    have o20 : upd H19 t20 (.tup [.str "pick", .int 0]) t20 = some (.tup [.str "pick", .int 0]) := upd_same
    generalize upd H19 t20 (.tup [.str "pick", .int 0]) = H20 at g20 h20 x20 o20 ⊢
    refine ⟨sz (by decide), fun l hl => ?_⟩
    obtain ⟨gl, hhl, nl⟩ := hand_new (o := .lst [V.non, V.str "+", V.ref t1, V.ref t2, V.ref t3, V.ref t4, V.ref t5, V.ref t6, V.ref t7, V.ref t8, V.ref t10, V.ref t12, V.ref t14, V.ref t16, V.ref t17, V.ref t18, V.ref t19, V.ref t20, V.int 7]) g20 h20 hl
    have xl := Evl.Ex.new (o := .lst [V.non, V.str "+", V.ref t1, V.ref t2, V.ref t3, V.ref t4, V.ref t5, V.ref t6, V.ref t7, V.ref t8, V.ref t10, V.ref t12, V.ref t14, V.ref t16, V.ref t17, V.ref t18, V.ref t19, V.ref t20, V.int 7]) hl
    have ol : upd H20 l (.lst [V.non, V.str "+", V.ref t1, V.ref t2, V.ref t3, V.ref t4, V.ref t5, V.ref t6, V.ref t7, V.ref t8, V.ref t10, V.ref t12, V.ref t14, V.ref t16, V.ref t17, V.ref t18, V.ref t19, V.ref t20, V.int 7]) l = some (.lst [V.non, V.str "+", V.ref t1, V.ref t2, V.ref t3, V.ref t4, V.ref t5, V.ref t6, V.ref t7, V.ref t8, V.ref t10, V.ref t12, V.ref t14, V.ref t16, V.ref t17, V.ref t18, V.ref t19, V.ref t20, V.int 7]) := upd_same
    generalize upd H20 l (.lst [V.non, V.str "+", V.ref t1, V.ref t2, V.ref t3, V.ref t4, V.ref t5, V.ref t6, V.ref t7, V.ref t8, V.ref t10, V.ref t12, V.ref t14, V.ref t16, V.ref t17, V.ref t18, V.ref t19, V.ref t20, V.int 7]) = HL at gl hhl xl ol ⊢
    have all : ∀ HZ : Hp, (∀ b ys, HL b = some (.tup ys) → HZ b = some (.tup ys)) → ∀ y ∈ [V.non, V.str "+", V.ref t1, V.ref t2, V.ref t3, V.ref t4, V.ref t5, V.ref t6, V.ref t7, V.ref t8, V.ref t10, V.ref t12, V.ref t14, V.ref t16, V.ref t17, V.ref t18, V.ref t19, V.ref t20, V.int 7], BadKd HZ y := by
      intro HZ eT y hy
      simp only [List.mem_cons, List.not_mem_nil, or_false] at hy
      rcases hy with rfl | rfl | rfl | rfl | rfl | rfl | rfl | rfl | rfl | rfl | rfl | rfl | rfl | rfl | rfl | rfl | rfl | rfl | rfl
      · exact .inl (.inl rfl)
      · exact .inl (.inr (.inl ⟨_, rfl⟩))
      · exact .inr ⟨t1, _, _, rfl, (eT _ _ (xl _ _ (x20 _ _ (x19 _ _ (x18 _ _ (x17 _ _ (x16 _ _ (x15 _ _ (x14 _ _ (x13 _ _ (x12 _ _ (x11 _ _ (x10 _ _ (x9 _ _ (x8 _ _ (x7 _ _ (x6 _ _ (x5 _ _ (x4 _ _ (x3 _ _ (x2 _ _ o1))))))))))))))))))))), .nil, .inl rfl⟩
      · exact .inr ⟨t2, _, _, rfl, (eT _ _ (xl _ _ (x20 _ _ (x19 _ _ (x18 _ _ (x17 _ _ (x16 _ _ (x15 _ _ (x14 _ _ (x13 _ _ (x12 _ _ (x11 _ _ (x10 _ _ (x9 _ _ (x8 _ _ (x7 _ _ (x6 _ _ (x5 _ _ (x4 _ _ (x3 _ _ o2)))))))))))))))))))), (.cons (.inl ⟨by decide +kernel, rfl⟩) (.cons (.inl ⟨by decide +kernel, rfl⟩) .nil)), .inr (.inr (.inr (.inl ⟨_, _, rfl, ⟨fun z => absurd z (by decide +kernel), plain_int, fun z => absurd z (by decide +kernel)⟩⟩)))⟩
      · exact .inr ⟨t3, _, _, rfl, (eT _ _ (xl _ _ (x20 _ _ (x19 _ _ (x18 _ _ (x17 _ _ (x16 _ _ (x15 _ _ (x14 _ _ (x13 _ _ (x12 _ _ (x11 _ _ (x10 _ _ (x9 _ _ (x8 _ _ (x7 _ _ (x6 _ _ (x5 _ _ (x4 _ _ o3))))))))))))))))))), (.cons (.inl ⟨by decide +kernel, rfl⟩) .nil), .inr (.inl ⟨_, rfl, by decide +kernel, by decide +kernel⟩)⟩
      · exact .inr ⟨t4, _, _, rfl, (eT _ _ (xl _ _ (x20 _ _ (x19 _ _ (x18 _ _ (x17 _ _ (x16 _ _ (x15 _ _ (x14 _ _ (x13 _ _ (x12 _ _ (x11 _ _ (x10 _ _ (x9 _ _ (x8 _ _ (x7 _ _ (x6 _ _ (x5 _ _ o4)))))))))))))))))), (.cons (.inl ⟨by decide +kernel, rfl⟩) .nil), .inr (.inl ⟨_, rfl, by decide +kernel, by decide +kernel⟩)⟩
      · exact .inr ⟨t5, _, _, rfl, (eT _ _ (xl _ _ (x20 _ _ (x19 _ _ (x18 _ _ (x17 _ _ (x16 _ _ (x15 _ _ (x14 _ _ (x13 _ _ (x12 _ _ (x11 _ _ (x10 _ _ (x9 _ _ (x8 _ _ (x7 _ _ (x6 _ _ o5))))))))))))))))), (.cons (.inl ⟨by decide +kernel, rfl⟩) (.cons (.inl ⟨by decide +kernel, rfl⟩) .nil)), .inr (.inr (.inr (.inl ⟨_, _, rfl, ⟨fun _ => by decide +kernel, plain_int, fun z => absurd z (by decide +kernel)⟩⟩)))⟩
      · exact .inr ⟨t6, _, _, rfl, (eT _ _ (xl _ _ (x20 _ _ (x19 _ _ (x18 _ _ (x17 _ _ (x16 _ _ (x15 _ _ (x14 _ _ (x13 _ _ (x12 _ _ (x11 _ _ (x10 _ _ (x9 _ _ (x8 _ _ (x7 _ _ o6)))))))))))))))), (.cons (.inl ⟨by decide +kernel, rfl⟩) (.cons (.inl ⟨by decide +kernel, rfl⟩) .nil)), .inr (.inr (.inr (.inl ⟨_, _, rfl, ⟨fun _ => by decide +kernel, plain_int, fun z => absurd z (by decide +kernel)⟩⟩)))⟩
      · exact .inr ⟨t7, _, _, rfl, (eT _ _ (xl _ _ (x20 _ _ (x19 _ _ (x18 _ _ (x17 _ _ (x16 _ _ (x15 _ _ (x14 _ _ (x13 _ _ (x12 _ _ (x11 _ _ (x10 _ _ (x9 _ _ (x8 _ _ o7))))))))))))))), (.cons (.inl ⟨by decide +kernel, rfl⟩) (.cons (.inl ⟨by decide +kernel, rfl⟩) .nil)), .inr (.inr (.inr (.inl ⟨_, _, rfl, ⟨fun _ => by decide +kernel, (.inr (.inl ⟨_, rfl⟩)), fun z => absurd z (by decide +kernel)⟩⟩)))⟩
      · exact .inr ⟨t8, _, _, rfl, (eT _ _ (xl _ _ (x20 _ _ (x19 _ _ (x18 _ _ (x17 _ _ (x16 _ _ (x15 _ _ (x14 _ _ (x13 _ _ (x12 _ _ (x11 _ _ (x10 _ _ (x9 _ _ o8)))))))))))))), (.cons (.inl ⟨by decide +kernel, rfl⟩) (.cons (.inl ⟨by decide +kernel, rfl⟩) .nil)), .inr (.inr (.inr (.inl ⟨_, _, rfl, ⟨fun _ => by decide +kernel, (.inl rfl), fun z => absurd z (by decide +kernel)⟩⟩)))⟩
      · exact .inr ⟨t10, _, _, rfl, (eT _ _ (xl _ _ (x20 _ _ (x19 _ _ (x18 _ _ (x17 _ _ (x16 _ _ (x15 _ _ (x14 _ _ (x13 _ _ (x12 _ _ (x11 _ _ o10)))))))))))), (.cons (.inl ⟨by decide +kernel, rfl⟩) (.cons (.inr ⟨t9, _, rfl, by decide +kernel, .inl ⟨(eT _ _ (xl _ _ (x20 _ _ (x19 _ _ (x18 _ _ (x17 _ _ (x16 _ _ (x15 _ _ (x14 _ _ (x13 _ _ (x12 _ _ (x11 _ _ (x10 _ _ o9))))))))))))), rfl⟩⟩) .nil)), .inr (.inr (.inr (.inl ⟨_, _, rfl, ⟨fun z => absurd z (by decide +kernel), (.inr (.inr (.inr (.inr (.inl ⟨t9, _, rfl, (eT _ _ (xl _ _ (x20 _ _ (x19 _ _ (x18 _ _ (x17 _ _ (x16 _ _ (x15 _ _ (x14 _ _ (x13 _ _ (x12 _ _ (x11 _ _ (x10 _ _ o9)))))))))))))⟩))))), fun _ => .inr ⟨t9, _, rfl, .inl (eT _ _ (xl _ _ (x20 _ _ (x19 _ _ (x18 _ _ (x17 _ _ (x16 _ _ (x15 _ _ (x14 _ _ (x13 _ _ (x12 _ _ (x11 _ _ (x10 _ _ o9))))))))))))), fun z hz => by simp at hz, by decide, by decide +kernel⟩⟩⟩)))⟩
      · exact .inr ⟨t12, _, _, rfl, (eT _ _ (xl _ _ (x20 _ _ (x19 _ _ (x18 _ _ (x17 _ _ (x16 _ _ (x15 _ _ (x14 _ _ (x13 _ _ o12)))))))))), (.cons (.inl ⟨by decide +kernel, rfl⟩) (.cons (.inr ⟨t11, _, rfl, by decide +kernel, .inl ⟨(eT _ _ (xl _ _ (x20 _ _ (x19 _ _ (x18 _ _ (x17 _ _ (x16 _ _ (x15 _ _ (x14 _ _ (x13 _ _ (x12 _ _ o11))))))))))), rfl⟩⟩) .nil)), .inr (.inr (.inr (.inl ⟨_, _, rfl, ⟨fun z => absurd z (by decide +kernel), (.inr (.inr (.inr (.inr (.inl ⟨t11, _, rfl, (eT _ _ (xl _ _ (x20 _ _ (x19 _ _ (x18 _ _ (x17 _ _ (x16 _ _ (x15 _ _ (x14 _ _ (x13 _ _ (x12 _ _ o11)))))))))))⟩))))), fun _ => .inr ⟨t11, _, rfl, .inl (eT _ _ (xl _ _ (x20 _ _ (x19 _ _ (x18 _ _ (x17 _ _ (x16 _ _ (x15 _ _ (x14 _ _ (x13 _ _ (x12 _ _ o11))))))))))), fun z hz => by simp only [List.mem_cons, List.not_mem_nil, or_false] at hz; rcases hz with rfl | rfl | rfl <;> first | exact plain_int | exact .inr (.inl ⟨_, rfl⟩), by decide, by decide +kernel⟩⟩⟩)))⟩
      · exact .inr ⟨t14, _, _, rfl, (eT _ _ (xl _ _ (x20 _ _ (x19 _ _ (x18 _ _ (x17 _ _ (x16 _ _ (x15 _ _ o14)))))))), (.cons (.inl ⟨by decide +kernel, rfl⟩) (.cons (.inr ⟨t13, _, rfl, by decide +kernel, .inl ⟨(eT _ _ (xl _ _ (x20 _ _ (x19 _ _ (x18 _ _ (x17 _ _ (x16 _ _ (x15 _ _ (x14 _ _ o13))))))))), rfl⟩⟩) .nil)), .inr (.inr (.inr (.inl ⟨_, _, rfl, ⟨fun z => absurd z (by decide +kernel), (.inr (.inr (.inr (.inr (.inl ⟨t13, _, rfl, (eT _ _ (xl _ _ (x20 _ _ (x19 _ _ (x18 _ _ (x17 _ _ (x16 _ _ (x15 _ _ (x14 _ _ o13)))))))))⟩))))), fun _ => .inr ⟨t13, _, rfl, .inl (eT _ _ (xl _ _ (x20 _ _ (x19 _ _ (x18 _ _ (x17 _ _ (x16 _ _ (x15 _ _ (x14 _ _ o13))))))))), fun z hz => by simp only [List.mem_cons, List.not_mem_nil, or_false] at hz; rcases hz with rfl <;> first | exact plain_int | exact .inr (.inl ⟨_, rfl⟩), by decide, by decide +kernel⟩⟩⟩)))⟩
      · exact .inr ⟨t16, _, _, rfl, (eT _ _ (xl _ _ (x20 _ _ (x19 _ _ (x18 _ _ (x17 _ _ o16)))))), (.cons (.inl ⟨by decide +kernel, rfl⟩) (.cons (.inr ⟨t15, _, rfl, by decide +kernel, .inl ⟨(eT _ _ (xl _ _ (x20 _ _ (x19 _ _ (x18 _ _ (x17 _ _ (x16 _ _ o15))))))), rfl⟩⟩) .nil)), .inr (.inr (.inr (.inl ⟨_, _, rfl, ⟨fun z => absurd z (by decide +kernel), (.inr (.inr (.inr (.inr (.inl ⟨t15, _, rfl, (eT _ _ (xl _ _ (x20 _ _ (x19 _ _ (x18 _ _ (x17 _ _ (x16 _ _ o15)))))))⟩))))), fun _ => .inr ⟨t15, _, rfl, .inl (eT _ _ (xl _ _ (x20 _ _ (x19 _ _ (x18 _ _ (x17 _ _ (x16 _ _ o15))))))), fun z hz => by simp only [List.mem_cons, List.not_mem_nil, or_false] at hz; rcases hz with rfl | rfl <;> first | exact plain_int | exact .inr (.inl ⟨_, rfl⟩), by decide, by decide +kernel⟩⟩⟩)))⟩
      · exact .inr ⟨t17, _, _, rfl, (eT _ _ (xl _ _ (x20 _ _ (x19 _ _ (x18 _ _ o17))))), (.cons (.inl ⟨by decide +kernel, rfl⟩) .nil), .inr (.inl ⟨_, rfl, by decide +kernel, by decide +kernel⟩)⟩
      · exact .inr ⟨t18, _, _, rfl, (eT _ _ (xl _ _ (x20 _ _ (x19 _ _ o18)))), (.cons (.inl ⟨by decide +kernel, rfl⟩) (.cons (.inl ⟨by decide +kernel, rfl⟩) .nil)), .inr (.inr (.inr (.inl ⟨_, _, rfl, ⟨fun z => absurd z (by decide +kernel), plain_int, fun _ => .inl rfl⟩⟩)))⟩
      · exact .inr ⟨t19, _, _, rfl, (eT _ _ (xl _ _ (x20 _ _ o19))), (.cons (.inl ⟨by decide +kernel, rfl⟩) .nil), .inr (.inr (.inl ⟨_, rfl⟩))⟩
      · exact .inr ⟨t20, _, _, rfl, (eT _ _ (xl _ _ o20)), (.cons (.inl ⟨by decide +kernel, rfl⟩) (.cons (.inl ⟨by decide +kernel, rfl⟩) .nil)), .inr (.inr (.inr (.inl ⟨_, _, rfl, ⟨fun z => absurd z (by decide +kernel), plain_int, fun z => absurd z (by decide +kernel)⟩⟩)))⟩
      · exact .inl (.inr (.inr (.inl ⟨_, rfl⟩)))
    exact ⟨p, c, l, _, rfl, hhl, ol, by show 1 ≤ 19; omega, by show 19 ≤ 1000; omega, nl, fun x H' hx f h => k x H' (gl.trans f) h (all H' (fr_kp f hhl) x hx)⟩
end


/-! ### odd steps are refused -/
theorem KdAt.frh {H H' : Hp} {p c q : Addr} {k : Kd} (f : Fr p H H') (hh : HandAt H p c) (h : KdAt H q k) : KdAt H' q k := h.tp (fr_kp f hh)
theorem OpsAt.frh {H H' : Hp} {p c q : Addr} {ops : List Opd} (f : Fr p H H') (hh : HandAt H p c) (h : OpsAt H q ops) : OpsAt H' q ops := h.go (fr_kp f hh)
theorem OpV.updL {H : Hp} {D : Addr} {xs ys : List V} {x : V} {b : Bool} (hD : H D = some (.lst xs)) (h : OpV H x b) : OpV (upd H D (.lst ys)) x b := by
  have e : ∀ d zs, H d = some (.tup zs) → upd H D (.lst ys) d = some (.tup zs) := fun d zs h => by
    rw [upd_ne (fun z => by rw [z, hD] at h; cases h)]
    exact h
  rcases h with ⟨k1, h | h | h | ⟨q, zs, k2, k3, k4⟩⟩ | ⟨q, s, z, m, k1, k2, k3, k4, k5⟩
  · exact .inl ⟨k1, .inl h⟩
  · exact .inl ⟨k1, .inr (.inl h)⟩
  · exact .inl ⟨k1, .inr (.inr (.inl h))⟩
  · exact .inl ⟨k1, .inr (.inr (.inr ⟨q, zs, k2, e _ _ k3, k4⟩))⟩
  · refine .inr ⟨q, s, z, m, k1, e _ _ k2, k3, ?_, k5⟩
    rcases k4 with h | h | h | h | ⟨d, zs, h, r⟩ | ⟨d, zs, h, r⟩
    · exact .inl h
    · exact .inr (.inl h)
    · exact .inr (.inr (.inl h))
    · exact .inr (.inr (.inr (.inl h)))
    · exact .inr (.inr (.inr (.inr (.inl ⟨d, zs, h, e _ _ r⟩))))
    · by_cases z : d = D
      · exact .inr (.inr (.inr (.inr (.inr ⟨d, ys, h, by rw [z, upd_same]⟩))))
      · exact .inr (.inr (.inr (.inr (.inr ⟨d, zs, h, by rw [upd_ne z]; exact r⟩))))
section
variable {P : Program} {w : World} {K : PySem.W.Frag} {mg : Str → Option Value} {base : Heap} {a : Ad}
def spOS : Sp := fun vs H Q _ => ∃ (p c kp op : Addr) (s : Stp), vs = [.ref p, .ref kp, .ref op] ∧ HandAt H p c ∧ KdAt H kp s.kd ∧ OpsAt H op s.ops ∧ s.ok ∧ ∀ H', Fr p H H' → HandAt H' p c → Q (.bl true) H'
def ivOS (H : Hp) (p c : Addr) (HA : Hp) (r : Int) (D : Addr) (i : Nat) (HX : Hp) : Prop := Fr p H HX ∧ HandAt HX p c ∧ ∃ xs bs, HX D = some (.lst xs) ∧ OpsV HX xs bs ∧ bs = (List.range i).map fun k => decide (k ≠ r.toNat)
theorem ok_law_odd_steps (T : Txt K mg a) (D : Txo w K a) (Y : Txv K mg a) : FnOk P w K mg base CX0 10 a.f_law_odd_steps a.d_law_odd_steps ["_law_hand_here", "_law_kind_here", "_law_operands_here"] spOS := by
  refine T.F_law_odd_steps.ok sc_law_odd_steps (fun vs H Q E h => ?_) (fun cdv A outer s H vs Q E hr h => ?_)
  · obtain ⟨_, _, _, _, _, rfl, _⟩ := h
    rfl
  · obtain ⟨p, c, kp, op, st, rfl, hh, hk, ho, hok, k⟩ := h
    have lm := many_le st.kd
    have ln := hok.1
    have l1 := many_pos st.kd
    refine ⟨_, (pss_cons (ps_if (pt_not (pt_val (pe_call (ok_law_step_refused T D Y) (hr.mono (by decide)) rfl T.m_law_step_refused T.F_law_step_refused.kp T.b_law_step_refused .nil pass0 (pa_cons (pe_call (ok_law_odd_kind T) (hr.mono (by decide)) rfl T.m_law_odd_kind T.F_law_odd_kind.kp T.b_law_odd_kind .nil pass0 (pa_cons (pv 0) pa_nil)) (pa_cons (pv 2) pa_nil))))) (pss_one (ps_ret pe_bl))
    pss_nil)
  (pss_cons (ps_if (PW.pt (pw_or (pt_not (pt_val (pe_call (ok_law_step_refused T D Y) (hr.mono (by decide)) rfl T.m_law_step_refused T.F_law_step_refused.kp T.b_law_step_refused .nil pass0 (pa_cons (pv 1) (pa_cons pe_non pa_nil))))) (pw_or (pt_not (pt_val (pe_call (ok_law_step_refused T D Y) (hr.mono (by decide)) rfl T.m_law_step_refused T.F_law_step_refused.kp T.b_law_step_refused .nil pass0 (pa_cons (pv 1) (pa_cons (pe_op op_cat (pe_callTy call_list_of (by rfl) T.z_list (by decide +kernel) (pa_cons (pv 2) pa_nil)) (pe_lst (pa_cons (pe_tup (pa_cons pe_str (pa_cons pe_int pa_nil))) pa_nil))) pa_nil))))) (pw_or1 (pt_not (pt_val (pe_call (ok_law_step_refused T D Y) (hr.mono (by decide)) rfl T.m_law_step_refused T.F_law_step_refused.kp T.b_law_step_refused .nil pass0 (pa_cons (pv 1) (pa_cons (pe_slice sl_tup (pv 2) (po_some pe_int) po_none) pa_nil))))))))) (pss_one (ps_ret pe_bl))
    pss_nil)
  (pss_cons (ps_set (i := 3) sc_law_odd_steps.nd rfl (by first | exact Or.inl rfl | exact Or.inr rfl) (pe_call (ok_law_take T) (hr.mono (by decide)) rfl T.m_law_take T.F_law_take.kp T.b_law_take .nil pass0 (pa_cons (pv 0) (pa_cons (pe_callB call_len_seq (by rfl) T.z_len (by decide +kernel) (pa_cons (pv 2) pa_nil)) pa_nil))))
  (pss_one (ps_ret (pe_call (ok_law_step_refused T D Y) (hr.mono (by decide)) rfl T.m_law_step_refused T.F_law_step_refused.kp T.b_law_step_refused .nil pass0 (pa_cons (pv 1) (pa_cons (pe_lc (own := [("_law_k", 4)]) (g := gName 4) (tt := tYes) rfl sc_law_odd_steps.nd (pi_range1 (by rfl) T.z_range (pa_cons (pe_callB call_len_seq (by rfl) T.z_len (by decide +kernel) (pa_cons (pv 2) pa_nil)) pa_nil)) (blkOk_by (own := [("_law_k", 4)]) (N := ["_law_hand_here", "_law_kind_here", "_law_operands_here", "_law_place", "_law_k"]) (sc := defScope s_law_odd_steps) (by decide +kernel)) (fun _ _ _ _ _ => pg_name (i := 4) sc_law_odd_steps.nd rfl (Or.inl rfl)) (fun _ _ _ _ _ => pts_nil) (fun _ _ _ _ _ => (pe_ifExp (pt_cmpR op_eq (pv 4) (pv 3) (nomark _)) (pe_call (ok_law_odd_operand T) (hr.mono (by decide)) rfl T.m_law_odd_operand T.F_law_odd_operand.kp T.b_law_odd_operand .nil pass0 (pa_cons (pv 0) pa_nil)) (pe_ix ix_tup_b (pv 2) (pv 4) (fun _ _ => rfl))))) pa_nil)))))))), ?_⟩
    walk_at "sm"
    refine ⟨p, c, rfl, hh, fun x H1 f1 h1 hb => ⟨x, .ref op, rfl, .inl hb, fun H2 e2 => ⟨_, rfl, iteF ?_⟩⟩⟩
    obtain ⟨os, ho1, ho2⟩ := ho
    have lo := paired_len ho2
    have g2 : Fr p H H2 := f1.trans (Fr.of e2)
    have h2 := h1.go e2
    have tp2 := fr_kp g2 hh
    have kd2 := hk.tp tp2
    have bad : ∀ HX (ox : V), KdAt HX kp st.kd → BadOps HX st.kd ox → ∀ (R : VK), (∀ HY, Evl.Ex HX HY → R (.bl true) HY) → spRF [.ref kp, ox] HX R E0 := fun HX ox hkx hbx R z => ⟨.ref kp, ox, rfl, .inr ⟨kp, st.kd, rfl, .inl hkx, hbx⟩, z⟩
    refine bad H2 .non kd2 (.inl ⟨.inl rfl, rfl⟩) _ fun H3 e3 => ⟨_, rfl, iteF ?_⟩
    have g3 := g2.trans (Fr.of e3)
    have h3 := h2.go e3
    have tp3 := fr_kp g3 hh
    have os3 := tp3 _ _ ho1
    refine ⟨os, .inr (SqT.of os3), fun l hl => ⟨sz (by decide), fun t ht => ⟨sz (by decide), fun u hu => ?_⟩⟩⟩
    have x1 := Evl.Ex.new (o := .lst os) hl
    have y1 : upd H3 l (.lst os) l = some (.lst os) := upd_same
    generalize upd H3 l (.lst os) = H4 at x1 y1 ht hu ⊢
    have x2 := Evl.Ex.new (o := .tup [.str "number", .int 0]) ht
    have y2 : upd H4 t (.tup [.str "number", .int 0]) t = some (.tup [.str "number", .int 0]) := upd_same
    generalize upd H4 t (.tup [.str "number", .int 0]) = H5 at x2 y2 hu ⊢
    have x3 := Evl.Ex.new (o := .lst [.ref t]) hu
    have y3 : upd H5 u (.lst [.ref t]) u = some (.lst [.ref t]) := upd_same
    generalize upd H5 u (.lst [.ref t]) = H6 at x3 y3 ⊢
    refine ⟨l, u, _, _, rfl, rfl, x3 _ _ (x2 _ _ y1), y3, sz (by show os.length + 1 ≤ 100000; omega), fun v hv => ?_⟩
    have x4 := Evl.Ex.new (o := .lst (os ++ [.ref t])) hv
    have e4 := ((x1.trans x2).trans x3).trans x4
    have g4 := g3.trans (Fr.of e4)
    have tp4 := fr_kp g4 hh
    refine bad _ (.ref v) (hk.tp tp4) (.inr ⟨v, os ++ [.ref t], (st.ops.map fun _ => true) ++ [true], rfl, .inr upd_same, by rw [List.length_append]; show os.length + 1 ≤ 100; omega, Paired.snoc (OpAt.opv (o := .nu 0) (x4 _ _ (x3 _ _ y2)) (Nat.zero_le _)) (ops_opsv (Paired.mapP ho2 fun _ _ z => z.go tp4) hok.2), fun z => ?_⟩) _ fun H7 e7 => ⟨_, rfl, iteF ?_⟩
    · have := z.1
      rw [List.length_append] at this
      have : os.length + 1 = st.kd.many := this
      omega
    have g7 := g4.trans (Fr.of e7)
    have h7 := (h3.go e4).go e7
    have tp7 := fr_kp g7 hh
    refine ⟨op, os, rfl, SqT.of (tp7 _ _ ho1), ?_, fun v2 hv2 => ?_⟩
    · obtain ⟨n, hn⟩ : ∃ n, os.length = n + 1 := ⟨os.length - 1, by omega⟩
      rw [hn]
      exact cut1 n
    have e8 := Evl.Ex.new (o := .tup (cutV os (some 1) none)) hv2
    have g8 := g7.trans (Fr.of e8)
    have tp8 := fr_kp g8 hh
    obtain ⟨z0, os', rfl⟩ : ∃ z os', os = z :: os' := by
      cases os with
      | nil => simp at lo; omega
      | cons z r => exact ⟨z, r, rfl⟩
    rw [cut_tail z0 (by have : os'.length + 1 = st.ops.length := lo; omega)] at e8 g8 tp8 ⊢
    have lc : os'.length + 1 = st.ops.length := lo
    obtain ⟨o0, ops', eo⟩ : ∃ o0 ops', st.ops = o0 :: ops' := by
      cases e : st.ops with
      | nil => rw [e] at lc; simp at lc
      | cons o l => exact ⟨o, l, rfl⟩
    rw [eo] at ho2
    cases ho2 with
    | @cons _ _ _ _ f0 t2 =>
      refine bad _ (.ref v2) (hk.tp tp8) (.inr ⟨v2, os', (ops'.map fun _ => true), rfl, .inl upd_same, by omega, ops_opsv (Paired.mapP t2 fun _ _ z => z.go tp8) (fun o ho => hok.2 o (by rw [eo]; exact List.mem_cons_of_mem _ ho)), fun z => ?_⟩) _ fun H9 e9 => ⟨_, rfl, iteF ?_⟩
      · have := z.1
        omega
      have g9 := g8.trans (Fr.of e9)
      have h9 := (h7.go e8).go e9
      have tp9 := fr_kp g9 hh
      refine ⟨_, .inr (SqT.of (tp9 _ _ ho1)), tk h9 (by rw [List.length_cons]; omega) (by rw [List.length_cons]; omega) fun r HA r1 r2 fA hA => ?_⟩
      have gA := g9.trans fA
      have tpA := fr_kp gA hh
      rw [List.length_cons] at r2
      refine ⟨_, .inr (SqT.of (tpA _ _ ho1)), by rw [List.length_cons]; omega, by rw [List.length_cons]; omega, lcg_range (lo := 0) (n := (((z0 :: os').length : Nat) : Int).toNat) (ivOS H p c HA r) (fun D hD => ?_) (fun D i HX hD hi hv => ?_) fun D HX hD hv => ?_⟩
      · obtain ⟨a1, a2, a3⟩ := hand_new (o := .lst []) gA hA hD
        exact ⟨a1, a2, [], [], upd_same, .nil, rfl⟩
      · obtain ⟨a1, a2, xs, bs, a3, a4, a5⟩ := hv
        have nD : D ≠ p := (hand_new (o := .lst []) gA hA hD).2.2
        have nC : D ≠ c := hA.lc hD
        have i3 : i < 100 := by rw [List.length_cons] at hi; omega
        have fin : ∀ (HY : Hp) (y : V) (b : Bool), Fr p HX HY → HandAt HY p c → OpV HY y b → b = decide (i ≠ r.toNat) → ∃ acc, HY D = some (HO.lst acc) ∧ acc.length < sizeLine ∧ ivOS H p c HA r D (i + 1) (upd HY D (HO.lst (acc ++ [y]))) := by
          rintro HY y b f h oy rfl
          have aD := f _ _ nD a3
          refine ⟨xs, aD, Nat.lt_of_le_of_lt (show _ ≤ 100 by rw [paired_len a4, a5, List.length_map, List.length_range]; omega) (by decide), fun b u nb hb => ?_, h.upd nD nC, xs ++ [y], bs ++ [decide (i ≠ r.toNat)], upd_same, Paired.snoc (oy.updL aD) (Paired.mapP a4 fun _ _ z => (z.frh f a2 h).updL aD), by rw [List.range_succ, List.map_append, a5]; rfl⟩
          rw [upd_ne (fun z => by have q := gA b u nb hb; rw [z, hD] at q; cases q)]
          exact (a1.trans f) b u nb hb
        walk_at "sm"
        refine ite2 (fun z => ?_) fun z => ?_
        · exact ⟨p, c, rfl, a2, fun y HY f h oy => fin HY y false f h oy (decide_eq_false (by omega)).symm⟩
        · have tpX := fr_kp a1 hh
          have hi2 : i < (o0 :: ops').length := by
            rw [List.length_cons] at hi ⊢
            rw [eo, List.length_cons] at lc
            omega
          obtain ⟨w, hw, q, rfl, hq⟩ := paired_of (.cons f0 t2 : Paired (opR H) _ _) (List.getElem?_eq_getElem hi2)
          rw [show (0 : Int) + (i : Int) = ((i : Nat) : Int) by omega]
          refine ixt (tpX _ _ ho1) (atI_nat hw) (fin HX _ true (Fr.refl HX) a2 (OpAt.opv (tpX _ _ hq) (hok.2 _ (by rw [eo]; exact List.getElem_mem hi2))) (decide_eq_true (by omega)).symm)
      · obtain ⟨a1, a2, xs, bs, a3, a4, a5⟩ := hv
        have tpX := fr_kp a1 hh
        refine bad HX (.ref D) (hk.tp tpX) (.inr ⟨D, xs, bs, rfl, .inr a3, ?_, a4, fun z => ?_⟩) _ fun HY eY => k HY (a1.trans (Fr.of eY)) (a2.go eY)
        · rw [paired_len a4, a5, List.length_map, List.length_range, List.length_cons]
          omega
        · have z2 := z.2
          rw [a5, List.all_map] at z2
          have := List.all_eq_true.mp z2 r.toNat (List.mem_range.mpr (by rw [List.length_cons]; omega))
          simp at this
end


/-! ### the steps with a road to the last one, renumbered -/
theorem mt_index_b {X : Cx} {s : Shared} {H : Hp} {scope : Scope} {env : Env} {fp : List Addr} : MtR (X.blk s H scope env fp) "list.index" (rIndex X.K) := mt_index
theorem pe_bm_b {X : Cx} {s : Shared} {H : Hp} {scope : Scope} {env : Env} {fp : List Addr} {o e : Expr} {es : List Expr} {to : TE} {t : TA} {name : Str} {apos cpos : Pos} {T id : String} {r : V → List V → Hp → VK → Prop} (pa : PlainAttrs T) (slot : Slot T name id) (hty : typeOf (.builtin id) = pure (.type "method_descriptor"))
    (hm : MtR (X.blk s H scope env fp) id r) (ho : PE (X.blk s H scope env fp) o to) (ha : PA (X.blk s H scope env fp) (e :: es) t)
    (h1 : attributeBase o name (X.blk s H scope env fp).env (eval o (X.blk s H scope env fp).env) = eval o (X.blk s H scope env fp).env := by rfl)
    (h2 : ((((backTo cpos (starEach (e :: es) (X.blk s H scope env fp).env)).all fun x => !x.fst) && (backToKw cpos (keywordEach [] (X.blk s H scope env fp).env)).all fun x => x.fst.isSome) && decide (((e :: es).length + ([] : List (Option Str × Expr)).length + if ([] : List (Option Str × Expr)).isEmpty = true then 0 else 1) < 30)) = true := by rfl)
    (h3 : (apos.endLine == cpos.line) = true := by rfl) (h4 : starEach (e :: es) (X.blk s H scope env fp).env = (false, eval e (X.blk s H scope env fp).env) :: starEach es (X.blk s H scope env fp).env := by rfl)
    (h5 : ((backTo cpos (starEach es (X.blk s H scope env fp).env)).any fun x => x.fst) = false := by rfl) : PE (X.blk s H scope env fp) ((o.Attribute name apos).Call (e :: es) [] cpos) (tBM X.K T r to t) := pe_bm pa slot hty hm ho ha h1 h2 h3 h4 h5
theorem fit_all {ni : Nat} : ∀ {sts : List Stp} {k : Nat}, FitW ni k sts → ∀ s ∈ sts, s.ok
  | [], _, _, _, h => by cases h
  | t :: r, k, f, s, h => by
    rcases List.mem_cons.mp h with rfl | h
    · exact f.1
    · exact fit_all f.2.2 s h
theorem bsOf_len (sts : List Stp) : (bsOf sts).length = sts.length := by unfold bsOf; rw [List.length_map]
theorem bsOf_at {sts : List Stp} {i : Nat} {s : Stp} (h : sts[i]? = some s) : (bsOf sts)[i]? = some (befs s.ops) := by unfold bsOf; rw [List.getElem?_map, h]; rfl
theorem bsOf_row {sts : List Stp} {i q : Nat} (h : q ∈ row (bsOf sts) i) : ∃ s, sts[i]? = some s ∧ q ∈ befs s.ops := by
  obtain ⟨b, h1, h2⟩ := row_mem h
  unfold bsOf at h1
  rw [List.getElem?_map] at h1
  cases e : sts[i]? with
  | none => rw [e] at h1; cases h1
  | some s => rw [e] at h1; cases h1; exact ⟨s, rfl, h2⟩
/-- rows whose operands stand: places before -/
theorem fit_row {ni : Nat} {sts : List Stp} (h : FitW ni 0 sts) (p q : Nat) (hq : q ∈ row (bsOf sts) p) : q < p ∧ q < (bsOf sts).length := by
  obtain ⟨s, h1, h2⟩ := bsOf_row hq
  obtain ⟨ok, ft⟩ := fit_at h h1
  have := ft _ ((befs_mem ok.2).mp h2)
  rw [bsOf_len]
  have hp := (List.getElem?_eq_some_iff.mp h1).1
  have : q < 0 + p := this
  omega
theorem asc_le {n : Nat} : ∀ {l : List Nat}, l.Pairwise (· < ·) → (∀ q ∈ l, q < n) → l.length ≤ n := fun {l} h1 h2 => by
  have nd : l.Nodup := h1.imp fun h => Nat.ne_of_lt h
  have sub : l ⊆ List.range n := fun q hq => List.mem_range.mpr (h2 q hq)
  have := nd.length_le_of_subset sub
  rwa [List.length_range] at this
theorem Rc.lt {bs : List (List Nat)} {bar s q : Nat} (h : ∀ p, ∀ q ∈ row bs p, q < bs.length) (r : Rc bs bar s q) : q < bs.length := by
  cases r with
  | one h1 h2 _ => exact h _ _ (by rw [row_of h1]; exact h2)
  | more _ h1 h2 _ => exact h _ _ (by rw [row_of h1]; exact h2)
/-- where a place stands among those that are kept -/
def ixO (ks : List Nat) (o : Opd) : Opd := match o with
  | .pl q => .pl (ks.idxOf q)
  | o => o
theorem perm_nats {ns : List Nat} {ms : List Int} (h : ms.Perm (nI ns)) : ∃ ks : List Nat, ms = nI ks ∧ ∀ q, q ∈ ks ↔ q ∈ ns := by
  have all : ∀ z ∈ ms, ∃ n : Nat, n ∈ ns ∧ z = n := fun z hz => mem_ints.mp (h.mem_iff.mp hz)
  refine ⟨ms.map Int.toNat, ?_, fun q => ?_⟩
  · unfold nI
    rw [List.map_map]
    refine ((List.map_congr_left fun z hz => ?_).trans (List.map_id ms)).symm
    obtain ⟨n, _, rfl⟩ := all z hz
    rfl
  · rw [List.mem_map]
    constructor
    · rintro ⟨z, hz, rfl⟩
      obtain ⟨n, h1, rfl⟩ := all z hz
      exact h1
    · intro hq
      exact ⟨(q : Int), h.mem_iff.mpr (mem_ints.mpr ⟨q, hq, rfl⟩), rfl⟩
theorem idx_first {ks : List Nat} {q : Nat} (h : q ∈ ks) : ((nI ks).map V.int)[ks.idxOf q]? = some (.int (q : Int)) ∧ ∀ (m : Nat) (z : V), m < ks.idxOf q → ((nI ks).map V.int)[m]? = some z → eqV z (.int (q : Int)) = false := by
  have hl := List.idxOf_lt_length_iff.mpr h
  refine ⟨at_nat (by rw [List.getElem?_eq_getElem hl, List.getElem_idxOf hl]), fun m z hm hz => ?_⟩
  obtain ⟨n, hn, rfl⟩ := nat_at hz
  have h3 := List.not_of_lt_findIdx (p := fun y => y == q) (xs := ks) (i := m) hm
  obtain ⟨h4, h5⟩ := List.getElem?_eq_some_iff.mp hn
  rw [h5] at h3
  have h6 : n ≠ q := fun e => by rw [e] at h3; simp at h3
  show decide ((n : Int) = (q : Int)) = false
  exact decide_eq_false fun e => h6 (by exact_mod_cast e)
theorem tup_upd0 {H : Hp} {q : Addr} {xs : List V} {o : HO} (hq : H q = some (.lst xs)) : ∀ b ys, H b = some (.tup ys) → upd H q o b = some (.tup ys) := fun b ys h => by
  rw [upd_ne (fun z => by rw [z, hq] at h; cases h)]
  exact h
section
variable {P : Program} {w : World} {K : PySem.W.Frag} {mg : Str → Option Value} {base : Heap} {a : Ad}
def spAl : Sp := fun vs H Q _ => ∃ (l m : Nat) (sts : List Stp), vs = [.ref l] ∧ RowsS H l sts ∧ FitW m 0 sts ∧ 1 ≤ sts.length ∧ sts.length ≤ 100 ∧ ∀ r ss H', Evl.Ex H H' → H r = none → RowsS H' r ss → (∀ s ∈ ss, s.ok) → 1 ≤ ss.length → ss.length ≤ 101 → Q (.ref r) H'
def ivAl (H : Hp) (l Kp_ Td : Addr) (ks : List Nat) : Nat → L2.St → Hp → Prop := fun i σ H' => ∃ (v3 v4 v5 v6 : Option V) (xs : List V) (ss : List Stp), σ = [some (.ref l), some (.ref Kp_), some (.ref Td), v3, v4, v5, v6] ∧ Evl.Ex H H' ∧ H' Kp_ = some (.lst ((nI ks).map V.int)) ∧ H' Td = some (.lst xs) ∧ Paired (rowS H') xs ss ∧ ss.length = i ∧ ∀ s ∈ ss, s.ok
def ivAo (H : Hp) (ks : List Nat) (ops : List Opd) (D : Addr) (i : Nat) (H' : Hp) : Prop := Evl.Ex H H' ∧ ∃ xs, H' D = some (.lst xs) ∧ Paired (opR H') xs ((ops.take i).map (ixO ks))
theorem ok_law_alive (T : Txt K mg a) : FnOk P w K mg base CX0 4 a.f_law_alive a.d_law_alive ["_law_rows"] spAl := by
  refine T.F_law_alive.ok sc_law_alive (fun vs H Q E h => ?_) (fun cdv A outer s H vs Q E hr h => ?_)
  · obtain ⟨_, _, _, rfl, _⟩ := h
    rfl
  · obtain ⟨l, m, sts, rfl, hR, hfit, n1, n2, k⟩ := h
    obtain ⟨xs, hl, hx⟩ := hR
    have lx := paired_len hx
    have hb := fit_row hfit
    have lb := bsOf_len sts
    refine ⟨_, (pss_cons (ps_set (i := 1) sc_law_alive.nd rfl (by first | exact Or.inl rfl | exact Or.inr rfl) (pe_callB cr_sortedI (by rfl) T.z_sorted (by decide +kernel) (pa_cons (pe_op op_cat (pe_call (ok_law_under T) (hr.mono (by decide)) rfl T.m_law_under T.F_law_under.kp T.b_law_under .nil pass0 (pa_cons (pe_call (ok_law_web_befores T) (hr.mono (by decide)) rfl T.m_law_web_befores T.F_law_web_befores.kp T.b_law_web_befores .nil pass0 (pa_cons (pv 0) pa_nil)) (pa_cons (pe_op op_sub (pe_callB call_len_seq (by rfl) T.z_len (by decide +kernel) (pa_cons (pv 0) pa_nil)) pe_int) pa_nil))) (pe_lst (pa_cons (pe_op op_sub (pe_callB call_len_seq (by rfl) T.z_len (by decide +kernel) (pa_cons (pv 0) pa_nil)) pe_int) pa_nil))) pa_nil)))
  (pss_cons (ps_set (i := 2) sc_law_alive.nd rfl (by first | exact Or.inl rfl | exact Or.inr rfl) (pe_lst pa_nil))
  (pss_cons (ps_for PassesOwn.never rfl (pi_list (pv 1)) (pg_name (i := 3) sc_law_alive.nd rfl (by first | exact Or.inl rfl | exact Or.inr rfl)) (pss_cons (ps_asg (pe_ix ix_list (pv 0) (pv 3) (fun _ _ => rfl)) (pg_tup rfl (pgs_cons (pg_name (i := 4) sc_law_alive.nd rfl (by first | exact Or.inl rfl | exact Or.inr rfl)) (pgs_cons (pg_name (i := 5) sc_law_alive.nd rfl (by first | exact Or.inl rfl | exact Or.inr rfl)) pgs_nil))))
  (pss_one (ps_expr (pe_bm PySem.F.plainAttrs_list PySem.F.slot_list_append PySem.F.type_list_append mt_append (pv 2) (pa_cons (pe_tup (pa_cons (pv 4) (pa_cons (pe_callTy call_tuple_of (by rfl) T.z_tuple (by decide +kernel) (pa_cons (pe_lc (own := [("_law_o", 6)]) (g := gName 6) (tt := tYes) rfl sc_law_alive.nd (pi_tup (pv 5)) (blkOk_by (own := [("_law_o", 6)]) (N := ["_law_rows", "_law_kept", "_law_told", "_law_place", "_law_kind_here", "_law_operands_here", "_law_o"]) (sc := defScope s_law_alive) (by decide +kernel)) (fun _ _ _ _ _ => pg_name (i := 6) sc_law_alive.nd rfl (Or.inl rfl)) (fun _ _ _ _ _ => pts_nil) (fun _ _ _ _ _ => (pe_ifExp (pt_cmpR op_eq (pe_ix ix_tup_b (pv 6) pe_int (fun _ _ => rfl)) pe_str (nomark _)) (pe_tup (pa_cons pe_str (pa_cons (pe_bm_b PySem.F.plainAttrs_list PySem.F.slot_list_index PySem.F.type_list_index mt_index_b (pv 1) (pa_cons (pe_ix ix_tup_b (pv 6) pe_int (fun _ _ => rfl)) pa_nil)) pa_nil))) (pv 6)))) pa_nil)) pa_nil))) pa_nil))))))
  (pss_one (ps_ret (pv 2)))))), ?_⟩
    walk_at "sm"
    refine ⟨l, sts, rfl, ⟨xs, hl, hx⟩, fit_all hfit, by omega, fun q H1 e1 hq => ⟨_, .inl (SqL.of (e1 _ _ hl)), ?_⟩⟩
    have el : ((xs.length : Nat) : Int) - 1 = ((sts.length - 1 : Nat) : Int) := by omega
    rw [el]
    refine ⟨q, sts.length - 1, bsOf sts, rfl, hq, fun p z hz => (hb p z hz).2, by omega, by omega, fun u un H2 e2 asc mem hu => ⟨_, .inl (SqL.of ((e1.trans e2) _ _ hl)), sz (by decide), fun v hv => ?_⟩⟩
    have e3 := (e1.trans e2).trans (Evl.Ex.new (o := .lst [V.int (((xs.length : Nat) : Int) - 1)]) hv)
    have hu3 := (Evl.Ex.new (o := .lst [V.int (((xs.length : Nat) : Int) - 1)]) hv) _ _ hu
    have hv3 : upd H2 v (.lst [V.int (((xs.length : Nat) : Int) - 1)]) v = some (.lst [V.int ((sts.length - 1 : Nat) : Int)]) := by rw [upd_same, el]
    generalize upd H2 v (.lst [V.int (((xs.length : Nat) : Int) - 1)]) = H3 at e3 hu3 hv3 ⊢
    have unl : un.length ≤ sts.length := by rw [← lb]; exact asc_le asc fun q hq => ((mem q).mp hq).lt fun p z hz => (hb p z hz).2
    refine ⟨u, v, _, _, rfl, rfl, hu3, hv3, sz (by rw [nI_len]; show un.length + 1 ≤ 100000; omega), fun y hy => ?_⟩
    have e4 := e3.trans (Evl.Ex.new (o := .lst ((nI un).map V.int ++ [V.int ((sts.length - 1 : Nat) : Int)])) hy)
    have hy4 : upd H3 y (.lst ((nI un).map V.int ++ [V.int ((sts.length - 1 : Nat) : Int)])) y = some (.lst ((nI (un ++ [sts.length - 1])).map V.int)) := by rw [upd_same, nI_snoc]
    generalize upd H3 y (.lst ((nI un).map V.int ++ [V.int ((sts.length - 1 : Nat) : Int)])) = H4 at e4 hy4 ⊢
    refine ⟨y, nI (un ++ [sts.length - 1]), rfl, SqL.of hy4, fun ms kp perm _ hkp => ⟨sz (by decide), fun Td hTd => ?_⟩⟩
    obtain ⟨ks, rfl, km⟩ := perm_nats perm
    have kl : ks.length = un.length + 1 := by
      have := perm.length_eq
      simpa using this
    have kin : ∀ q, q ∈ ks ↔ q = sts.length - 1 ∨ Rc (bsOf sts) 0 (sts.length - 1) q := fun q => by
      rw [km, List.mem_append, List.mem_singleton, mem]
      exact Or.comm
    have e5 := e4.trans (Evl.Ex.new (o := .lst ((nI ks).map V.int)) hkp)
    have hk5 : upd H4 kp (.lst ((nI ks).map V.int)) kp = some (.lst ((nI ks).map V.int)) := upd_same
    generalize upd H4 kp (.lst ((nI ks).map V.int)) = H5 at e5 hk5 hTd ⊢
    have tdn : H Td = none := Evl.fresh_back e5 hTd
    have nkt : kp ≠ Td := fun z => by rw [← z, hk5] at hTd; cases hTd
    refine ⟨_, rfl, kp, rfl, ⟨_, SqL.of ((Evl.Ex.new hTd) _ _ hk5)⟩, for_list (K := K) (a := kp) (xs := (nI ks).map V.int) (ivAl H l kp Td ks) ⟨none, none, none, none, [], [], rfl, e5.trans (Evl.Ex.new hTd), (Evl.Ex.new hTd) _ _ hk5, upd_same, .nil, rfl, fun s hs => by cases hs⟩ (fun i σ HX hi ⟨_, _, _, _, _, _, _, _, f, _⟩ => SqL.of f) ?_ ?_⟩
    · rintro i z σ HX hi ⟨v3, v4, v5, v6, ys, ss, rfl, g1, g2, g3, g4, g5, g6⟩
      obtain ⟨pl, hpl, rfl⟩ := nat_at hi
      have pk := List.mem_of_getElem? hpl
      have il := (List.getElem?_eq_some_iff.mp hpl).1
      have pn : pl < sts.length := by
        rcases (kin pl).mp pk with e | e
        · omega
        · have := e.lt fun p z hz => (hb p z hz).2
          omega
      obtain ⟨st, hst⟩ : ∃ s, sts[pl]? = some s := ⟨_, List.getElem?_eq_getElem pn⟩
      obtain ⟨x, hx1, q, kpp, op, rfl, t1, t2, t3⟩ := paired_of hx hst
      obtain ⟨ok, ft⟩ := fit_at hfit hst
      have lm := many_le st.kd
      walk_at "sm"
      refine ixl (SqL.of (g1 _ _ hl)) (atI_nat hx1) ?_
      walk_at "sm"
      refine ⟨_, SqT.of (g1 _ _ t1), rfl, _, _, rfl, _, _, rfl, rfl, (show tyV K "list" (.ref Td) HX from .inl ⟨rfl, _, SqL.of g3⟩), op, rfl, ?_⟩
      obtain ⟨os, ho1, ho2⟩ := t3
      have lo := paired_len ho2
      refine ⟨⟨_, SqT.of (g1 _ _ ho1)⟩, lcg_tup (K := K) (a := op) (xs := os) (ivAo HX ks st.ops) (fun D hD => ⟨Evl.Ex.new hD, [], upd_same, .nil⟩) (fun D i HY hD hi h => SqT.of (h.1 _ _ (g1 _ _ ho1))) ?_ ?_⟩
      · rintro D j z HY hD hj ⟨f1, zs, f2, f3⟩
        obtain ⟨o, hod, qq, rfl, hq⟩ := paired_at ho2 hj
        have om := List.mem_of_getElem? hod
        have hq1 := (hq.go g1).go f1
        have lj := (List.getElem?_eq_some_iff.mp hod).1
        have lz : zs.length ≤ 100 := by rw [paired_len f3, List.length_map, List.length_take]; have := ok.1; omega
        have tk1 : (st.ops.take (j + 1)).map (ixO ks) = (st.ops.take j).map (ixO ks) ++ [ixO ks o] := by rw [List.take_add_one, hod, List.map_append]; rfl
        have fin : ∀ (HZ : Hp) (r : Addr), Evl.Ex HY HZ → OpAt HZ r (ixO ks o) → ∃ acc, HZ D = some (HO.lst acc) ∧ acc.length < sizeLine ∧ ivAo HX ks st.ops D (j + 1) (upd HZ D (HO.lst (acc ++ [V.ref r]))) := fun HZ r e hr => by
          have fD := e _ _ f2
          refine ⟨zs, fD, Nat.lt_of_le_of_lt lz (by decide), Evl.Ex.mut (f1.trans e) hD, _, upd_same, ?_⟩
          rw [tk1]
          have tu := tup_upd0 (o := .lst (zs ++ [V.ref r])) fD
          exact Paired.snoc ⟨r, rfl, tu _ _ hr⟩ (Paired.mapP f3 fun _ _ y => y.go fun b ys h => tu _ _ (e _ _ h))
        walk_at "sm"
        refine ix0 hq1 ⟨rfl, ?_⟩
        cases o with
        | pl n =>
          have nk : n ∈ ks := (kin n).mpr (.inr (by
            have hr : n ∈ row (bsOf sts) pl := by rw [row_of (bsOf_at hst)]; exact (befs_mem ok.2).mpr om
            obtain ⟨b, hb1, hb2⟩ := row_mem hr
            rcases (kin pl).mp pk with e | e
            · rw [e] at hb1
              exact .one hb1 hb2 (Nat.zero_testBit _)
            · exact .more e hb1 hb2 (Nat.zero_testBit _)))
          obtain ⟨i1, i2⟩ := idx_first nk
          exact iteP rfl ⟨(show tyV K "list" (.ref kp) HY from .inl ⟨rfl, _, SqL.of (f1 _ _ g2)⟩), ix1 hq1 ⟨kp, _, _, ks.idxOf n, _, rfl, rfl, SqL.of (f1 _ _ g2), rfl, flat_nats ks, i1, (show decide ((n : Int) = (n : Int)) = true from decide_eq_true rfl), i2, sz (by decide), fun r hr => fin _ r (Evl.Ex.new hr) upd_same⟩⟩
        | gi n => exact iteN (show ¬ (V.str "given" = V.str "place") by decide +kernel) (fin HY qq (Evl.Ex.refl _) hq1)
        | nu n => exact iteN (show ¬ (V.str "number" = V.str "place") by decide +kernel) (fin HY qq (Evl.Ex.refl _) hq1)
      · rintro D HY hD ⟨f1, zs, f2, f3⟩
        rw [lo, List.take_length] at f3
        refine ⟨D, rfl, zs, .inl ⟨SqL.of f2, fun t ht => ⟨sz (by decide), fun r hr => ?_⟩⟩⟩
        have y1 := Evl.Ex.new (o := .tup zs) ht
        have z1 : upd HY t (.tup zs) t = some (.tup zs) := upd_same
        generalize upd HY t (.tup zs) = H6 at y1 z1 hr ⊢
        have y2 := Evl.Ex.new (o := .tup [.ref kpp, .ref t]) hr
        have z2 : upd H6 r (.tup [.ref kpp, .ref t]) r = some (.tup [.ref kpp, .ref t]) := upd_same
        generalize upd H6 r (.tup [.ref kpp, .ref t]) = H7 at y2 z2 ⊢
        have ee : Evl.Ex HX H7 := (f1.trans y1).trans y2
        have tdl := ee _ _ g3
        have tu := tup_upd0 (o := .lst (ys ++ [.ref r])) tdl
        have lys : ys.length ≤ 101 := by rw [paired_len g4, g5]; omega
        refine ⟨Td, _, _, rfl, rfl, tdl, Nat.lt_of_le_of_lt lys (by decide), _, _, _, _, ys ++ [.ref r], ss ++ [⟨st.kd, st.ops.map (ixO ks)⟩], rfl, Evl.Ex.mut (g1.trans ee) tdn, by rw [upd_ne nkt]; exact ee _ _ g2, upd_same, ?_, by rw [List.length_append, g5]; rfl, fun s hs => ?_⟩
        · refine Paired.snoc ⟨r, kpp, t, rfl, tu _ _ z2, ((t2.go (g1.trans ee))).tp tu, zs, tu _ _ (y2 _ _ z1), Paired.mapP f3 fun _ _ y => y.go fun b xs h => tu _ _ (y2 _ _ (y1 _ _ h))⟩ (Paired.mapP g4 fun _ _ y => y.tp fun b xs h => tu _ _ (ee _ _ h))
        · rcases List.mem_append.mp hs with h | h
          · exact g6 s h
          · rw [List.mem_singleton.mp h]
            refine ⟨by rw [List.length_map]; exact ok.1, fun o ho => ?_⟩
            obtain ⟨u2, hu2, rfl⟩ := List.mem_map.mp ho
            have uo := ok.2 u2 hu2
            cases u2 with
            | pl n =>
              show ks.idxOf n ≤ 199
              have := List.idxOf_le_length (a := n) (l := ks)
              omega
            | gi n => exact uo
            | nu n => exact uo
    · rintro σ HX ⟨v3, v4, v5, v6, ys, ss, rfl, g1, g2, g3, g4, g5, g6⟩
      rw [nI_len] at g5
      exact ⟨_, rfl, k Td ss HX g1 tdn ⟨ys, g3, g4⟩ g6 (by omega) (by omega)⟩
end


/-! ### rows drawn: most steps used -/
/-- beside a hand: what stood stands, the hand goes on -/
structure Gd (p c : Addr) (H0 H : Hp) : Prop where
  h0 : HandAt H0 p c
  fr : Fr p H0 H
  h : HandAt H p c
theorem Gd.refl {p c : Addr} {H : Hp} (h : HandAt H p c) : Gd p c H H := ⟨h, Fr.refl H, h⟩
theorem Gd.fresh {p c q : Addr} {H0 H : Hp} (g : Gd p c H0 H) (hq : H q = none) : H0 q = none := by
  obtain ⟨ys, hy⟩ := hand_lst g.h
  have n : q ≠ p := fun z => by rw [z, hy] at hq; cases hq
  cases e : H0 q with
  | none => rfl
  | some u => have := g.fr q u n e; rw [hq] at this; cases this
theorem Gd.ne {p c q : Addr} {H0 H : Hp} (g : Gd p c H0 H) (hq : H0 q = none) : q ≠ p ∧ q ≠ c := ⟨g.h0.lt hq, g.h0.lc hq⟩
theorem Gd.upd {p c q : Addr} {H0 H : Hp} {o : HO} (g : Gd p c H0 H) (hq : H0 q = none) : Gd p c H0 (L2.upd H q o) :=
  ⟨g.h0, fun b u nb h => by rw [upd_ne (fun z => by rw [z, hq] at h; cases h)]; exact g.fr b u nb h, g.h.upd (g.ne hq).1 (g.ne hq).2⟩
theorem Gd.new {p c q : Addr} {H0 H : Hp} {o : HO} (g : Gd p c H0 H) (hq : H q = none) : Gd p c H0 (L2.upd H q o) := g.upd (g.fresh hq)
theorem Gd.draw {p c : Addr} {H0 H H' : Hp} (g : Gd p c H0 H) (f : Fr p H H') (h : HandAt H' p c) : Gd p c H0 H' := ⟨g.h0, g.fr.trans f, h⟩
theorem Gd.go {p c : Addr} {H0 H H' : Hp} (g : Gd p c H0 H) (e : Evl.Ex H H') : Gd p c H0 H' := g.draw (Fr.of e) (g.h.go e)
theorem Gd.kp {p c : Addr} {H0 H : Hp} (g : Gd p c H0 H) : ∀ b xs, H0 b = some (.tup xs) → H b = some (.tup xs) := fr_kp g.fr g.h0
theorem tup_upd {H : Hp} {q : Addr} {xs : List V} {o : HO} (hq : H q = some (.lst xs)) : ∀ b ys, H b = some (.tup ys) → upd H q o b = some (.tup ys) := fun b ys h => by
  rw [upd_ne (fun z => by rw [z, hq] at h; cases h)]
  exact h
theorem seqIx {k n : Nat} (h : k < n) : seqIndex? (k : Int) n = some k := by
  unfold seqIndex?
  have e : (if (k : Int) < 0 then (k : Int) + n else k) = k := if_neg (by omega)
  simp only [e]
  rw [if_pos (by simp; omega)]
  rfl
theorem nI_erase {l : List Nat} {k : Nat} : ((nI l).map V.int).eraseIdx k = (nI (l.eraseIdx k)).map V.int := by
  induction l generalizing k with
  | nil => rfl
  | cons x l ih =>
    cases k with
    | zero => rfl
    | succ k =>
      show V.int (x : Int) :: ((nI l).map V.int).eraseIdx k = _
      rw [ih]; rfl
theorem fit_snoc {ni : Nat} : ∀ {sts : List Stp} {k : Nat} {s : Stp}, FitW ni k sts → s.ok → (∀ o ∈ s.ops, o.fits (k + sts.length) ni) → FitW ni k (sts ++ [s])
  | [], k, s, _, h1, h2 => ⟨h1, fun o ho => h2 o ho, trivial⟩
  | t :: r, k, s, f, h1, h2 => ⟨f.1, f.2.1, fit_snoc f.2.2 h1 fun o ho => by have := h2 o ho; rw [List.length_cons] at this; rwa [show k + 1 + r.length = k + (r.length + 1) by omega]⟩
theorem units65 {k : Nat} {A : Around} (h : Room k A) : A.units + 65 < cLine := by
  have := h.un
  omega
theorem op_notInD_b {X : Cx} {s : Shared} {H : Hp} {scope : Scope} {env : Env} {fp : List Addr} (hu : X.A.units + 65 < cLine) : OpR (X.blk s H scope env fp) (compareOp .NotIn) (rNotInD X.K) := op_notInD (X := X.blk s H scope env fp) hu
section
variable {P : Program} {w : World} {K : PySem.W.Frag} {mg : Str → Option Value} {base : Heap} {a : Ad}
def spFu : Sp := fun vs H Q _ => ∃ (p c : Addr) (m n : Nat), vs = [.ref p, .int m, .int n] ∧ HandAt H p c ∧ m ≤ 6 ∧ 1 ≤ n ∧ n ≤ 41 ∧ ∀ l sts H', Fr p H H' → HandAt H' p c → RowsS H' l sts → l ≠ p → 1 ≤ sts.length → sts.length ≤ 201 → (∀ s ∈ sts, s.ok) → Q (.ref l) H'
/-- between two places: told rows, places that are not used -/
def FuS (H : Hp) (p c Td U : Addr) (m i : Nat) (H' : Hp) : Prop := Gd p c H H' ∧ H Td = none ∧ H U = none ∧ Td ≠ U ∧ (∃ xs sts, H' Td = some (.lst xs) ∧ Paired (rowS H') xs sts ∧ sts.length = i ∧ FitW m 0 sts) ∧ ∃ us : List Nat, H' U = some (.lst ((nI us).map V.int)) ∧ us.length ≤ i ∧ ∀ u ∈ us, u < i
theorem FuS.draw {H H1 H2 : Hp} {p c Td U : Addr} {m i : Nat} (h : FuS H p c Td U m i H1) (f : Fr p H1 H2) (hh : HandAt H2 p c) : FuS H p c Td U m i H2 := by
  obtain ⟨gd, t0, u0, ne, ⟨xs, sts, tx, px, lx, fx⟩, us, ux, ul, ub⟩ := h
  exact ⟨gd.draw f hh, t0, u0, ne, ⟨xs, sts, f _ _ (gd.ne t0).1 tx, Paired.mapP px fun _ _ y => y.tp (fr_kp f gd.h), lx, fx⟩, us, f _ _ (gd.ne u0).1 ux, ul, ub⟩
theorem FuS.go {H H1 H2 : Hp} {p c Td U : Addr} {m i : Nat} (h : FuS H p c Td U m i H1) (e : Evl.Ex H1 H2) : FuS H p c Td U m i H2 := h.draw (Fr.of e) (h.1.h.go e)
/-- a list beside changes -/
theorem FuS.side {H H1 : Hp} {p c Td U O : Addr} {m i : Nat} {os os' : List V} (h : FuS H p c Td U m i H1) (hO : H O = none) (n1 : O ≠ Td) (n2 : O ≠ U) (ho : H1 O = some (.lst os)) : FuS H p c Td U m i (L2.upd H1 O (.lst os')) := by
  obtain ⟨gd, t0, u0, ne, ⟨xs, sts, tx, px, lx, fx⟩, us, ux, ul, ub⟩ := h
  exact ⟨gd.upd hO, t0, u0, ne, ⟨xs, sts, by rw [upd_ne (Ne.symm n1)]; exact tx, Paired.mapP px fun _ _ y => y.tp (tup_upd ho), lx, fx⟩, us, by rw [upd_ne (Ne.symm n2)]; exact ux, ul, ub⟩
theorem FuS.pop {H H1 : Hp} {p c Td U : Addr} {m i : Nat} {us us' : List Nat} (h : FuS H p c Td U m i H1) (hu : H1 U = some (.lst ((nI us).map V.int))) (l : us'.length ≤ i) (b : ∀ u ∈ us', u < i) : FuS H p c Td U m i (L2.upd H1 U (.lst ((nI us').map V.int))) := by
  obtain ⟨gd, t0, u0, ne, ⟨xs, sts, tx, px, lx, fx⟩, _, _, _, _⟩ := h
  exact ⟨gd.upd u0, t0, u0, ne, ⟨xs, sts, by rw [upd_ne ne]; exact tx, Paired.mapP px fun _ _ y => y.tp (tup_upd hu), lx, fx⟩, us', upd_same, l, b⟩
def ivFu (H : Hp) (p c Td : Addr) (m n : Nat) : Nat → L2.St → Hp → Prop := fun i σ H' => ∃ (U : Addr) (v5 v6 v7 v8 v9 : Option V), σ = [some (.ref p), some (.int m), some (.int n), some (.ref Td), some (.ref U), v5, v6, v7, v8, v9] ∧ FuS H p c Td U m i H'
def mdFu (H : Hp) (p c Td U : Addr) (m n i : Nat) (v7 v8 v9 : Option V) : L2.St → Hp → Prop := fun σ H' => ∃ (kp : Addr) (kd : Kd), σ = [some (.ref p), some (.int m), some (.int n), some (.ref Td), some (.ref U), some (.int (i : Nat)), some (.ref kp), v7, v8, v9] ∧ KdAt H' kp kd ∧ FuS H p c Td U m i H'
def ivFo (H : Hp) (p c Td U O kp : Addr) (kd : Kd) (m n i : Nat) : Nat → L2.St → Hp → Prop := fun j σ H' => ∃ (v8 v9 : Option V) (os : List V) (ops : List Opd), σ = [some (.ref p), some (.int m), some (.int n), some (.ref Td), some (.ref U), some (.int (i : Nat)), some (.ref kp), some (.ref O), v8, v9] ∧
  FuS H p c Td U m i H' ∧ KdAt H' kp kd ∧ H O = none ∧ O ≠ Td ∧ O ≠ U ∧ H' O = some (.lst os) ∧ Paired (opR H') os ops ∧ ops.length = j ∧ ∀ o ∈ ops, o.ok ∧ o.fits i m
def ivFd (H : Hp) (i : Nat) (D : Addr) (x : Nat) (H' : Hp) : Prop := Evl.Ex H H' ∧ ∃ ws : List Nat, H' D = some (.lst ((nI ws).map V.int)) ∧ ws.length ≤ x ∧ ∀ u ∈ ws, u < i
theorem ok_law_full_web (T : Txt K mg a) : FnOk P w K mg base CX0 5 a.f_law_full_web a.d_law_full_web ["_law_hand_here", "_law_many", "_law_steps"] spFu := by
  refine T.F_law_full_web.ok sc_law_full_web (fun vs H Q E h => ?_) (fun cdv A outer s H vs Q E hr h => ?_)
  · obtain ⟨_, _, _, _, rfl, _⟩ := h
    rfl
  · obtain ⟨p, c, m, n, rfl, hh, hm, n1, n2, k⟩ := h
    refine ⟨_, (pss_cons (ps_set (i := 3) sc_law_full_web.nd rfl (by first | exact Or.inl rfl | exact Or.inr rfl) (pe_lst pa_nil))
  (pss_cons (ps_set (i := 4) sc_law_full_web.nd rfl (by first | exact Or.inl rfl | exact Or.inr rfl) (pe_lst pa_nil))
  (pss_cons (ps_for PassesOwn.never rfl (pi_range1 (by rfl) T.z_range (pa_cons (pv 2) pa_nil)) (pg_name (i := 5) sc_law_full_web.nd rfl (by first | exact Or.inl rfl | exact Or.inr rfl)) (pss_cons (ps_set (i := 6) sc_law_full_web.nd rfl (by first | exact Or.inl rfl | exact Or.inr rfl) (pe_call (ok_law_kind T) (hr.mono (by decide)) rfl T.m_law_kind T.F_law_kind.kp T.b_law_kind .nil pass0 (pa_cons (pv 0) pa_nil)))
  (Evl.pss_cut (ps_if (PW.pt (pw_and (pt_cmpR op_gt (pe_callB call_len_seq (by rfl) T.z_len (by decide +kernel) (pa_cons (pv 4) pa_nil)) pe_int (nomark _)) (pw_and1 (pt_cmpR op_eq (pe_call (ok_law_operands T) (hr.mono (by decide)) rfl T.m_law_operands T.F_law_operands.kp T.b_law_operands .nil pass0 (pa_cons (pv 6) pa_nil)) pe_int (nomark _))))) (pss_one (ps_set (i := 6) sc_law_full_web.nd rfl (by first | exact Or.inl rfl | exact Or.inr rfl) (pe_tup (pa_cons pe_str pa_nil))))
    pss_nil)
  (pss_cons (ps_set (i := 7) sc_law_full_web.nd rfl (by first | exact Or.inl rfl | exact Or.inr rfl) (pe_lst pa_nil))
  (pss_cons (ps_for PassesOwn.never rfl (pi_range1 (by rfl) T.z_range (pa_cons (pe_call (ok_law_operands T) (hr.mono (by decide)) rfl T.m_law_operands T.F_law_operands.kp T.b_law_operands .nil pass0 (pa_cons (pv 6) pa_nil)) pa_nil)) (pg_name (i := 8) sc_law_full_web.nd rfl (by first | exact Or.inl rfl | exact Or.inr rfl)) (pss_one (ps_if (PW.pt (pw_and (pt_cmpR op_gt (pe_callB call_len_seq (by rfl) T.z_len (by decide +kernel) (pa_cons (pv 4) pa_nil)) pe_int (nomark _)) (pw_and1 (pt_cmpR op_gt (pe_call (ok_law_take T) (hr.mono (by decide)) rfl T.m_law_take T.F_law_take.kp T.b_law_take .nil pass0 (pa_cons (pv 0) (pa_cons pe_int pa_nil))) pe_int (nomark _))))) (pss_one (ps_expr (pe_bm PySem.F.plainAttrs_list PySem.F.slot_list_append PySem.F.type_list_append mt_append (pv 7) (pa_cons (pe_tup (pa_cons pe_str (pa_cons (pe_bm PySem.F.plainAttrs_list PySem.F.slot_list_pop PySem.F.type_list_pop mt_popAt (pv 4) (pa_cons (pe_call (ok_law_take T) (hr.mono (by decide)) rfl T.m_law_take T.F_law_take.kp T.b_law_take .nil pass0 (pa_cons (pv 0) (pa_cons (pe_callB call_len_seq (by rfl) T.z_len (by decide +kernel) (pa_cons (pv 4) pa_nil)) pa_nil))) pa_nil)) pa_nil))) pa_nil))))
    (pss_one (ps_expr (pe_bm PySem.F.plainAttrs_list PySem.F.slot_list_append PySem.F.type_list_append mt_append (pv 7) (pa_cons (pe_call (ok_law_operand T) (hr.mono (by decide)) rfl T.m_law_operand T.F_law_operand.kp T.b_law_operand .nil pass0 (pa_cons (pv 0) (pa_cons (pv 5) (pa_cons (pv 1) pa_nil)))) pa_nil)))))))
  (pss_cons (ps_set (i := 4) sc_law_full_web.nd rfl (by first | exact Or.inl rfl | exact Or.inr rfl) (pe_op op_cat (pe_lc (own := [("_law_other", 9)]) (g := gName 9)  rfl sc_law_full_web.nd (pi_list (pv 4)) (blkOk_by (own := [("_law_other", 9)]) (N := ["_law_hand_here", "_law_many", "_law_steps", "_law_told", "_law_unused", "_law_place", "_law_kind_here", "_law_operands_here", "_law_k", "_law_other"]) (sc := defScope s_law_full_web) (by decide +kernel)) (fun _ _ _ _ _ => pg_name (i := 9) sc_law_full_web.nd rfl (Or.inl rfl)) (fun _ _ _ _ _ => (pts_one (pt_cmpR (op_notInD_b (units65 hr)) (pe_tup (pa_cons pe_str (pa_cons (pv 9) pa_nil))) (pv 7) (by rfl)))) (fun _ _ _ _ _ => (pv 9))) (pe_lst (pa_cons (pv 5) pa_nil))))
  (pss_one (ps_expr (pe_bm PySem.F.plainAttrs_list PySem.F.slot_list_append PySem.F.type_list_append mt_append (pv 3) (pa_cons (pe_tup (pa_cons (pv 6) (pa_cons (pe_callTy call_tuple_of (by rfl) T.z_tuple (by decide +kernel) (pa_cons (pv 7) pa_nil)) pa_nil))) pa_nil))))))))))
  (pss_one (ps_ret (pe_call (ok_law_alive T) (hr.mono (by decide)) rfl T.m_law_alive T.F_law_alive.kp T.b_law_alive .nil pass0 (pa_cons (pv 3) pa_nil))))))), ?_⟩
    walk_at "sm"
    refine ⟨sz (by decide), fun Td hTd => ⟨sz (by decide), fun U hU => ?_⟩⟩
    have g0 : Gd p c H (upd (upd H Td (.lst [])) U (.lst [])) := ((Gd.refl hh).new hTd).new hU
    have uU : upd (upd H Td (.lst [])) U (.lst []) U = some (.lst []) := upd_same
    have nTU : Td ≠ U := fun z => by rw [← z, upd_same] at hU; cases hU
    have uT : upd (upd H Td (.lst [])) U (.lst []) Td = some (.lst []) := by rw [upd_ne nTU, upd_same]
    have hU0 : H U = none := ((Gd.refl hh).new (o := .lst []) hTd).fresh hU
    generalize upd (upd H Td (.lst [])) U (.lst []) = H0 at g0 uU uT ⊢
    refine ⟨_, rfl, n, rfl, by omega, by omega, for_range (lo := 0) (n := (n : Int).toNat) (ivFu H p c Td m n) ⟨U, none, none, none, none, none, rfl, g0, hTd, hU0, nTU, ⟨[], [], uT, .nil, rfl, trivial⟩, [], uU, Nat.le_refl 0, fun u hu => by cases hu⟩ ?_ ?_⟩
    · rintro i σ HX hi ⟨U, v5, v6, v7, v8, v9, rfl, gd, t0, u0, ne, ⟨xs, sts, tx, px, lx, fx⟩, us, ux, ul, ub⟩
      rw [show (0 : Int) + (i : Int) = ((i : Nat) : Int) by omega]
      walk_at "sm"
      refine ⟨p, c, rfl, gd.h, fun r kd H1 f1 h1 hk => ?_⟩
      have gd1 := gd.draw f1 h1
      have kp1 := fr_kp f1 gd.h
      have fS1 : FuS H p c Td U m i H1 := ⟨gd1, t0, u0, ne, ⟨xs, sts, f1 _ _ (gd.ne t0).1 tx, Paired.mapP px fun _ _ y => y.tp kp1, lx, fx⟩, us, f1 _ _ (gd.ne u0).1 ux, ul, ub⟩
      refine ⟨mdFu H p c Td U m n i v7 v8 v9, ?_, ?_⟩
      · walk_at "sm"
        have fS2 := fS1
        obtain ⟨_, _, _, _, _, us1, ux1, _, _⟩ := fS2
        refine ⟨_, .inl (SqL.of ux1), ite2 (fun _ => ⟨r, kd, rfl, hk, fun H2 e2 => ⟨rfl, ite2 (fun _ => ⟨sz (by decide), fun t ht => ?_⟩) fun _ => ⟨r, kd, rfl, hk.go e2, fS1.go e2⟩⟩⟩) fun _ => ⟨r, kd, rfl, hk, fS1⟩⟩
        exact ⟨t, .pr .bxor, rfl, upd_same, (fS1.go e2).go (Evl.Ex.new ht)⟩
      · rintro σ H2 ⟨kp, kd, rfl, hk2, fS2⟩
        walk_at "sm"
        refine ⟨Nat.zero_le _, fun O hO => ?_⟩
        have lm := many_le kd
        have eO := Evl.Ex.new (o := .lst []) hO
        have fS3 := fS2.go eO
        have hk3 := hk2.go eO
        have hO0 : H O = none := fS2.1.fresh hO
        have oO : upd H2 O (.lst []) O = some (.lst []) := upd_same
        have nT : O ≠ Td := fun z => by obtain ⟨_, _, _, _, ⟨_, _, tx, _⟩, _⟩ := fS2; rw [z, tx] at hO; cases hO
        have nU : O ≠ U := fun z => by obtain ⟨_, _, _, _, _, _, ux, _⟩ := fS2; rw [z, ux] at hO; cases hO
        generalize upd H2 O (.lst []) = H3 at fS3 hk3 oO ⊢
        refine ⟨_, rfl, kp, kd, rfl, hk3, fun H4 e4 => ?_⟩
        replace fS3 := fS3.go e4
        replace hk3 := hk3.go e4
        replace oO := e4 _ _ oO
        refine ⟨_, rfl, by omega, by omega, for_range (lo := 0) (n := (kd.many : Int).toNat) (ivFo H p c Td U O kp kd m n i) ⟨v8, v9, [], [], rfl, fS3, hk3, hO0, nT, nU, oO, .nil, rfl, fun o ho => by cases ho⟩ ?_ ?_⟩
        · rintro j σ HY hj ⟨v8, v9, os, ops, rfl, fS, hkY, _, _, _, oY, pY, lj, okj⟩
          have li : i ≤ 41 := by omega
          have app : ∀ (HZ : Hp) (v8 : Option V) (r : Addr) (o : Opd), FuS H p c Td U m i HZ → KdAt HZ kp kd → HZ O = some (.lst os) → Paired (opR HZ) os ops → OpAt HZ r o → o.ok → o.fits i m → rAppend (.ref O) [.ref r] HZ fun x H1 => ivFo H p c Td U O kp kd m n i (j + 1)
              [some (.ref p), some (.int m), some (.int n), some (.ref Td), some (.ref U), some (.int i), some (.ref kp), some (.ref O), v8, v9] H1 := fun HZ v8 r o fS hk ho hp hr ok ft =>
            ⟨O, _, _, rfl, rfl, ho, Nat.lt_of_le_of_lt (show _ ≤ 100 by rw [paired_len hp, lj]; omega) (by decide), v8, v9, os ++ [.ref r], ops ++ [o], rfl, fS.side hO0 nT nU ho, hk.tp (tup_upd ho), hO0, nT, nU, upd_same, Paired.snoc ⟨r, rfl, tup_upd ho _ _ hr⟩ (Paired.mapP hp fun _ _ y => y.go (tup_upd ho)), by rw [List.length_append, lj]; rfl, fun u hu => by
              rcases List.mem_append.mp hu with h | h
              · exact okj u h
              · rw [List.mem_singleton.mp h]
                exact ⟨ok, ft⟩⟩
          have oth : ∀ HZ, FuS H p c Td U m i HZ → KdAt HZ kp kd → HZ O = some (.lst os) → Paired (opR HZ) os ops → spLO [.ref p, .int i, .int m] HZ (fun x H1 => rAppend (.ref O) [x] H1 fun x H1 => ivFo H p c Td U O kp kd m n i (j + 1)
              [some (.ref p), some (.int m), some (.int n), some (.ref Td), some (.ref U), some (.int i), some (.ref kp), some (.ref O), some (.int (0 + (j : Int))), v9] H1) E0 := fun HZ fS hk ho hp =>
            ⟨p, c, i, m, rfl, fS.1.h, by omega, hm, fun r o H2 f2 h2 hr ok ft => app H2 _ r o (fS.draw f2 h2) (hk.tp (fr_kp f2 fS.1.h)) (f2 _ _ (fS.1.ne hO0).1 ho) (Paired.mapP hp fun _ _ y => y.go (fr_kp f2 fS.1.h)) hr ok ft⟩
          have tyO : ∀ HZ, HZ O = some (.lst os) → tyV K "list" (.ref O) HZ := fun HZ h => .inl ⟨rfl, _, SqL.of h⟩
          walk_at "sm"
          have fSu := fS
          obtain ⟨_, _, _, _, _, us, ux, ul, ub⟩ := fSu
          refine ⟨_, .inl (SqL.of ux), ite2 (fun lu => tk fS.1.h (by decide) (by decide) fun r1 H1 _ _ f1 h1 => ⟨_, rfl, ite2 (fun _ => ⟨tyO _ (f1 _ _ (fS.1.ne hO0).1 oY), ?_⟩) fun _ => ?_⟩) fun _ => ⟨tyO _ oY, oth HY fS hkY oY pY⟩⟩
          · have ux1 := f1 _ _ (fS.1.ne fS.2.2.1).1 ux
            have fS1 := fS.draw f1 h1
            have kp1 := fr_kp f1 fS.1.h
            have lu2 : 0 < us.length := by rw [nI_len] at lu; omega
            refine ⟨.inl ⟨rfl, _, SqL.of ux1⟩, _, .inl (SqL.of ux1), tk h1 (by rw [nI_len]; omega) (by rw [nI_len]; omega) fun r2 H2 a1 a2 f2 h2 => ?_⟩
            have ux2 := f2 _ _ (fS.1.ne fS.2.2.1).1 ux1
            have fS2 := fS1.draw f2 h2
            have kp2 := fr_kp f2 h1
            rw [nI_len] at a2
            obtain ⟨e, rfl⟩ : ∃ e : Nat, r2 = e := ⟨r2.toNat, by omega⟩
            have el : e < us.length := by omega
            refine ⟨U, _, (e : Int), e, .int (us[e] : Nat), rfl, rfl, ux2, by omega, by omega, seqIx (by rw [nI_len]; exact el), at_nat (List.getElem?_eq_getElem el), sz (by decide), fun t ht => ?_⟩
            rw [nI_erase] at ht ⊢
            have ue : us[e] < i := ub _ (List.getElem_mem el)
            have fS3 := (fS2.pop ux2 (us' := us.eraseIdx e) (by rw [List.length_eraseIdx]; split <;> omega) fun u hu => ub u (List.mem_of_mem_eraseIdx hu)).go (Evl.Ex.new (o := .tup [.str "place", .int (us[e] : Nat)]) ht)
            have nUO : U ≠ O := Ne.symm nU
            have tp3 : ∀ b ys, HY b = some (.tup ys) → upd (upd H2 U (.lst ((nI (us.eraseIdx e)).map V.int))) t (.tup [.str "place", .int (us[e] : Nat)]) b = some (.tup ys) := fun b ys h => (Evl.Ex.new ht) _ _ (tup_upd ux2 _ _ (kp2 _ _ (kp1 _ _ h)))
            refine app _ _ t (.pl us[e]) fS3 (hkY.tp tp3) ((Evl.Ex.new ht) _ _ ?_) (Paired.mapP pY fun _ _ y => y.go tp3) upd_same (show us[e] ≤ 199 by omega) ue
            rw [upd_ne nU]
            exact f2 _ _ (fS.1.ne hO0).1 (f1 _ _ (fS.1.ne hO0).1 oY)
          · have kp1 := fr_kp f1 fS.1.h
            have oy1 := f1 _ _ (fS.1.ne hO0).1 oY
            exact ⟨tyO _ oy1, oth _ (fS.draw f1 h1) (hkY.tp kp1) oy1 (Paired.mapP pY fun _ _ y => y.go kp1)⟩
        · rintro σ HY ⟨v8, v9, os, ops, rfl, fS, hkY, _, _, _, oY, pY, lj, okj⟩
          have fSu := fS
          obtain ⟨_, _, _, _, _, us, ux, ul, ub⟩ := fSu
          walk_at "sm"
          have lk : ops.length = kd.many := by omega
          refine ⟨⟨_, SqL.of ux⟩, lcg_list (K := K) (a := U) (xs := (nI us).map V.int) (ivFd HY i) (fun D hD => ⟨Evl.Ex.new hD, [], upd_same, Nat.zero_le _, fun u hu => by cases hu⟩) (fun D i HZ hD hi h => SqL.of (h.1 _ _ ux)) ?_ ?_⟩
          · rintro D x y HZ hD hx ⟨e1, ws, w1, w2, w3⟩
            obtain ⟨u, hu, rfl⟩ := nat_at hx
            have ui := ub u (List.mem_of_getElem? hu)
            walk_at "sm"
            refine ⟨sz (by decide), fun t ht => ?_⟩
            have eT := Evl.Ex.new (o := .tup [.str "place", .int (u : Nat)]) ht
            have oT : upd HZ t (.tup [.str "place", .int (u : Nat)]) t = some (.tup [.str "place", .int (u : Nat)]) := upd_same
            generalize upd HZ t (.tup [.str "place", .int (u : Nat)]) = HT at eT oT ⊢
            have eT2 := e1.trans eT
            have wT := eT _ _ w1
            refine ⟨Opd.D (.pl u), ops.map Opd.D, OpAt.dp (o := .pl u) oT, .lst (SqL.of (eT2 _ _ oY)) (ops_dp (Paired.mapP pY fun _ _ y => y.go fun b ys h => eT2 _ _ h)), shaped_of (Opd.lay _) (by decide), shaped_of (lay_lst fun d hd => by obtain ⟨o, _, rfl⟩ := List.mem_map.mp hd; exact o.lay) (by decide), _, rfl, ?_⟩
            have addd : ∃ acc, HT D = some (HO.lst acc) ∧ acc.length < sizeLine ∧ ivFd HY i D (x + 1) (upd HT D (HO.lst (acc ++ [V.int u]))) := by
              refine ⟨_, wT, Nat.lt_of_le_of_lt (show _ ≤ 100 by rw [nI_len]; have := (List.getElem?_eq_some_iff.mp hu).1; omega) (by decide), Evl.Ex.mut eT2 hD, ws ++ [u], by rw [upd_same, nI_snoc], by rw [List.length_append]; show ws.length + 1 ≤ x + 1; omega, fun v hv => ?_⟩
              rcases List.mem_append.mp hv with h | h
              · exact w3 v h
              · rw [List.mem_singleton.mp h]
                exact ui
            split
            · exact addd
            · exact ⟨eT2, ws, wT, by omega, w3⟩
          · rintro D HZ hD ⟨e1, ws, w1, w2, w3⟩
            walk_at "sm"
            rw [nI_len] at w2
            refine ⟨sz (by decide), fun u hu => ?_⟩
            have eU := Evl.Ex.new (o := .lst [V.int (i : Nat)]) hu
            have oU : upd HZ u (.lst [V.int (i : Nat)]) u = some (.lst [V.int (i : Nat)]) := upd_same
            generalize upd HZ u (.lst [V.int (i : Nat)]) = HU at eU oU ⊢
            refine ⟨D, u, _, _, rfl, rfl, eU _ _ w1, oU, sz (by rw [nI_len]; show ws.length + 1 ≤ 100000; omega), fun N hN => ?_⟩
            have nD0 := fS.1.fresh (Evl.fresh_back (e1.trans eU) hN)
            have eN := (e1.trans eU).trans (Evl.Ex.new (o := .lst ((nI ws).map V.int ++ [V.int (i : Nat)])) hN)
            have oN : upd HU N (.lst ((nI ws).map V.int ++ [V.int (i : Nat)])) N = some (.lst ((nI (ws ++ [i])).map V.int)) := by rw [upd_same, nI_snoc]
            have hTdN : ∀ z, (e1.trans eU) = z → True := fun _ _ => trivial
            have hNY : HY N = none := Evl.fresh_back (e1.trans eU) hN
            generalize upd HU N (.lst ((nI ws).map V.int ++ [V.int (i : Nat)])) = HN at eN oN ⊢
            have fSN := fS.go eN
            obtain ⟨gdN, t0, _, _, ⟨xs, sts, tx, px, lx, fx⟩, _⟩ := fSN
            have nTN : Td ≠ N := fun z => by
              obtain ⟨_, _, _, _, ⟨_, _, tx0, _⟩, _⟩ := fS
              rw [← z, tx0] at hNY
              cases hNY
            refine ⟨.inl ⟨rfl, _, SqL.of tx⟩, os, .inl ⟨SqL.of (eN _ _ oY), fun t ht => ⟨sz (by decide), fun r hr => ?_⟩⟩⟩
            have y1 := Evl.Ex.new (o := .tup os) ht
            have z1 : upd HN t (.tup os) t = some (.tup os) := upd_same
            generalize upd HN t (.tup os) = H6 at y1 z1 hr ⊢
            have y2 := Evl.Ex.new (o := .tup [.ref kp, .ref t]) hr
            have z2 : upd H6 r (.tup [.ref kp, .ref t]) r = some (.tup [.ref kp, .ref t]) := upd_same
            generalize upd H6 r (.tup [.ref kp, .ref t]) = H7 at y2 z2 ⊢
            have ee := y1.trans y2
            have tx7 := ee _ _ tx
            have tu := tup_upd (o := .lst (xs ++ [.ref r])) tx7
            have eA : Evl.Ex HY H7 := eN.trans ee
            refine ⟨Td, _, _, rfl, rfl, tx7, Nat.lt_of_le_of_lt (show _ ≤ 100 by rw [paired_len px, lx]; omega) (by decide), N, _, _, _, _, _, rfl, (gdN.go ee).upd t0, t0, nD0, nTN, ⟨xs ++ [.ref r], sts ++ [⟨kd, ops⟩], upd_same, ?_, by rw [List.length_append, lx]; rfl, ?_⟩, ws ++ [i], ?_, ?_, ?_⟩
            · exact Paired.snoc ⟨r, kp, t, rfl, tu _ _ z2, (hkY.go eA).tp tu, os, tu _ _ (y2 _ _ z1), Paired.mapP pY fun _ _ y => y.go fun b xs h => tu _ _ (eA _ _ h)⟩ (Paired.mapP px fun _ _ y => y.tp fun b xs h => tu _ _ (ee _ _ h))
            · refine fit_snoc fx ⟨lk, fun o ho => (okj o ho).1⟩ fun o ho => ?_
              have := (okj o ho).2
              rw [lx, Nat.zero_add]
              exact this
            · rw [upd_ne (Ne.symm nTN)]
              exact ee _ _ oN
            · rw [List.length_append]
              show ws.length + 1 ≤ i + 1
              omega
            · intro v hv
              rcases List.mem_append.mp hv with h | h
              · have := w3 v h
                omega
              · rw [List.mem_singleton.mp h]
                omega
    · rintro σ HX ⟨U, v5, v6, v7, v8, v9, rfl, gd, t0, u0, ne, ⟨xs, sts, tx, px, lx, fx⟩, us, ux, ul, ub⟩
      walk_at "sm"
      refine ⟨Td, m, sts, rfl, ⟨xs, tx, px⟩, fx, by omega, by omega, fun r ss HY e hr hR hok l1 l2 => ?_⟩
      have gY := gd.go e
      exact k r ss HY gY.fr gY.h hR (fun z => by obtain ⟨ys, hy⟩ := hand_lst gd.h; rw [z, hy] at hr; cases hr) l1 (by omega) hok
end


/-! ### rows drawn -/
section
variable {P : Program} {w : World} {K : PySem.W.Frag} {mg : Str → Option Value} {base : Heap} {a : Ad}
def spDS : Sp := fun vs H Q _ => ∃ (p c : Addr) (m : Nat), vs = [.ref p, .int m] ∧ HandAt H p c ∧ m ≤ 6 ∧ ∀ l sts H', Fr p H H' → HandAt H' p c → RowsS H' l sts → l ≠ p → 1 ≤ sts.length → sts.length ≤ 201 → (∀ s ∈ sts, s.ok) → Q (.ref l) H'
theorem ok_law_drawn_steps (T : Txt K mg a) : FnOk P w K mg base CX0 6 a.f_law_drawn_steps a.d_law_drawn_steps ["_law_hand_here", "_law_many"] spDS := by
  refine T.F_law_drawn_steps.ok sc_law_drawn_steps (fun vs H Q E h => ?_) (fun cdv A outer s H vs Q E hr h => ?_)
  · obtain ⟨_, _, _, rfl, _⟩ := h
    rfl
  · obtain ⟨p, c, m, rfl, hh, hm, k⟩ := h
    refine ⟨_, (pss_cons (ps_set (i := 2) sc_law_drawn_steps.nd rfl (by first | exact Or.inl rfl | exact Or.inr rfl) (pe_call (ok_law_take T) (hr.mono (by decide)) rfl T.m_law_take T.F_law_take.kp T.b_law_take .nil pass0 (pa_cons (pv 0) (pa_cons pe_int pa_nil))))
  (pss_cons (ps_if (pt_cmpR op_eq (pv 2) pe_int (nomark _)) (pss_one (ps_ret (pe_call (ok_law_chain_steps T) (hr.mono (by decide)) rfl T.m_law_chain_steps T.F_law_chain_steps.kp T.b_law_chain_steps .nil pass0 (pa_cons (pv 0) (pa_cons (pv 1) (pa_cons (pe_op op_add pe_int (pe_call (ok_law_take T) (hr.mono (by decide)) rfl T.m_law_take T.F_law_take.kp T.b_law_take .nil pass0 (pa_cons (pv 0) (pa_cons pe_int pa_nil)))) pa_nil))))))
    pss_nil)
  (pss_one (ps_ret (pe_call (ok_law_full_web T) (hr.mono (by decide)) rfl T.m_law_full_web T.F_law_full_web.kp T.b_law_full_web .nil pass0 (pa_cons (pv 0) (pa_cons (pv 1) (pa_cons (pe_op op_add pe_int (pe_call (ok_law_take T) (hr.mono (by decide)) rfl T.m_law_take T.F_law_take.kp T.b_law_take .nil pass0 (pa_cons (pv 0) (pa_cons (pe_ifExp (pt_cmpR op_eq (pv 2) pe_int (nomark _)) pe_int pe_int) pa_nil)))) pa_nil)))))))), ?_⟩
    walk_at "sm"
    refine tk hh (by decide) (by decide) fun r0 H1 r1 r2 f1 h1 => ?_
    walk_at "sm"
    refine ite2 (fun _ => tk h1 (by decide) (by decide) fun r H2 a1 a2 f2 h2 => ?_) fun _ => ?_
    · obtain ⟨n, rfl⟩ : ∃ n : Nat, r = n := ⟨r.toNat, by omega⟩
      refine ⟨_, rfl, ?_⟩
      rw [show (190 : Int) + (n : Int) = ((190 + n : Nat) : Int) by omega]
      exact ⟨p, c, m, 190 + n, rfl, h2, hm, by omega, by omega, fun l sts H3 f3 h3 hr3 ne hl hok => k l sts H3 ((f1.trans f2).trans f3) h3 hr3 ne (by omega) (by omega) hok⟩
    · have go : ∀ mm : Int, 0 < mm → mm ≤ 40 → spTake [.ref p, .int mm] H1 (fun v HX => ∃ i, v = .int i ∧ spFu [.ref p, .int m, .int (1 + i)] HX Q E0) E0 := fun mm m1 m2 => tk h1 m1 (by omega) fun r H2 a1 a2 f2 h2 => by
        obtain ⟨n, rfl⟩ : ∃ n : Nat, r = n := ⟨r.toNat, by omega⟩
        refine ⟨_, rfl, ?_⟩
        rw [show (1 : Int) + (n : Int) = ((1 + n : Nat) : Int) by omega]
        exact ⟨p, c, m, 1 + n, rfl, h2, hm, by omega, by omega, fun l sts H3 f3 h3 hr3 ne l1 l2 hok => k l sts H3 ((f1.trans f2).trans f3) h3 hr3 ne l1 l2 hok⟩
      exact ite2 (fun _ => go 40 (by decide) (by decide)) fun _ => go 8 (by decide) (by decide)
end


/-! ### what is due -/
def isPl (i : Nat) (o : Opd) : Bool := match o with
  | .pl n => decide (i ≤ n)
  | _ => false
theorem any_pl {ops : List Opd} (h : ∀ o ∈ ops, o.ok) (i : Nat) : ops.any (isPl i) = (befs ops).any fun b => decide (i ≤ b) := by
  rw [Bool.eq_iff_iff, List.any_eq_true, List.any_eq_true]
  constructor
  · rintro ⟨o, h1, h2⟩
    cases o with
    | pl n => exact ⟨n, (befs_mem h).mpr h1, h2⟩
    | gi n => cases h2
    | nu n => cases h2
  · rintro ⟨n, h1, h2⟩
    exact ⟨.pl n, (befs_mem h).mp h1, h2⟩
theorem befs_few (ops : List Opd) : (befs ops).length ≤ ops.length := by
  have nd : ((befs ops).map Opd.pl).Nodup := List.pairwise_map.mpr ((befs_lt ops).imp fun h e => by cases e; omega)
  have sub : (befs ops).map Opd.pl ⊆ ops := fun o ho => by
    obtain ⟨k, hk, rfl⟩ := List.mem_map.mp ho
    unfold befs at hk
    rw [List.mem_filter, decide_eq_true_eq] at hk
    exact hk.2
  have := nd.length_le_of_subset sub
  rwa [List.length_map] at this
theorem st_none {m : Nat} : ∀ {l : List (Option Stp)} {i : Nat}, stDue m i l = none → ∃ sts : List Stp, l = sts.map some ∧ ∀ (j : Nat) (s : Stp), sts[j]? = some s → elDue m (i + j) (some s) = none
  | [], i, _ => ⟨[], rfl, fun j s h => by simp at h⟩
  | o :: r, i, h => by
    have h' : (match elDue m i o with
      | some z => some ((i : Int), z)
      | none => stDue m (i + 1) r) = none := h
    cases o with
    | none => cases h'
    | some s =>
      cases e : elDue m i (some s) with
      | some z => rw [e] at h'; cases h'
      | none =>
        rw [e] at h'
        obtain ⟨sts, rfl, k⟩ := st_none h'
        refine ⟨s :: sts, rfl, fun j t ht => ?_⟩
        cases j with
        | zero => cases ht; exact e
        | succ j => have := k j t ht; rwa [show i + 1 + j = i + (j + 1) by omega] at this
theorem el_none {m i : Nat} {s : Stp} (h : elDue m i (some s) = none) : (∀ b ∈ befs s.ops, b < i) ∧ s.ops.any (isGi m) = false := by
  rw [elDue_some] at h
  by_cases c : (befs s.ops).any (fun b => decide (i ≤ b)) = true
  · rw [if_pos c] at h; cases h
  · rw [if_neg c] at h
    refine ⟨fun b hb => ?_, ?_⟩
    · rcases Nat.lt_or_ge b i with g | g
      · exact g
      · exact absurd (List.any_eq_true.mpr ⟨b, hb, decide_eq_true g⟩) c
    · cases e : s.ops.any (isGi m) with
      | false => rfl
      | true => rw [e] at h; cases h
/-- rows of the law: steps, and what is none -/
def roR (H : Hp) (x : V) : Option Stp → Prop
  | none => x = .non ∨ (∃ i, x = .int i) ∨ ∃ s, x = .str s
  | some s => rowS H x s
theorem roR.tp {H H' : Hp} {x : V} {o : Option Stp} (e : ∀ b xs, H b = some (.tup xs) → H' b = some (.tup xs)) (h : roR H x o) : roR H' x o := by
  cases o with
  | none => exact h
  | some s => exact rowS.tp e h
theorem roR.go {H H' : Hp} {x : V} {o : Option Stp} (e : Evl.Ex H H') (h : roR H x o) : roR H' x o := h.tp fun _ _ q => e _ _ q
def rowsV (H : Hp) (v : V) : Option (List (Option Stp)) → Prop
  | none => v = .non ∨ (∃ i, v = .int i) ∨ ∃ s, v = .str s
  | some l => ∃ q xs, v = .ref q ∧ H q = some (.lst xs) ∧ Paired (roR H) xs l ∧ l.length ≤ 300 ∧ ∀ s, some s ∈ l → s.ok
theorem rows_some {H : Hp} {l : Addr} {xs : List V} {sts : List Stp} (h1 : H l = some (.lst xs)) (h2 : Paired (roR H) xs (sts.map some)) : RowsS H l sts := by
  refine ⟨xs, h1, ?_⟩
  clear h1
  induction sts generalizing xs with
  | nil => cases h2; exact .nil
  | cons s r ih => cases h2 with
    | cons f t => exact .cons f (ih t)
theorem rows_of {H : Hp} : ∀ {xs : List V} {sts : List Stp}, Paired (rowS H) xs sts → Paired (roR H) xs (sts.map some)
  | _, _, .nil => .nil
  | _, _, .cons f t => .cons f (rows_of t)
def dueV (H : Hp) (v : V) : Option (Int × Str) → Prop
  | none => v = .non
  | some iz => ∃ q, v = .ref q ∧ H q = some (.tup [.int iz.1, .str iz.2])
/-- a walk over enumerate(a list in slot n) -/
theorem for_lstE {K : PySem.W.Frag} {n : Nat} {p : Addr} {xs : List V} {g : TG} {tb : TS} {D : Ends} {σ : L2.St} {H : Hp} (hv : σ[n]? = some (some (.ref p))) (Pv : Nat → L2.St → Hp → Prop) (h0 : Pv 0 σ H) (he : ∀ i σ HX, Pv i σ HX → HX p = some (.lst xs))
    (hs : ∀ i σ HX T y, xs[i]? = some y → Pv i σ HX → HX T = none → g (.ref T) σ (upd HX T (.tup [.int (i : Nat), y])) fun σ2 H2 => tb { D with nx := Pv (i + 1), ct := Pv (i + 1), bk := D.nx } σ2 H2) (hd : ∀ σ HX, Pv xs.length σ HX → D.nx σ HX) :
    tFor (iEnum K (tCons (tVar n) tNil)) g tb D σ H := by
  refine ⟨_, hv, p, xs, rfl, SqL.of (he _ _ _ h0), for_en (n := xs.length) Pv h0 (fun i σ HX hi h => ⟨xs, xs[i], SqL.of (he _ _ _ h), List.getElem?_eq_getElem hi⟩) (fun σ HX h => ⟨xs, SqL.of (he _ _ _ h), Nat.le_refl _⟩) ?_ hd⟩
  rintro i σ HX x HY hi h ⟨Tt, y, rfl, hT, rfl, hy⟩
  exact hs i σ HX Tt y (hy xs (SqL.of (he _ _ _ h))) h hT
theorem lc_pl {K : PySem.W.Frag} {o : Addr} {ops : List Opd} {H : Hp} {m : Nat} {s0 s1 s2 s4 s5 s6 : Option V} {Q : VK} (ho : OpsAt H o ops) (hl : ops.length ≤ 100) (k : ∀ D H', Evl.Ex H H' → H' D = some (.lst ((ops.map (isPl m)).map V.bl)) → Q (.ref D) H') :
    (∃ xs, SqT K H o xs) ∧ LcG (Itt K o) (gName 6) tYes (tAndV (tOp rEq (tOp (rIxT K) (tVar 6) (tC (V.int 0))) (tC (V.str "place"))) (tOp (rI0 fun i j => V.bl (decide (j ≤ i))) (tOp (rIxT K) (tVar 6) (tC (V.int 1))) (tVar 3))) [6] [s0, s1, s2, some (.int m), s4, s5, s6] Q H := by
  obtain ⟨xs, hx, hp⟩ := ho
  have lx := paired_len hp
  refine ⟨⟨_, SqT.of hx⟩, lcg_tup (K := K) (a := o) (xs := xs) (fun D i H' => Evl.Ex H H' ∧ H' D = some (.lst (((ops.take i).map (isPl m)).map V.bl))) (fun D hD => ⟨Evl.Ex.new hD, upd_same⟩) (fun D i HX hD hi h => SqT.of (h.1 _ _ hx)) ?_ ?_⟩
  · rintro D i y HX hD hi ⟨f1, f2⟩
    obtain ⟨od, ho1, q, rfl, hq⟩ := paired_at hp hi
    have hq2 := hq.go f1
    have li := (List.getElem?_eq_some_iff.mp hi).1
    have fin : ∀ b, b = isPl m od → ∃ acc, HX D = some (HO.lst acc) ∧ acc.length < sizeLine ∧ Evl.Ex H (upd HX D (HO.lst (acc ++ [V.bl b]))) ∧ upd HX D (HO.lst (acc ++ [V.bl b])) D = some (.lst (((ops.take (i + 1)).map (isPl m)).map V.bl)) := by
      rintro b rfl
      refine ⟨_, f2, Nat.lt_of_le_of_lt (show _ ≤ 100 by rw [List.length_map, List.length_map, List.length_take]; omega) (by decide), f1.mut hD, ?_⟩
      rw [upd_same, List.take_add_one, ho1, List.map_append, List.map_append]
      rfl
    walk_at "sm"
    refine ix0 hq2 ⟨rfl, ?_⟩
    cases od with
    | pl n => exact iteP rfl (ix1 hq2 ⟨_, rfl, fin _ (decide_eq_decide.mpr ⟨fun z => by exact_mod_cast z, fun z => by exact_mod_cast z⟩)⟩)
    | gi n => exact iteN (show ¬ (V.str "given" = V.str "place") by decide +kernel) (fin false rfl)
    | nu n => exact iteN (show ¬ (V.str "number" = V.str "place") by decide +kernel) (fin false rfl)
  · rintro D HX hD ⟨f1, f2⟩
    rw [lx, List.take_length] at f2
    exact k D HX f1 f2
theorem lc_gi {K : PySem.W.Frag} {o : Addr} {ops : List Opd} {H : Hp} {m : Nat} {s0 s2 s3 s4 s5 s6 : Option V} {Q : VK} (ho : OpsAt H o ops) (hl : ops.length ≤ 100) (k : ∀ D H', Evl.Ex H H' → H' D = some (.lst ((ops.map (isGi m)).map V.bl)) → Q (.ref D) H') :
    (∃ xs, SqT K H o xs) ∧ LcG (Itt K o) (gName 6) tYes (tAndV (tOp rEq (tOp (rIxT K) (tVar 6) (tC (V.int 0))) (tC (V.str "given"))) (tOp (rI0 fun i j => V.bl (decide (j ≤ i))) (tOp (rIxT K) (tVar 6) (tC (V.int 1))) (tVar 1))) [6] [s0, some (.int m), s2, s3, s4, s5, s6] Q H := by
  obtain ⟨xs, hx, hp⟩ := ho
  have lx := paired_len hp
  refine ⟨⟨_, SqT.of hx⟩, lcg_tup (K := K) (a := o) (xs := xs) (fun D i H' => Evl.Ex H H' ∧ H' D = some (.lst (((ops.take i).map (isGi m)).map V.bl))) (fun D hD => ⟨Evl.Ex.new hD, upd_same⟩) (fun D i HX hD hi h => SqT.of (h.1 _ _ hx)) ?_ ?_⟩
  · rintro D i y HX hD hi ⟨f1, f2⟩
    obtain ⟨od, ho1, q, rfl, hq⟩ := paired_at hp hi
    have hq2 := hq.go f1
    have li := (List.getElem?_eq_some_iff.mp hi).1
    have fin : ∀ b, b = isGi m od → ∃ acc, HX D = some (HO.lst acc) ∧ acc.length < sizeLine ∧ Evl.Ex H (upd HX D (HO.lst (acc ++ [V.bl b]))) ∧ upd HX D (HO.lst (acc ++ [V.bl b])) D = some (.lst (((ops.take (i + 1)).map (isGi m)).map V.bl)) := by
      rintro b rfl
      refine ⟨_, f2, Nat.lt_of_le_of_lt (show _ ≤ 100 by rw [List.length_map, List.length_map, List.length_take]; omega) (by decide), f1.mut hD, ?_⟩
      rw [upd_same, List.take_add_one, ho1, List.map_append, List.map_append]
      rfl
    walk_at "sm"
    refine ix0 hq2 ⟨rfl, ?_⟩
    cases od with
    | gi n => exact iteP rfl (ix1 hq2 ⟨_, rfl, fin _ (decide_eq_decide.mpr ⟨fun z => by exact_mod_cast z, fun z => by exact_mod_cast z⟩)⟩)
    | pl n => exact iteN (show ¬ (V.str "place" = V.str "given") by decide +kernel) (fin false rfl)
    | nu n => exact iteN (show ¬ (V.str "number" = V.str "given") by decide +kernel) (fin false rfl)
  · rintro D HX hD ⟨f1, f2⟩
    rw [lx, List.take_length] at f2
    exact k D HX f1 f2
theorem chk {v : V} {lo hi : Int} {A B : Prop} (hA : wiB v lo hi = false → A) (hB : ∀ i, v = .int i → wiB v lo hi = true → lo ≤ i → i ≤ hi → B) : ∃ c, V.bl (whB v) = V.bl c ∧ if (!c) = true then A else ∃ x, v = .int x ∧ if lo ≤ x then ∃ i, v = .int i ∧ if (!decide (i ≤ hi)) = true then A else B else A := by
  refine ⟨_, rfl, ?_⟩
  cases v with
  | int i =>
    refine iteF ⟨i, rfl, ite2 (fun h1 => ⟨i, rfl, ?_⟩) fun h1 => hA (by show (decide _ && decide _) = false; rw [decide_eq_false h1]; rfl)⟩
    by_cases h2 : i ≤ hi
    · rw [decide_eq_true h2]
      exact iteF (hB i rfl (by show (decide _ && decide _) = true; rw [decide_eq_true h1, decide_eq_true h2]; rfl) h1 h2)
    · rw [decide_eq_false h2]
      exact iteT (hA (by show (decide _ && decide _) = false; rw [decide_eq_false h2, Bool.and_false]))
  | _ => exact iteT (hA rfl)
section
variable {P : Program} {w : World} {K : PySem.W.Frag} {mg : Str → Option Value} {base : Heap} {a : Ad}
def spDu : Sp := fun vs H Q _ => ∃ (wv mv rv : V) (els : Option (List (Option Stp))), vs = [wv, mv, rv] ∧ PlainV H wv ∧ PlainV H mv ∧ rowsV H rv els ∧ ∀ d v H', Evl.Ex H H' → WD wv mv els d → dueV H' v d → Q v H'
def ivDu (H : Hp) (wv : V) (m : Nat) (q : Addr) (l : List (Option Stp)) : Nat → L2.St → Hp → Prop := fun i σ H' => ∃ v3 v4 v5 v6, σ = [some wv, some (.int m), some (.ref q), v3, v4, v5, v6] ∧ Evl.Ex H H' ∧ stDue m i (l.drop i) = stDue m 0 l
def ivDx (wd m : Nat) (q r : Addr) (bs : List (List Nat)) (e : Nat) (H : Hp) : Nat → L2.St → Hp → Prop := fun j σ H' => ∃ w3 w4 w6, σ = [some (.int wd), some (.int m), some (.ref q), w3, w4, some (.ref r), w6] ∧ H' = H ∧ ∀ i, i < j → Rc bs 0 e i
theorem ok_law_web_due (T : Txt K mg a) : FnOk P w K mg base CX0 4 a.f_law_web_due a.d_law_web_due ["_law_width", "_law_many", "_law_rows"] spDu := by
  refine T.F_law_web_due.ok sc_law_web_due (fun vs H Q E h => ?_) (fun cdv A outer s H vs Q E hr h => ?_)
  · obtain ⟨_, _, _, _, rfl, _⟩ := h
    rfl
  · obtain ⟨wv, mv, rv, els, rfl, hw, hm, hR, k⟩ := h
    refine ⟨_, (pss_cons (ps_if (PW.pt (pw_or (pt_not (pt_val (pe_call (ok_law_whole T) (hr.mono (by decide)) rfl T.m_law_whole T.F_law_whole.kp T.b_law_whole .nil pass0 (pa_cons (pv 0) pa_nil)))) (pw_or1 (pt_not (pt_chain op_le op_le pe_int (pv 0) pe_int))))) (pss_one (ps_ret (pe_tup (pa_cons (pe_un un_neg pe_int) (pa_cons pe_str pa_nil)))))
    pss_nil)
  (pss_cons (ps_if (PW.pt (pw_or (pt_not (pt_val (pe_call (ok_law_whole T) (hr.mono (by decide)) rfl T.m_law_whole T.F_law_whole.kp T.b_law_whole .nil pass0 (pa_cons (pv 1) pa_nil)))) (pw_or1 (pt_not (pt_chain op_le op_le pe_int (pv 1) pe_int))))) (pss_one (ps_ret (pe_tup (pa_cons (pe_un un_neg pe_int) (pa_cons pe_str pa_nil)))))
    pss_nil)
  (pss_cons (ps_if (PW.pt (pw_or (pt_not (pt_val (pe_callB call_isi (by rfl) T.z_isinstance (by decide +kernel) (pa_cons (pv 2) (pa_cons (pe_bltn (v := .ty "list") (by rfl) T.z_list (by decide +kernel) rfl) pa_nil))))) (pw_or (pt_cmpR op_eq (pe_callB call_len_seq (by rfl) T.z_len (by decide +kernel) (pa_cons (pv 2) pa_nil)) pe_int (nomark _)) (pw_or1 (pt_cmpR op_gt (pe_callB call_len_seq (by rfl) T.z_len (by decide +kernel) (pa_cons (pv 2) pa_nil)) pe_int (nomark _)))))) (pss_one (ps_ret (pe_tup (pa_cons (pe_un un_neg pe_int) (pa_cons pe_str pa_nil)))))
    pss_nil)
  (pss_cons (ps_for PassesOwn.never rfl (pi_enum (by rfl) T.z_enumerate (pa_cons (pv 2) pa_nil)) (pg_tup rfl (pgs_cons (pg_name (i := 3) sc_law_web_due.nd rfl (by first | exact Or.inl rfl | exact Or.inr rfl)) (pgs_cons (pg_name (i := 4) sc_law_web_due.nd rfl (by first | exact Or.inl rfl | exact Or.inr rfl)) pgs_nil))) (pss_cons (ps_if (pt_not (pt_val (pe_callB call_isi (by rfl) T.z_isinstance (by decide +kernel) (pa_cons (pv 4) (pa_cons (pe_bltn (v := .ty "tuple") (by rfl) T.z_tuple (by decide +kernel) rfl) pa_nil))))) (pss_one (ps_ret (pe_tup (pa_cons (pv 3) (pa_cons pe_str pa_nil)))))
    pss_nil)
  (pss_cons (ps_if (pt_val (pe_callB (cr_any rfl) (by rfl) T.z_any (by decide +kernel) (pa_cons (pe_lc (own := [("_law_o", 6)]) (g := gName 6) (tt := tYes) rfl sc_law_web_due.nd (pi_tup (pe_ix ix_tup (pv 4) pe_int (fun _ _ => rfl))) (blkOk_by (own := [("_law_o", 6)]) (N := ["_law_width", "_law_many", "_law_rows", "_law_place", "_law_row", "_law_under_here", "_law_o"]) (sc := defScope s_law_web_due) (by decide +kernel)) (fun _ _ _ _ _ => pg_name (i := 6) sc_law_web_due.nd rfl (Or.inl rfl)) (fun _ _ _ _ _ => pts_nil) (fun _ _ _ _ _ => (pe_and (pe_cmpR op_eq (pe_ix ix_tup_b (pv 6) pe_int (fun _ _ => rfl)) pe_str (nomark _)) (pe_one (pe_cmpR op_ge (pe_ix ix_tup_b (pv 6) pe_int (fun _ _ => rfl)) (pv 3) (nomark _)))))) pa_nil))) (pss_one (ps_ret (pe_tup (pa_cons (pv 3) (pa_cons pe_str pa_nil)))))
    pss_nil)
  (pss_one (ps_if (pt_val (pe_callB (cr_any rfl) (by rfl) T.z_any (by decide +kernel) (pa_cons (pe_lc (own := [("_law_o", 6)]) (g := gName 6) (tt := tYes) rfl sc_law_web_due.nd (pi_tup (pe_ix ix_tup (pv 4) pe_int (fun _ _ => rfl))) (blkOk_by (own := [("_law_o", 6)]) (N := ["_law_width", "_law_many", "_law_rows", "_law_place", "_law_row", "_law_under_here", "_law_o"]) (sc := defScope s_law_web_due) (by decide +kernel)) (fun _ _ _ _ _ => pg_name (i := 6) sc_law_web_due.nd rfl (Or.inl rfl)) (fun _ _ _ _ _ => pts_nil) (fun _ _ _ _ _ => (pe_and (pe_cmpR op_eq (pe_ix ix_tup_b (pv 6) pe_int (fun _ _ => rfl)) pe_str (nomark _)) (pe_one (pe_cmpR op_ge (pe_ix ix_tup_b (pv 6) pe_int (fun _ _ => rfl)) (pv 1) (nomark _)))))) pa_nil))) (pss_one (ps_ret (pe_tup (pa_cons (pv 3) (pa_cons pe_str pa_nil)))))
    pss_nil)))))
  (pss_cons (ps_set (i := 5) sc_law_web_due.nd rfl (by first | exact Or.inl rfl | exact Or.inr rfl) (pe_call (ok_law_under T) (hr.mono (by decide)) rfl T.m_law_under T.F_law_under.kp T.b_law_under .nil pass0 (pa_cons (pe_call (ok_law_web_befores T) (hr.mono (by decide)) rfl T.m_law_web_befores T.F_law_web_befores.kp T.b_law_web_befores .nil pass0 (pa_cons (pv 2) pa_nil)) (pa_cons (pe_op op_sub (pe_callB call_len_seq (by rfl) T.z_len (by decide +kernel) (pa_cons (pv 2) pa_nil)) pe_int) pa_nil))))
  (pss_cons (ps_for PassesOwn.never rfl (pi_range1 (by rfl) T.z_range (pa_cons (pe_op op_sub (pe_callB call_len_seq (by rfl) T.z_len (by decide +kernel) (pa_cons (pv 2) pa_nil)) pe_int) pa_nil)) (pg_name (i := 3) sc_law_web_due.nd rfl (by first | exact Or.inl rfl | exact Or.inr rfl)) (pss_one (ps_if (pt_cmpR op_notIn_seq (pv 3) (pv 5) (by rfl)) (pss_one (ps_ret (pe_tup (pa_cons (pv 3) (pa_cons pe_str pa_nil)))))
    pss_nil)))
  (pss_one (ps_ret pe_non)))))))), ?_⟩
    walk_at "sm"
    have no : ∀ (z : Str) (H1 : Hp), Evl.Ex H H1 → (∃ y, shDue wv mv (els.map List.length) = some y ∧ y = z) → 0 + 1 + 1 ≤ sizeLine ∧ ∀ p, H1 p = none → Q (.ref p) (upd H1 p (.tup [.int (-1), .str z])) := fun z H1 e ⟨y, h1, h2⟩ => ⟨sz (by decide), fun p hp => k (some (-1, z)) _ _ (e.trans (Evl.Ex.new hp)) (.inl ⟨z, by rw [h1, h2], rfl⟩) ⟨p, rfl, upd_same⟩⟩
    refine ⟨wv, rfl, hw, chk (fun c1 => no "width" H (Evl.Ex.refl _) ⟨_, by unfold shDue; rw [if_pos c1], rfl⟩) fun wi ew c1 w1 w2 => ⟨mv, rfl, hm, chk (fun c2 => no "many" H (Evl.Ex.refl _) ⟨_, by unfold shDue; rw [if_neg (by rw [c1]; decide), if_pos c2], rfl⟩) fun mi em c2 m1 m2 => ?_⟩⟩
    have sd : ∀ o, shDue wv mv o = match o with
        | none => some ("steps" : Str)
        | some n => if 1 ≤ n ∧ n ≤ 200 then none else some ("steps" : Str) := fun o => by unfold shDue; rw [if_neg (by rw [c1]; decide), if_neg (by rw [c2]; decide)]; try rfl
    cases els with
    | none =>
      have st := no "steps" H (Evl.Ex.refl _) ⟨_, sd _, rfl⟩
      rcases hR with rfl | ⟨j, rfl⟩ | ⟨z, rfl⟩
      · exact isi_ty (t := "NoneType") (b := false) (.base .non) (by decide +kernel) ⟨_, rfl, iteT st⟩
      · exact isi_ty (t := "int") (b := false) (.base (.int _)) (by decide +kernel) ⟨_, rfl, iteT st⟩
      · exact isi_ty (t := "str") (b := false) (.base (.str _)) (by decide +kernel) ⟨_, rfl, iteT st⟩
    | some l =>
      obtain ⟨q, xs, rfl, hq, hx, hl, hok⟩ := hR
      have lx := paired_len hx
      have sn : shDue wv mv ((some l).map List.length) = if 1 ≤ l.length ∧ l.length ≤ 200 then none else some ("steps" : Str) := sd (some l.length)
      refine isi_ty (t := "list") (b := true) (.base (.lst hq)) (by decide +kernel) ⟨_, rfl, iteF ⟨q, rfl, xs, .inl (SqL.of hq), ite2 (fun h0 => ?_) fun h0 => ⟨q, rfl, xs, .inl (SqL.of hq), ite2 (fun h2 => ?_) fun h2 => ?_⟩⟩⟩
      · exact no "steps" H (Evl.Ex.refl _) ⟨_, sn.trans (if_neg (by omega)), rfl⟩
      · exact no "steps" H (Evl.Ex.refl _) ⟨_, sn.trans (if_neg (by omega)), rfl⟩
      · subst ew em
        obtain ⟨wd, rfl⟩ : ∃ wd : Nat, wi = wd := ⟨wi.toNat, by omega⟩
        obtain ⟨m, rfl⟩ : ∃ m : Nat, mi = m := ⟨mi.toNat, by omega⟩
        have l1 : 1 ≤ l.length := by omega
        have l2 : l.length ≤ 200 := by omega
        have sn0 := sn.trans (if_pos ⟨l1, l2⟩)
        refine for_lstE rfl (ivDu H (.int wd) m q l) ⟨none, none, none, none, rfl, Evl.Ex.refl _, rfl⟩ (fun i σ HX ⟨_, _, _, _, _, e, _⟩ => e _ _ hq) ?_ ?_
        · rintro i σ HX Tt y hy ⟨v3, v4, v5, v6, rfl, e1, hd⟩ hT
          obtain ⟨o, ho, hel⟩ := paired_at hx hy
          have e2 := e1.trans (Evl.Ex.new (o := .tup [.int (i : Nat), y]) hT)
          have hel2 := hel.go e2
          have dr : l.drop i = o :: l.drop (i + 1) := by
            obtain ⟨h1, h2⟩ := List.getElem?_eq_some_iff.mp ho
            rw [List.drop_eq_getElem_cons h1, h2]
          rw [dr] at hd
          have hd' : (match elDue m i o with
            | some z => some ((i : Int), z)
            | none => stDue m (i + 1) (l.drop (i + 1))) = stDue m 0 l := hd
          walk_at "sm"
          refine ⟨_, SqT.of upd_same, rfl, _, _, rfl, _, _, rfl, rfl, ?_⟩
          generalize upd HX Tt (.tup [.int (i : Nat), y]) = H2 at e2 hel2 ⊢
          have bad : ∀ (z : Str) (H3 : Hp), Evl.Ex H2 H3 → elDue m i o = some z → 0 + 1 + 1 ≤ sizeLine ∧ ∀ p, H3 p = none → Q (.ref p) (upd H3 p (.tup [.int (i : Nat), .str z])) := fun z H3 e3 hz => by
            rw [hz] at hd'
            exact ⟨sz (by decide), fun p hp => k (some ((i : Int), z)) _ _ ((e2.trans e3).trans (Evl.Ex.new hp)) (.inr ⟨wd, m, l, rfl, rfl, rfl, sn0, by omega, l1, l2, .inl ⟨_, hd'.symm, rfl⟩⟩) ⟨p, rfl, upd_same⟩⟩
          cases o with
          | none =>
            have rz := bad "step" H2 (Evl.Ex.refl _) rfl
            rcases hel2 with rfl | ⟨j, rfl⟩ | ⟨z, rfl⟩
            · exact isi_ty (t := "NoneType") (b := false) (.base .non) (by decide +kernel) ⟨_, rfl, iteT rz⟩
            · exact isi_ty (t := "int") (b := false) (.base (.int _)) (by decide +kernel) ⟨_, rfl, iteT rz⟩
            · exact isi_ty (t := "str") (b := false) (.base (.str _)) (by decide +kernel) ⟨_, rfl, iteT rz⟩
          | some s =>
            obtain ⟨rp, kp, op, rfl, t1, t2, t3⟩ := hel2
            have hs := hok s (List.mem_of_getElem? ho)
            have lo : s.ops.length ≤ 3 := by rw [hs.1]; exact many_le _
            refine isi_ty (t := "tuple") (b := true) (.base (.tup t1)) (by decide +kernel) ⟨_, rfl, iteF (ixt t1 rfl ⟨op, rfl, lc_pl t3 (by omega) fun D HY f1 f2 => ⟨D, _, rfl, SqL.of f2, _, rfl, ?_⟩⟩)⟩
            have ea : (s.ops.map (isPl i)).any id = (befs s.ops).any fun b => decide (i ≤ b) := by rw [List.any_map]; exact any_pl hs.2 i
            rw [ea]
            cases hp : (befs s.ops).any fun b => decide (i ≤ b) with
            | true => exact iteT (bad "place" HY f1 (by rw [elDue_some, if_pos hp]))
            | false =>
              have hp' : ¬ ((befs s.ops).any fun b => decide (i ≤ b)) = true := by rw [hp]; decide
              refine iteF (ixt (f1 _ _ t1) rfl ⟨op, rfl, lc_gi (t3.go fun b xs h => f1 _ _ h) (by omega) fun D2 HZ f3 f4 => ⟨D2, _, rfl, SqL.of f4, _, rfl, ?_⟩⟩)
              have eb : (s.ops.map (isGi m)).any id = s.ops.any (isGi m) := by rw [List.any_map]; rfl
              rw [eb]
              cases hg : s.ops.any (isGi m) with
              | true => exact iteT (bad "given" HZ (f1.trans f3) (by rw [elDue_some, if_neg hp', if_pos hg]))
              | false =>
                have ed : elDue m i (some s) = none := by rw [elDue_some, if_neg hp', if_neg (by rw [hg]; decide)]
                rw [ed] at hd'
                exact iteF ⟨_, _, _, _, rfl, (e2.trans f1).trans f3, hd'⟩
        · rintro σ HX ⟨v3, v4, v5, v6, rfl, e1, hd⟩
          rw [lx, List.drop_length] at hd
          have hd0 : stDue m 0 l = none := hd.symm
          obtain ⟨sts, rfl, sel⟩ := st_none hd0
          rw [List.length_map] at l1 l2 lx
          have hRS : RowsS H q sts := rows_some hq hx
          have oks : ∀ s ∈ sts, s.ok := fun s hs => hok s (List.mem_map.mpr ⟨s, hs, rfl⟩)
          have lb := bsOf_len sts
          have rw_ : ∀ p, ∀ z ∈ row (bsOf sts) p, z < p ∧ z < (bsOf sts).length := fun p z hz => by
            obtain ⟨s, h1, h2⟩ := bsOf_row hz
            have h3 := (el_none (sel p s h1)).1 z h2
            have h4 := (List.getElem?_eq_some_iff.mp h1).1
            omega
          have bo : BefOk (bsOf sts) := ⟨by omega, by omega, fun i b hb => by
            unfold bsOf at hb
            rw [List.getElem?_map] at hb
            cases e : sts[i]? with
            | none => rw [e] at hb; cases hb
            | some s =>
              rw [e] at hb
              cases hb
              refine ⟨befs_lt _, fun x hx => by have := (el_none (sel i s e)).1 x hx; omega, ?_⟩
              have h1 := befs_few s.ops
              have h2 := (oks s (List.mem_of_getElem? e)).1
              have h3 := many_le s.kd
              show (befs s.ops).length ≤ 60
              omega⟩
          walk_at "sm"
          refine ⟨q, sts, rfl, hRS.go (Kp.ex e1), oks, by omega, fun u H1 f1 hu => ⟨_, .inl (SqL.of ((e1.trans f1) _ _ hq)), ?_⟩⟩
          have el : ((xs.length : Nat) : Int) - 1 = ((sts.length - 1 : Nat) : Int) := by omega
          rw [el]
          refine ⟨u, sts.length - 1, bsOf sts, rfl, hu, fun p z hz => (rw_ p z hz).2, by omega, by omega, fun r ns H2 f2 asc mem hr => ?_⟩
          walk_at "sm"
          have e3 := (e1.trans f1).trans f2
          have due : ∀ dd, IdD (bsOf sts) (sts.length - 1) dd → WD (.int wd) (.int m) (some (sts.map some)) (dd.map fun z : Nat => ((z : Int), ("idle" : Str))) := fun dd hdd =>
            .inr ⟨wd, m, _, rfl, rfl, rfl, sn0, by omega, by rw [List.length_map]; exact l1, by rw [List.length_map]; exact l2, .inr ⟨hd0, sts, rfl, bo, dd, hdd, rfl⟩⟩
          refine ⟨_, rfl, q, rfl, xs, .inl (SqL.of (e3 _ _ hq)), _, _, rfl, rfl, _, rfl, by omega, by omega, for_range (lo := 0) (n := (((xs.length : Nat) : Int) - 1).toNat) (ivDx wd m q r (bsOf sts) (sts.length - 1) H2) ⟨_, _, _, rfl, rfl, fun j hj => absurd hj (Nat.not_lt_zero _)⟩ ?_ ?_⟩
          · rintro j σ HY hj ⟨w3, w4, w6, rfl, rfl, up⟩
            walk_at "sm"
            have jn : j < sts.length - 1 := by omega
            refine ⟨r, _, rfl, .inl (SqL.of hr), rfl, flat_nats ns, _, rfl, ?_⟩
            by_cases jm : j ∈ ns
            · have e0 : inV (.int (0 + (j : Int))) ((nI ns).map V.int) = true := by
                unfold inV
                rw [List.any_eq_true]
                refine ⟨.int (j : Int), List.mem_map.mpr ⟨(j : Int), mem_ints.mpr ⟨j, jm, rfl⟩, rfl⟩, ?_⟩
                show decide ((j : Int) = 0 + (j : Int)) = true
                exact decide_eq_true (by omega)
              rw [e0]
              exact iteF ⟨_, _, _, rfl, rfl, fun i hi => by
                rcases Nat.lt_or_eq_of_le (Nat.le_of_lt_succ hi) with h | rfl
                · exact up i h
                · exact (mem i).mp jm⟩
            · rw [show (0 : Int) + (j : Int) = (j : Int) by omega, inV_nat jm]
              refine iteT ⟨sz (by decide), fun p hp => k (some ((j : Int), "idle")) _ _ (e3.trans (Evl.Ex.new hp)) (due (some j) ⟨by omega, ?_, fun i hi => .inr (up i hi)⟩) ⟨p, rfl, upd_same⟩⟩
              rintro (h | h)
              · omega
              · exact jm ((mem j).mpr h)
          · rintro σ HY ⟨w3, w4, w6, rfl, rfl, up⟩
            walk_at "sm"
            refine k none .non _ e3 (due none fun j hj => ?_) rfl
            rcases Nat.lt_or_ge j (sts.length - 1) with h | h
            · exact .inr (up j (by omega))
            · exact .inl (by omega)
end


/-! ### rows spoilt -/
theorem Paired.app {α β : Type} {F : α → β → Prop} {l' : List α} {m' : List β} (k : Paired F l' m') : ∀ {l : List α} {m : List β}, Paired F l m → Paired F (l ++ l') (m ++ m')
  | _, _, .nil => k
  | _, _, .cons f t => .cons f (Paired.app k t)
theorem Paired.takeP {α β : Type} {F : α → β → Prop} : ∀ (n : Nat) {l : List α} {m : List β}, Paired F l m → Paired F (l.take n) (m.take n)
  | 0, _, _, _ => by rw [List.take_zero, List.take_zero]; exact .nil
  | n + 1, _, _, .nil => .nil
  | n + 1, _, _, .cons f t => .cons f (Paired.takeP n t)
theorem Paired.dropP {α β : Type} {F : α → β → Prop} : ∀ (n : Nat) {l : List α} {m : List β}, Paired F l m → Paired F (l.drop n) (m.drop n)
  | 0, _, _, h => h
  | n + 1, _, _, .nil => .nil
  | n + 1, _, _, .cons f t => Paired.dropP n t
theorem cut_to {xs : List V} {n : Nat} (h : n ≤ xs.length) : cutV xs none (some (n : Int)) = xs.take n := by
  unfold cutV
  rw [HT.sIx_none, HT.sIx_nat, Nat.min_eq_left h]
  rfl
theorem cut_from {xs : List V} {n : Nat} (h : n ≤ xs.length) : cutV xs (some (n : Int)) none = xs.drop n := by
  unfold cutV
  rw [HT.sIx_none, HT.sIx_nat, Nat.min_eq_left h]
  refine List.take_of_length_le ?_
  rw [List.length_drop]
  exact Nat.le_refl _
section
variable {P : Program} {w : World} {K : PySem.W.Frag} {mg : Str → Option Value} {base : Heap} {a : Ad}
def spSl : Sp := fun vs H Q _ => ∃ (p c l : Addr) (sts : List Stp), vs = [.ref p, .ref l] ∧ HandAt H p c ∧ RowsS H l sts ∧ l ≠ p ∧ (∀ s ∈ sts, s.ok) ∧ 1 ≤ sts.length ∧ sts.length ≤ 200 ∧ ∀ v els H', Fr p H H' → HandAt H' p c → rowsV H' v els → v ≠ .ref p → Q v H'
def ivRe (H : Hp) (x : V) (D : Addr) (i : Nat) (H' : Hp) : Prop := Evl.Ex H H' ∧ H' D = some (.lst (List.replicate i x))
theorem ok_law_spoilt_rows (T : Txt K mg a) : FnOk P w K mg base CX0 4 a.f_law_spoilt_rows a.d_law_spoilt_rows ["_law_hand_here", "_law_rows"] spSl := by
  refine T.F_law_spoilt_rows.ok sc_law_spoilt_rows (fun vs H Q E h => ?_) (fun cdv A outer s H vs Q E hr h => ?_)
  · obtain ⟨_, _, _, _, rfl, _⟩ := h
    rfl
  · obtain ⟨p, c, l, sts, rfl, hh, ⟨xs, hl, hx⟩, nlp, hok, n1, n2, k⟩ := h
    have lx := paired_len hx
    refine ⟨_, (pss_cons (ps_set (i := 2) sc_law_spoilt_rows.nd rfl (by first | exact Or.inl rfl | exact Or.inr rfl) (pe_call (ok_law_take T) (hr.mono (by decide)) rfl T.m_law_take T.F_law_take.kp T.b_law_take .nil pass0 (pa_cons (pv 0) (pa_cons (pe_callB call_len_seq (by rfl) T.z_len (by decide +kernel) (pa_cons (pv 1) pa_nil)) pa_nil))))
  (pss_cons (ps_set (i := 3) sc_law_spoilt_rows.nd rfl (by first | exact Or.inl rfl | exact Or.inr rfl) (pe_call (ok_law_take T) (hr.mono (by decide)) rfl T.m_law_take T.F_law_take.kp T.b_law_take .nil pass0 (pa_cons (pv 0) (pa_cons pe_int pa_nil))))
  (pss_cons (ps_if (pt_cmpR op_eq (pv 3) pe_int (nomark _)) (pss_one (ps_ret (pe_call (ok_law_pick T) (hr.mono (by decide)) rfl T.m_law_pick T.F_law_pick.kp T.b_law_pick .nil pass0 (pa_cons (pv 0) (pa_cons (pe_lst (pa_cons pe_non (pa_cons (pe_lst pa_nil) (pa_cons pe_str (pa_cons pe_int pa_nil))))) pa_nil)))))
    pss_nil)
  (pss_cons (ps_if (pt_cmpR op_eq (pv 3) pe_int (nomark _)) (pss_one (ps_ret (pe_op op_cat (pe_op op_cat (pe_slice sl_list (pv 1) po_none (po_some (pv 2))) (pe_lst (pa_cons (pe_call (ok_law_pick T) (hr.mono (by decide)) rfl T.m_law_pick T.F_law_pick.kp T.b_law_pick .nil pass0 (pa_cons (pv 0) (pa_cons (pe_lst (pa_cons pe_non (pa_cons pe_int (pa_cons pe_str pa_nil)))) pa_nil))) pa_nil))) (pe_slice sl_list (pv 1) (po_some (pe_op op_add (pv 2) pe_int)) po_none))))
    pss_nil)
  (pss_cons (ps_if (pt_cmpR op_eq (pv 3) pe_int (nomark _)) (pss_one (ps_ret (pe_op op_cat (pe_op op_cat (pe_slice sl_list (pv 1) po_none (po_some (pv 2))) (pe_lst (pa_cons (pe_tup (pa_cons (pe_tup (pa_cons pe_str pa_nil)) (pa_cons (pe_tup (pa_cons (pe_tup (pa_cons pe_str (pa_cons (pe_call (ok_law_take T) (hr.mono (by decide)) rfl T.m_law_take T.F_law_take.kp T.b_law_take .nil pass0 (pa_cons (pv 0) (pa_cons pe_int pa_nil))) pa_nil))) (pa_cons (pe_tup (pa_cons pe_str (pa_cons (pe_op op_add (pv 2) (pe_call (ok_law_take T) (hr.mono (by decide)) rfl T.m_law_take T.F_law_take.kp T.b_law_take .nil pass0 (pa_cons (pv 0) (pa_cons (pe_op op_sub pe_int (pv 2)) pa_nil)))) pa_nil))) pa_nil))) pa_nil))) pa_nil))) (pe_slice sl_list (pv 1) (po_some (pe_op op_add (pv 2) pe_int)) po_none))))
    pss_nil)
  (pss_cons (ps_if (pt_cmpR op_eq (pv 3) pe_int (nomark _)) (pss_one (ps_ret (pe_op op_cat (pe_op op_cat (pe_slice sl_list (pv 1) po_none (po_some (pv 2))) (pe_lst (pa_cons (pe_tup (pa_cons (pe_tup (pa_cons pe_str pa_nil)) (pa_cons (pe_tup (pa_cons (pe_tup (pa_cons pe_str (pa_cons (pe_call (ok_law_take T) (hr.mono (by decide)) rfl T.m_law_take T.F_law_take.kp T.b_law_take .nil pass0 (pa_cons (pv 0) (pa_cons pe_int pa_nil))) pa_nil))) pa_nil)) pa_nil))) pa_nil))) (pe_slice sl_list (pv 1) (po_some (pv 2)) po_none))))
    pss_nil)
  (pss_cons (ps_if (pt_cmpR op_eq (pv 3) pe_int (nomark _)) (pss_one (ps_ret (pe_op op_cat (pv 1) (pe_lc (own := [("_law_k", 4)]) (g := gName 4) (tt := tYes) rfl sc_law_spoilt_rows.nd (pi_range1 (by rfl) T.z_range (pa_cons (pe_op op_sub pe_int (pe_callB call_len_seq (by rfl) T.z_len (by decide +kernel) (pa_cons (pv 1) pa_nil))) pa_nil)) (blkOk_by (own := [("_law_k", 4)]) (N := ["_law_hand_here", "_law_rows", "_law_place", "_law_way", "_law_k"]) (sc := defScope s_law_spoilt_rows) (by decide +kernel)) (fun _ _ _ _ _ => pg_name (i := 4) sc_law_spoilt_rows.nd rfl (Or.inl rfl)) (fun _ _ _ _ _ => pts_nil) (fun _ _ _ _ _ => (pe_ix ix_list_b (pv 1) (pe_op op_sub (pe_callB call_len_seq_b (by rfl) T.z_len (by decide +kernel) (pa_cons (pv 1) pa_nil)) pe_int) (fun _ _ => rfl)))))))
    pss_nil)
  (pss_cons (ps_if (pt_cmpR op_eq (pv 3) pe_int (nomark _)) (pss_one (ps_ret (pe_slice sl_list (pv 1) po_none (po_some (pe_op op_sub (pe_callB call_len_seq (by rfl) T.z_len (by decide +kernel) (pa_cons (pv 1) pa_nil)) pe_int)))))
    pss_nil)
  (pss_cons (ps_if (pt_cmpR op_eq (pv 3) pe_int (nomark _)) (pss_one (ps_ret (pe_op op_cat (pe_op op_cat (pe_slice sl_list (pv 1) po_none (po_some (pv 2))) (pe_lst (pa_cons (pe_tup (pa_cons (pe_tup (pa_cons pe_str pa_nil)) (pa_cons (pe_tup (pa_cons (pe_tup (pa_cons pe_str (pa_cons (pe_ifExp (pt_cmpR op_gt (pv 2) pe_int (nomark _)) (pe_op op_sub (pv 2) pe_int) pe_int) pa_nil))) (pa_cons (pe_tup (pa_cons pe_str (pa_cons (pe_call (ok_law_take T) (hr.mono (by decide)) rfl T.m_law_take T.F_law_take.kp T.b_law_take .nil pass0 (pa_cons (pv 0) (pa_cons pe_int pa_nil))) pa_nil))) pa_nil))) pa_nil))) pa_nil))) (pe_slice sl_list (pv 1) (po_some (pe_op op_add (pv 2) pe_int)) po_none))))
    pss_nil)
  (pss_one (ps_ret (pv 1)))))))))))), ?_⟩
    walk_at "sm"
    refine ⟨xs, .inl (SqL.of hl), tk hh (by omega) (by omega) fun r0 H1 r1 r2 f1 h1 => ?_⟩
    walk_at "sm"
    refine tk h1 (by decide) (by decide) fun way H2 w1 w2 f2 h2 => ?_
    have g2 : Gd p c H H2 := ((Gd.refl hh).draw f1 h1).draw f2 h2
    obtain ⟨at_, rfl⟩ : ∃ n : Nat, r0 = n := ⟨r0.toNat, by omega⟩
    have lat : at_ < sts.length := by omega
    walk_at "sm"
    have hl2 : ∀ HZ, Gd p c H HZ → HZ l = some (.lst xs) := fun HZ g => g.fr _ _ nlp hl
    have hx2 : ∀ HZ, Gd p c H HZ → Paired (roR HZ) xs (sts.map some) := fun HZ g => Paired.mapP (rows_of hx) fun _ _ y => y.tp g.kp
    have fr0 : ∀ HZ q, Gd p c H HZ → H q = none → q ≠ p := fun HZ q g h => (g.ne h).1
    have start : ∀ R : VK, (∀ A HA, Gd p c H HA → H A = none → HA A = some (.lst (xs.take at_)) → R (.ref A) HA) → rSlL K (.ref l) none (some (at_ : Int)) H2 R := fun R r => by
      refine ⟨l, xs, rfl, SqL.of (hl2 _ g2), fun A hA => ?_⟩
      rw [cut_to (by omega)]
      exact r A _ (g2.new hA) (g2.fresh hA) upd_same
    have fin : ∀ (b : Nat) (bv : Int) (HZ : Hp) (A B : Addr) (x : V) (o : Option Stp), Gd p c H HZ → HZ A = some (.lst (xs.take at_)) → HZ B = some (.lst [x]) → roR HZ x o → (∀ s, o = some s → s.ok) → bv = b → at_ ≤ b → b ≤ sts.length →
        rCat (.ref A) (.ref B) HZ fun x H1 => rSlL K (.ref l) (some bv) none H1 fun y H2 => rCat x y H2 Q := by
      rintro b _ HZ A B x o g hA hB hr ho rfl hab hb
      have lt : (xs.take at_).length ≤ 200 := by rw [List.length_take]; omega
      refine ⟨A, B, _, _, rfl, rfl, hA, hB, sz (by show (xs.take at_).length + 1 ≤ 100000; omega), fun C hC => ?_⟩
      have g3 := g.new (o := .lst (xs.take at_ ++ [x])) hC
      have e3 := Evl.Ex.new (o := .lst (xs.take at_ ++ [x])) hC
      have c3 : upd HZ C (.lst (xs.take at_ ++ [x])) C = some (.lst (xs.take at_ ++ [x])) := upd_same
      generalize upd HZ C (.lst (xs.take at_ ++ [x])) = H3 at g3 e3 c3 ⊢
      refine ⟨l, xs, rfl, SqL.of (hl2 _ g3), fun D hD => ?_⟩
      rw [cut_from (by omega)]
      have g4 := g3.new (o := .lst (xs.drop b)) hD
      have e4 := Evl.Ex.new (o := .lst (xs.drop b)) hD
      have d4 : upd H3 D (.lst (xs.drop b)) D = some (.lst (xs.drop b)) := upd_same
      generalize upd H3 D (.lst (xs.drop b)) = H4 at g4 e4 d4 ⊢
      have ld : (xs.drop b).length ≤ 200 := by rw [List.length_drop]; omega
      refine ⟨C, D, _, _, rfl, rfl, e4 _ _ c3, d4, sz (by rw [List.length_append]; show (xs.take at_).length + 1 + (xs.drop b).length ≤ 100000; omega), fun N hN => ?_⟩
      have g5 := g4.new (o := .lst (xs.take at_ ++ [x] ++ xs.drop b)) hN
      have e5 := Evl.Ex.new (o := .lst (xs.take at_ ++ [x] ++ xs.drop b)) hN
      have ls : (((sts.map some).take at_ ++ [o]) ++ (sts.map some).drop b).length ≤ 300 := by
        rw [List.length_append, List.length_append, List.length_take, List.length_drop, List.length_map]
        show min at_ sts.length + 1 + (sts.length - b) ≤ 300
        omega
      refine k (.ref N) (some (((sts.map some).take at_ ++ [o]) ++ (sts.map some).drop b)) _ g5.fr g5.h ⟨N, _, rfl, upd_same, Paired.app (Paired.dropP b (hx2 _ g5)) (Paired.snoc (hr.go ((e3.trans e4).trans e5)) (Paired.takeP at_ (hx2 _ g5))), ls, fun s hs => ?_⟩ fun z => (g4.ne (g4.fresh hN)).1 (V.ref.inj z)
      rcases List.mem_append.mp hs with h | h
      · rcases List.mem_append.mp h with h | h
        · obtain ⟨s', h1, h2⟩ := List.mem_map.mp (List.mem_of_mem_take h)
          cases h2
          exact hok s h1
        · exact ho s (List.mem_singleton.mp h).symm
      · obtain ⟨s', h1, h2⟩ := List.mem_map.mp (List.mem_of_mem_drop h)
        cases h2
        exact hok s h1
    refine ite2 (fun _ => ?w0) fun _ => ite2 (fun _ => ?w1) fun _ => ite2 (fun _ => ?w2) fun _ => ite2 (fun _ => ?w3) fun _ => ite2 (fun _ => ?w4) fun _ => ite2 (fun _ => ?w5) fun _ => ite2 (fun _ => ?w6) fun _ => ?w7
    case w0 =>
      refine ⟨Nat.zero_le _, fun e he => ⟨sz (by decide), fun m hm => ?_⟩⟩
      have g3 := g2.new (o := .lst []) he
      have e0 := g2.fresh he
      have m0 := g3.fresh hm
      have em : upd (upd H2 e (.lst [])) m (.lst [.non, .ref e, .str "steps", .int 5]) e = some (.lst []) := by rw [upd_ne (fun z => by rw [← z, upd_same] at hm; cases hm), upd_same]
      have g4 := g3.new (o := .lst [.non, .ref e, .str "steps", .int 5]) hm
      refine ⟨p, c, m, _, rfl, g4.h, upd_same, (by show 1 ≤ 4; omega), (by show 4 ≤ 1000; omega), (g4.ne m0).1, fun x HX hx f h => ?_⟩
      have g5 := g4.draw f h
      have eX := f _ _ (g4.ne e0).1 em
      simp only [List.mem_cons, List.not_mem_nil, or_false] at hx
      rcases hx with rfl | rfl | rfl | rfl
      · exact k _ none HX g5.fr g5.h (.inl rfl) (fun z => nomatch z)
      · exact k _ (some []) HX g5.fr g5.h ⟨e, [], rfl, eX, .nil, Nat.zero_le _, fun s hs => by cases hs⟩ fun z => (g4.ne e0).1 (V.ref.inj z)
      · exact k _ none HX g5.fr g5.h (.inr (.inr ⟨_, rfl⟩)) (fun z => nomatch z)
      · exact k _ none HX g5.fr g5.h (.inr (.inl ⟨_, rfl⟩)) (fun z => nomatch z)
    case w1 =>
      refine start _ fun A HA gA A0 hA => ⟨sz (by decide), fun m hm => ?_⟩
      have m0 := gA.fresh hm
      have g4 := gA.new (o := .lst [.non, .int 5, .str "step"]) hm
      have hA4 := (Evl.Ex.new (o := .lst [.non, .int 5, .str "step"]) hm) _ _ hA
      refine ⟨p, c, m, _, rfl, g4.h, upd_same, (by show 1 ≤ 3; omega), (by show 3 ≤ 1000; omega), (g4.ne m0).1, fun x HX hx f h => ⟨sz (by decide), fun B hB => ?_⟩⟩
      have g5 := g4.draw f h
      have hA5 := f _ _ (g4.ne A0).1 hA4
      refine fin (at_ + 1) _ _ A B x none (g5.new hB) ((Evl.Ex.new hB) _ _ hA5) upd_same ?_ (fun s z => nomatch z) (by omega) (by omega) (by omega)
      simp only [List.mem_cons, List.not_mem_nil, or_false] at hx
      rcases hx with rfl | rfl | rfl
      · exact .inl rfl
      · exact .inr (.inl ⟨_, rfl⟩)
      · exact .inr (.inr ⟨_, rfl⟩)
    case w2 =>
      refine start _ fun A HA gA A0 hA => ⟨sz (by decide), fun t1 ht1 => ?_⟩
      have y1 := Evl.Ex.new (o := .tup [.str "+"]) ht1
      have o1 : upd HA t1 (.tup [.str "+"]) t1 = some (.tup [.str "+"]) := upd_same
      have g1 := gA.new (o := .tup [.str "+"]) ht1
      have a1 := y1 _ _ hA
      generalize upd HA t1 (.tup [.str "+"]) = H3 at y1 o1 g1 a1 ⊢
      refine tk g1.h (by decide) (by decide) fun r H4 q1 q2 f4 h4 => ⟨sz (by decide), fun t2 ht2 => ?_⟩
      have k4 := fr_kp f4 g1.h
      have g4 := g1.draw f4 h4
      have a4 := f4 _ _ (g1.ne A0).1 a1
      have y5 := Evl.Ex.new (o := .tup [.str "given", .int r]) ht2
      have o5 : upd H4 t2 (.tup [.str "given", .int r]) t2 = some (.tup [.str "given", .int r]) := upd_same
      have g5 := g4.new (o := .tup [.str "given", .int r]) ht2
      have a5 := y5 _ _ a4
      generalize upd H4 t2 (.tup [.str "given", .int r]) = H5 at y5 o5 g5 a5 ⊢
      refine tk g5.h (by omega) (by omega) fun r2 H6 q3 q4 f6 h6 => ⟨_, rfl, sz (by decide), fun t3 ht3 => ?_⟩
      have k6 := fr_kp f6 g5.h
      have g6 := g5.draw f6 h6
      have a6 := f6 _ _ (g5.ne A0).1 a5
      have y7 := Evl.Ex.new (o := .tup [.str "place", .int ((at_ : Int) + r2)]) ht3
      have o7 : upd H6 t3 (.tup [.str "place", .int ((at_ : Int) + r2)]) t3 = some (.tup [.str "place", .int ((at_ : Int) + r2)]) := upd_same
      have g7 := g6.new (o := .tup [.str "place", .int ((at_ : Int) + r2)]) ht3
      have a7 := y7 _ _ a6
      generalize upd H6 t3 (.tup [.str "place", .int ((at_ : Int) + r2)]) = H7 at y7 o7 g7 a7 ⊢
      refine ⟨sz (by decide), fun t4 ht4 => ?_⟩
      have y8 := Evl.Ex.new (o := .tup [.ref t2, .ref t3]) ht4
      have o8 : upd H7 t4 (.tup [.ref t2, .ref t3]) t4 = some (.tup [.ref t2, .ref t3]) := upd_same
      have g8 := g7.new (o := .tup [.ref t2, .ref t3]) ht4
      have a8 := y8 _ _ a7
      generalize upd H7 t4 (.tup [.ref t2, .ref t3]) = H8 at y8 o8 g8 a8 ⊢
      refine ⟨sz (by decide), fun t5 ht5 => ?_⟩
      have y9 := Evl.Ex.new (o := .tup [.ref t1, .ref t4]) ht5
      have o9 : upd H8 t5 (.tup [.ref t1, .ref t4]) t5 = some (.tup [.ref t1, .ref t4]) := upd_same
      have g9 := g8.new (o := .tup [.ref t1, .ref t4]) ht5
      have a9 := y9 _ _ a8
      generalize upd H8 t5 (.tup [.ref t1, .ref t4]) = H9 at y9 o9 g9 a9 ⊢
      refine ⟨sz (by decide), fun B hB => ?_⟩
      have yB := Evl.Ex.new (o := .lst [V.ref t5]) hB
      obtain ⟨n1, rfl⟩ : ∃ n : Nat, r = n := ⟨r.toNat, by omega⟩
      obtain ⟨n2, rfl⟩ : ∃ n : Nat, r2 = n := ⟨r2.toNat, by omega⟩
      have o7' : H7 t3 = some (.tup [.str "place", .int ((at_ + n2 : Nat) : Int)]) := by rw [o7]; rfl
      refine fin (at_ + 1) _ _ A B (.ref t5) (some ⟨.pr .add, [.gi n1, .pl (at_ + n2)]⟩) (g9.new hB) (yB _ _ a9) upd_same ?_ (fun s z => ?_) (by omega) (by omega) (by omega)
      · exact ⟨t5, t1, t4, rfl, yB _ _ o9, yB _ _ (y9 _ _ (y8 _ _ (y7 _ _ (k6 _ _ (y5 _ _ (k4 _ _ o1)))))), [.ref t2, .ref t3], yB _ _ (y9 _ _ o8), .cons ⟨t2, rfl, yB _ _ (y9 _ _ (y8 _ _ (y7 _ _ (k6 _ _ o5))))⟩ (.cons ⟨t3, rfl, yB _ _ (y9 _ _ (y8 _ _ o7'))⟩ .nil)⟩
      · cases z
        refine ⟨rfl, fun o ho => ?_⟩
        rcases List.mem_cons.mp ho with rfl | ho
        · show n1 ≤ 5
          omega
        · rw [List.mem_singleton.mp ho]
          show at_ + n2 ≤ 199
          omega
    case w3 =>
      refine start _ fun A HA gA A0 hA => ⟨sz (by decide), fun t1 ht1 => ?_⟩
      have y1 := Evl.Ex.new (o := .tup [.str "same"]) ht1
      have o1 : upd HA t1 (.tup [.str "same"]) t1 = some (.tup [.str "same"]) := upd_same
      have g1 := gA.new (o := .tup [.str "same"]) ht1
      have a1 := y1 _ _ hA
      generalize upd HA t1 (.tup [.str "same"]) = H3 at y1 o1 g1 a1 ⊢
      refine tk g1.h (by decide) (by decide) fun r H4 q1 q2 f4 h4 => ⟨sz (by decide), fun t2 ht2 => ?_⟩
      have k4 := fr_kp f4 g1.h
      have g4 := g1.draw f4 h4
      have a4 := f4 _ _ (g1.ne A0).1 a1
      have y5 := Evl.Ex.new (o := .tup [.str "given", .int r]) ht2
      have o5 : upd H4 t2 (.tup [.str "given", .int r]) t2 = some (.tup [.str "given", .int r]) := upd_same
      have g5 := g4.new (o := .tup [.str "given", .int r]) ht2
      have a5 := y5 _ _ a4
      generalize upd H4 t2 (.tup [.str "given", .int r]) = H5 at y5 o5 g5 a5 ⊢
      refine ⟨sz (by decide), fun t4 ht4 => ?_⟩
      have y8 := Evl.Ex.new (o := .tup [.ref t2]) ht4
      have o8 : upd H5 t4 (.tup [.ref t2]) t4 = some (.tup [.ref t2]) := upd_same
      have g8 := g5.new (o := .tup [.ref t2]) ht4
      have a8 := y8 _ _ a5
      generalize upd H5 t4 (.tup [.ref t2]) = H8 at y8 o8 g8 a8 ⊢
      refine ⟨sz (by decide), fun t5 ht5 => ?_⟩
      have y9 := Evl.Ex.new (o := .tup [.ref t1, .ref t4]) ht5
      have o9 : upd H8 t5 (.tup [.ref t1, .ref t4]) t5 = some (.tup [.ref t1, .ref t4]) := upd_same
      have g9 := g8.new (o := .tup [.ref t1, .ref t4]) ht5
      have a9 := y9 _ _ a8
      generalize upd H8 t5 (.tup [.ref t1, .ref t4]) = H9 at y9 o9 g9 a9 ⊢
      refine ⟨sz (by decide), fun B hB => ?_⟩
      have yB := Evl.Ex.new (o := .lst [V.ref t5]) hB
      obtain ⟨n1, rfl⟩ : ∃ n : Nat, r = n := ⟨r.toNat, by omega⟩
      refine fin at_ _ _ A B (.ref t5) (some ⟨.same, [.gi n1]⟩) (g9.new hB) (yB _ _ a9) upd_same ?_ (fun s z => ?_) rfl (by omega) (by omega)
      · exact ⟨t5, t1, t4, rfl, yB _ _ o9, yB _ _ (y9 _ _ (y8 _ _ (y5 _ _ (k4 _ _ o1)))), [.ref t2], yB _ _ (y9 _ _ o8), .cons ⟨t2, rfl, yB _ _ (y9 _ _ (y8 _ _ o5))⟩ .nil⟩
      · cases z
        refine ⟨rfl, fun o ho => ?_⟩
        rw [List.mem_singleton.mp ho]
        show n1 ≤ 5
        omega
    case w6 =>
      refine start _ fun A HA gA A0 hA => ⟨sz (by decide), fun t1 ht1 => ?_⟩
      have y1 := Evl.Ex.new (o := .tup [.str "-"]) ht1
      have o1 : upd HA t1 (.tup [.str "-"]) t1 = some (.tup [.str "-"]) := upd_same
      have g1 := gA.new (o := .tup [.str "-"]) ht1
      have a1 := y1 _ _ hA
      generalize upd HA t1 (.tup [.str "-"]) = H3 at y1 o1 g1 a1 ⊢
      refine ite2 (fun pos => ?_) fun neg => ?_
      · refine ⟨sz (by decide), fun t2 ht2 => ?_⟩
        have y5 := Evl.Ex.new (o := .tup [.str "place", .int ((at_ : Int) - 1)]) ht2
        have o5 : upd H3 t2 (.tup [.str "place", .int ((at_ : Int) - 1)]) t2 = some (.tup [.str "place", .int ((at_ - 1) : Nat)]) := by
          rw [upd_same, show ((at_ : Int) - 1) = (((at_ - 1) : Nat) : Int) by omega]
        have g5 := g1.new (o := .tup [.str "place", .int ((at_ : Int) - 1)]) ht2
        have a5 := y5 _ _ a1
        generalize upd H3 t2 (.tup [.str "place", .int ((at_ : Int) - 1)]) = H5 at y5 o5 g5 a5 ⊢
        refine tk g5.h (by decide) (by decide) fun r H6 q3 q4 f6 h6 => ⟨sz (by decide), fun t3 ht3 => ?_⟩
        have k6 := fr_kp f6 g5.h
        have g6 := g5.draw f6 h6
        have a6 := f6 _ _ (g5.ne A0).1 a5
        have y7 := Evl.Ex.new (o := .tup [.str "given", .int r]) ht3
        have o7 : upd H6 t3 (.tup [.str "given", .int r]) t3 = some (.tup [.str "given", .int r]) := upd_same
        have g7 := g6.new (o := .tup [.str "given", .int r]) ht3
        have a7 := y7 _ _ a6
        generalize upd H6 t3 (.tup [.str "given", .int r]) = H7 at y7 o7 g7 a7 ⊢
        refine ⟨sz (by decide), fun t4 ht4 => ?_⟩
        have y8 := Evl.Ex.new (o := .tup [.ref t2, .ref t3]) ht4
        have o8 : upd H7 t4 (.tup [.ref t2, .ref t3]) t4 = some (.tup [.ref t2, .ref t3]) := upd_same
        have g8 := g7.new (o := .tup [.ref t2, .ref t3]) ht4
        have a8 := y8 _ _ a7
        generalize upd H7 t4 (.tup [.ref t2, .ref t3]) = H8 at y8 o8 g8 a8 ⊢
        refine ⟨sz (by decide), fun t5 ht5 => ?_⟩
        have y9 := Evl.Ex.new (o := .tup [.ref t1, .ref t4]) ht5
        have o9 : upd H8 t5 (.tup [.ref t1, .ref t4]) t5 = some (.tup [.ref t1, .ref t4]) := upd_same
        have g9 := g8.new (o := .tup [.ref t1, .ref t4]) ht5
        have a9 := y9 _ _ a8
        generalize upd H8 t5 (.tup [.ref t1, .ref t4]) = H9 at y9 o9 g9 a9 ⊢
        refine ⟨sz (by decide), fun B hB => ?_⟩
        have yB := Evl.Ex.new (o := .lst [V.ref t5]) hB
        obtain ⟨n2, rfl⟩ : ∃ n : Nat, r = n := ⟨r.toNat, by omega⟩
        refine fin (at_ + 1) _ _ A B (.ref t5) (some ⟨.pr .sub, [.pl (at_ - 1), .gi n2]⟩) (g9.new hB) (yB _ _ a9) upd_same ?_ (fun s z => ?_) (by omega) (by omega) (by omega)
        · exact ⟨t5, t1, t4, rfl, yB _ _ o9, yB _ _ (y9 _ _ (y8 _ _ (y7 _ _ (k6 _ _ (y5 _ _ o1))))), [.ref t2, .ref t3], yB _ _ (y9 _ _ o8), .cons ⟨t2, rfl, yB _ _ (y9 _ _ (y8 _ _ (y7 _ _ (k6 _ _ o5))))⟩ (.cons ⟨t3, rfl, yB _ _ (y9 _ _ (y8 _ _ o7))⟩ .nil)⟩
        · cases z
          refine ⟨rfl, fun o ho => ?_⟩
          rcases List.mem_cons.mp ho with rfl | ho
          · show (at_ - 1) ≤ 199
            omega
          · rw [List.mem_singleton.mp ho]
            show n2 ≤ 5
            omega
      · refine ⟨sz (by decide), fun t2 ht2 => ?_⟩
        have y5 := Evl.Ex.new (o := .tup [.str "place", .int (0 : Int)]) ht2
        have o5 : upd H3 t2 (.tup [.str "place", .int (0 : Int)]) t2 = some (.tup [.str "place", .int (0 : Nat)]) := by
          rw [upd_same, show (0 : Int) = ((0 : Nat) : Int) by omega]
        have g5 := g1.new (o := .tup [.str "place", .int (0 : Int)]) ht2
        have a5 := y5 _ _ a1
        generalize upd H3 t2 (.tup [.str "place", .int (0 : Int)]) = H5 at y5 o5 g5 a5 ⊢
        refine tk g5.h (by decide) (by decide) fun r H6 q3 q4 f6 h6 => ⟨sz (by decide), fun t3 ht3 => ?_⟩
        have k6 := fr_kp f6 g5.h
        have g6 := g5.draw f6 h6
        have a6 := f6 _ _ (g5.ne A0).1 a5
        have y7 := Evl.Ex.new (o := .tup [.str "given", .int r]) ht3
        have o7 : upd H6 t3 (.tup [.str "given", .int r]) t3 = some (.tup [.str "given", .int r]) := upd_same
        have g7 := g6.new (o := .tup [.str "given", .int r]) ht3
        have a7 := y7 _ _ a6
        generalize upd H6 t3 (.tup [.str "given", .int r]) = H7 at y7 o7 g7 a7 ⊢
        refine ⟨sz (by decide), fun t4 ht4 => ?_⟩
        have y8 := Evl.Ex.new (o := .tup [.ref t2, .ref t3]) ht4
        have o8 : upd H7 t4 (.tup [.ref t2, .ref t3]) t4 = some (.tup [.ref t2, .ref t3]) := upd_same
        have g8 := g7.new (o := .tup [.ref t2, .ref t3]) ht4
        have a8 := y8 _ _ a7
        generalize upd H7 t4 (.tup [.ref t2, .ref t3]) = H8 at y8 o8 g8 a8 ⊢
        refine ⟨sz (by decide), fun t5 ht5 => ?_⟩
        have y9 := Evl.Ex.new (o := .tup [.ref t1, .ref t4]) ht5
        have o9 : upd H8 t5 (.tup [.ref t1, .ref t4]) t5 = some (.tup [.ref t1, .ref t4]) := upd_same
        have g9 := g8.new (o := .tup [.ref t1, .ref t4]) ht5
        have a9 := y9 _ _ a8
        generalize upd H8 t5 (.tup [.ref t1, .ref t4]) = H9 at y9 o9 g9 a9 ⊢
        refine ⟨sz (by decide), fun B hB => ?_⟩
        have yB := Evl.Ex.new (o := .lst [V.ref t5]) hB
        obtain ⟨n2, rfl⟩ : ∃ n : Nat, r = n := ⟨r.toNat, by omega⟩
        refine fin (at_ + 1) _ _ A B (.ref t5) (some ⟨.pr .sub, [.pl 0, .gi n2]⟩) (g9.new hB) (yB _ _ a9) upd_same ?_ (fun s z => ?_) (by omega) (by omega) (by omega)
        · exact ⟨t5, t1, t4, rfl, yB _ _ o9, yB _ _ (y9 _ _ (y8 _ _ (y7 _ _ (k6 _ _ (y5 _ _ o1))))), [.ref t2, .ref t3], yB _ _ (y9 _ _ o8), .cons ⟨t2, rfl, yB _ _ (y9 _ _ (y8 _ _ (y7 _ _ (k6 _ _ o5))))⟩ (.cons ⟨t3, rfl, yB _ _ (y9 _ _ (y8 _ _ o7))⟩ .nil)⟩
        · cases z
          refine ⟨rfl, fun o ho => ?_⟩
          rcases List.mem_cons.mp ho with rfl | ho
          · show 0 ≤ 199
            omega
          · rw [List.mem_singleton.mp ho]
            show n2 ≤ 5
            omega
    case w7 => exact k _ (some (sts.map some)) _ g2.fr g2.h ⟨l, xs, rfl, hl2 _ g2, hx2 _ g2, by rw [List.length_map]; omega, fun s hs => by obtain ⟨s', h1, h2⟩ := List.mem_map.mp hs; cases h2; exact hok s h1⟩ fun z => nlp (V.ref.inj z)
    case w5 =>
      refine ⟨xs, .inl (SqL.of (hl2 _ g2)), l, xs, rfl, SqL.of (hl2 _ g2), fun A hA => ?_⟩
      rw [show ((xs.length : Nat) : Int) - 1 = ((sts.length - 1 : Nat) : Int) by omega, cut_to (by omega)]
      have g3 := g2.new (o := .lst (xs.take (sts.length - 1))) hA
      refine k (.ref A) (some ((sts.map some).take (sts.length - 1))) _ g3.fr g3.h ⟨A, _, rfl, upd_same, Paired.takeP _ (hx2 _ g3), by rw [List.length_take, List.length_map]; omega, fun s hs => ?_⟩ fun z => (g3.ne (g2.fresh hA)).1 (V.ref.inj z)
      obtain ⟨s', h1, h2⟩ := List.mem_map.mp (List.mem_of_mem_take hs)
      cases h2
      exact hok s h1
    case w4 =>
      obtain ⟨s, hs⟩ : ∃ s, sts[sts.length - 1]? = some s := ⟨_, List.getElem?_eq_getElem (by omega)⟩
      obtain ⟨x, hx1, hrx⟩ := paired_of hx hs
      refine ⟨xs, .inl (SqL.of (hl2 _ g2)), by omega, by omega, lcg_range (lo := 0) (n := (201 - ((xs.length : Nat) : Int)).toNat) (ivRe H2 x) (fun D hD => ⟨Evl.Ex.new hD, upd_same⟩) (fun D i HX hD hi hv => ?_) fun D HX hD hv => ?_⟩
      · obtain ⟨e1, hv⟩ := hv
        walk_at "sm"
        have lv : HX l = some (.lst xs) := e1 _ _ (hl2 _ g2)
        refine ⟨xs, .inl (SqL.of lv), ?_⟩
        rw [show ((xs.length : Nat) : Int) - 1 = ((sts.length - 1 : Nat) : Int) by omega]
        exact ixl (SqL.of lv) (atI_nat hx1) ⟨_, hv, Nat.lt_of_le_of_lt (show _ ≤ 300 by rw [List.length_replicate]; omega) (by decide), Evl.Ex.mut e1 hD, by rw [upd_same, List.replicate_succ']⟩
      · obtain ⟨e1, hv⟩ := hv
        have g3 := g2.go e1
        refine ⟨l, D, _, _, rfl, rfl, hl2 _ g3, hv, sz (by rw [List.length_replicate]; omega), fun N hN => ?_⟩
        have g4 := g3.new (o := .lst (xs ++ List.replicate (201 - ((xs.length : Nat) : Int)).toNat x)) hN
        have rep : ∀ n, Paired (roR (upd HX N (.lst (xs ++ List.replicate (201 - ((xs.length : Nat) : Int)).toNat x)))) (List.replicate n x) (List.replicate n (some s)) := fun n => by
          induction n with
          | zero => exact .nil
          | succ n ih => exact .cons (hrx.tp g4.kp) ih
        refine k (.ref N) (some (sts.map some ++ List.replicate (201 - ((xs.length : Nat) : Int)).toNat (some s))) _ g4.fr g4.h ⟨N, _, rfl, upd_same, Paired.app (rep _) (hx2 _ g4), by rw [List.length_append, List.length_map, List.length_replicate]; omega, fun s' hs' => ?_⟩ fun z => (g4.ne (g3.fresh hN)).1 (V.ref.inj z)
        rcases List.mem_append.mp hs' with h | h
        · obtain ⟨s2, h1, h2⟩ := List.mem_map.mp h
          cases h2
          exact hok _ h1
        · have := (List.mem_replicate.mp h).2
          cases this
          exact hok s (List.mem_of_getElem? hs)
end


theorem call_isi_b {X : Cx} {s : Shared} {H : Hp} {scope : Scope} {env : Env} {fp : List Addr} : CallR (X.blk s H scope env fp) (.builtin "isinstance") (rIsi X.K) := call_isi
/-! ### a web made, or what it is refused for -/
/-- all but lists is kept -/
def NL (H H' : Hp) : Prop := ∀ b o, H b = some o → (∀ xs, o ≠ .lst xs) → H' b = some o
theorem NL.refl (H : Hp) : NL H H := fun _ _ h _ => h
theorem NL.trans {H H1 H2 : Hp} (f : NL H H1) (g : NL H1 H2) : NL H H2 := fun b o h n => g b o (f b o h n) n
theorem NL.ex {H H' : Hp} (e : Evl.Ex H H') : NL H H' := fun b o h _ => e b o h
theorem NL.upd {H : Hp} {D : Addr} {xs : List V} {o : HO} (h : H D = some (.lst xs)) : NL H (L2.upd H D o) := fun b u hb n => by
  rw [upd_ne (fun z => by rw [z, h] at hb; cases hb; exact n xs rfl)]
  exact hb
theorem NL.frh {H H' : Hp} {p c : Addr} (f : Fr p H H') (hh : HandAt H p c) : NL H H' := fun b u hb n => by
  obtain ⟨ys, hp⟩ := hand_lst hh
  exact f b u (fun z => by rw [z, hp] at hb; cases hb; exact n ys rfl) hb
theorem NL.tp {H H' : Hp} (k : NL H H') : ∀ b xs, H b = some (.tup xs) → H' b = some (.tup xs) := fun b xs h => k b _ h fun _ z => nomatch z
theorem StpAt.nl {C : Addr} {H H' : Hp} {p : Addr} {s : Stp} (k : NL H H') (h : StpAt C H p s) : StpAt C H' p s := by
  obtain ⟨dx, kp, op, bp, h1, h2, h3, h4⟩ := h
  exact ⟨dx, kp, op, bp, k _ _ h1 (fun _ z => nomatch z), h2.tp k.tp, h3.go k.tp, k.tp _ _ h4⟩
theorem elR.nl {C : Addr} {H H' : Hp} {x : V} {o : Option Stp} (k : NL H H') (h : elR C H x o) : elR C H' x o := by
  cases o with
  | none => exact h
  | some s =>
    obtain ⟨p, h1, h2⟩ := h
    exact ⟨p, h1, h2.nl k⟩
theorem ArrT.nl {H H' : Hp} {p : Addr} {bs : List (List Nat)} (k : NL H H') (h : ArrT H p bs) : ArrT H' p bs := by
  obtain ⟨xs, h1, h2⟩ := h
  exact ⟨xs, k.tp _ _ h1, Paired.mapP h2 fun _ _ ⟨q, z1, z2⟩ => ⟨q, z1, k.tp _ _ z2⟩⟩
theorem BareAt.nl {C : Addr} {H H' : Hp} {x : Addr} {bs : List (List Nat)} {e : Nat} (k : NL H H') (h : BareAt C H x bs e) : BareAt C H' x bs e := by
  obtain ⟨d, p, af, od, nd, h1, h2, h3, h4, h5⟩ := h
  exact ⟨d, p, af, od, nd, k _ _ h1 (fun _ z => nomatch z), h2.nl k, h3.nl k, k.tp _ _ h4, k.tp _ _ h5⟩
theorem WebAt.nl {a : Ad} {H H' : Hp} {x : Addr} {wd m : Nat} {sts : List Stp} (k : NL H H') (h : WebAt a H x wd m sts) : WebAt a H' x wd m sts := by
  obtain ⟨dx, sp, bp, xs, h1, h2, h3, h4, h5⟩ := h
  exact ⟨dx, sp, bp, xs, k _ _ h1 (fun _ z => nomatch z), k.tp _ _ h2, Paired.mapP h3 fun _ _ ⟨q, z1, z2, z3⟩ => ⟨q, z1, z2, z3.nl k⟩, h4, h5.nl k⟩
theorem PlainV.fr {H H' : Hp} {p : Addr} {x : V} (f : Fr p H H') (n : x ≠ .ref p) (h : PlainV H x) : PlainV H' x := by
  rcases h with h | h | h | h | ⟨q, xs, h, e⟩ | ⟨q, xs, h, e⟩
  · exact .inl h
  · exact .inr (.inl h)
  · exact .inr (.inr (.inl h))
  · exact .inr (.inr (.inr (.inl h)))
  · exact .inr (.inr (.inr (.inr (.inl ⟨q, xs, h, f _ _ (fun z => n (by rw [h, z])) e⟩))))
  · exact .inr (.inr (.inr (.inr (.inr ⟨q, xs, h, f _ _ (fun z => n (by rw [h, z])) e⟩))))
theorem elsV.go {a : Ad} {H H' : Hp} {v : V} {els : Option (List (Option Stp))} (e : Evl.Ex H H') (h : elsV a H v els) : elsV a H' v els := by
  cases els with
  | none => exact ⟨h.1.go e, h.2⟩
  | some l =>
    obtain ⟨p, h1, h2, h3⟩ := h
    exact ⟨p, h1, h2.go e, h3⟩
section
variable {P : Program} {w : World} {K : PySem.W.Frag} {mg : Str → Option Value} {base : Heap} {a : Ad}
def spWT (a : Ad) : Sp := fun vs H Q _ => ∃ (p c : Addr) (wv mv rv : V) (els : Option (List (Option Stp))) (d : Option (Int × Str)), vs = [.ref p, wv, mv, rv] ∧ HandAt H p c ∧ PlainV H wv ∧ PlainV H mv ∧ rowsV H rv els ∧ rv ≠ .ref p ∧ wv ≠ .ref p ∧ mv ≠ .ref p ∧ WD wv mv els d ∧
  (match d with
    | some iz => ∀ q H', Fr p H H' → HandAt H' p c → H' q = some (.tup [.int iz.1, .str iz.2]) → Q (.ref q) H'
    | none => ∀ x H' (wd m : Nat) sts, wv = .int wd → mv = .int m → els = some (sts.map some) → Fr p H H' → HandAt H' p c → WebAt a H' x wd m sts → x ≠ p → Q (.ref x) H')
def mdWT (a : Ad) (H : Hp) (p c : Addr) (wv mv rv : V) (els : Option (List (Option Stp))) : L2.St → Hp → Prop := fun σ H' => ∃ hv v5 v6, σ = [some (.ref p), some wv, some mv, some rv, some hv, v5, v6] ∧ Gd p c H H' ∧ elsV a H' hv els
def ivWT (a : Ad) (H : Hp) (l : List (Option Stp)) (D : Addr) (i : Nat) (H' : Hp) : Prop := Evl.Ex H H' ∧ ∃ ys, H' D = some (.lst ys) ∧ Paired (elR a.c_Step H') ys (l.take i)
theorem ok_law_web_told (T : Txt K mg a) (D : Txo w K a) (I : Txi K a) : FnOk P w K mg base CX0 10 a.f_law_web_told a.d_law_web_told ["_law_hand_here", "_law_width", "_law_many", "_law_rows"] (spWT a) := by
  refine T.F_law_web_told.ok sc_law_web_told (fun vs H Q E h => ?_) (fun cdv A outer s H vs Q E hr h => ?_)
  · obtain ⟨_, _, _, _, _, _, _, rfl, _⟩ := h
    rfl
  · obtain ⟨p, c, wv, mv, rv, els, d, rfl, hh, hw, hm, hR, nr, nw, nm, hd, k⟩ := h
    refine ⟨_, (pss_cons (ps_set (i := 4) sc_law_web_told.nd rfl (by first | exact Or.inl rfl | exact Or.inr rfl) (pv 3))
  (Evl.pss_cut (ps_if (pt_val (pe_callB call_isi (by rfl) T.z_isinstance (by decide +kernel) (pa_cons (pv 3) (pa_cons (pe_bltn (v := .ty "list") (by rfl) T.z_list (by decide +kernel) rfl) pa_nil)))) (pss_one (ps_set (i := 4) sc_law_web_told.nd rfl (by first | exact Or.inl rfl | exact Or.inr rfl) (pe_call (ok_law_either T) (hr.mono (by decide)) rfl T.m_law_either T.F_law_either.kp T.b_law_either .nil pass0 (pa_cons (pv 0) (pa_cons (pe_lc (own := [("_law_row", 6)]) (g := gName 6) (tt := tYes) rfl sc_law_web_told.nd (pi_list (pv 3)) (blkOk_by (own := [("_law_row", 6)]) (N := ["_law_hand_here", "_law_width", "_law_many", "_law_rows", "_law_handed", "raised", "_law_row"]) (sc := defScope s_law_web_told) (by decide +kernel)) (fun _ _ _ _ _ => pg_name (i := 6) sc_law_web_told.nd rfl (Or.inl rfl)) (fun _ _ _ _ _ => pts_nil) (fun _ _ _ _ _ => (pe_ifExp (pt_val (pe_callB call_isi_b (by rfl) T.z_isinstance (by decide +kernel) (pa_cons (pv 6) (pa_cons (pe_bltn (v := .ty "tuple") (by rfl) T.z_tuple (by decide +kernel) rfl) pa_nil)))) (pe_make T.mk_Step (ok_Step_init T D) (hr.mono (by decide)) rfl T.m_Step T.b_Step___init__ .nil passL (pa_cons (pe_ix ix_tup_b (pv 6) pe_int (fun _ _ => rfl)) (pa_cons (pe_ix ix_tup_b (pv 6) pe_int (fun _ _ => rfl)) pa_nil))) (pv 6)))) pa_nil)))))
    pss_nil)
  (pss_one (ps_try_as (i := 5) (Wout := fun _ _ _ _ => False) rfl rfl sc_law_web_told.nd rfl rfl ⟨rfl, by decide, Or.inl T.m_BadWeb⟩ takes0 (fun W pn xe tk _ => (pss_one (ps_ret (pe_makeS T.mk_Web (ok_Web_init T I) (hr.mono (by decide)) rfl T.m_Web T.b_Web___init__ (fun σ => passAt tk σ) (pa_cons (pv 1) (pa_cons (pv 2) (pa_cons (pv 4) pa_nil))))))) (fun ae oe cls d pn hz hf => (pss_one (ps_ret (pe_tup (pa_cons (pe_xf T.xf_BadWeb T.xn_BadWeb_place hz hf (pv 5)) (pa_cons (pe_xf T.xf_BadWeb T.xn_BadWeb_what hz hf (pv 5)) pa_nil)))))))))), ?_⟩
    walk_at "sm"
    refine ⟨mdWT a H p c wv mv rv els, ?_, ?_⟩
    · walk_at "sm"
      cases els with
      | none =>
        have fin : ∀ v, PlainV H v → sqV v = false → mdWT a H p c wv mv v none [some (.ref p), some wv, some mv, some v, some v, none, none] H := fun v h1 h2 => ⟨v, none, none, rfl, Gd.refl hh, h1, h2⟩
        rcases hR with rfl | ⟨j, rfl⟩ | ⟨z, rfl⟩
        · exact isi_ty (t := "NoneType") (b := false) (.base .non) (by decide +kernel) ⟨_, rfl, iteF (fin _ (.inl rfl) rfl)⟩
        · exact isi_ty (t := "int") (b := false) (.base (.int _)) (by decide +kernel) ⟨_, rfl, iteF (fin _ plain_int rfl)⟩
        · exact isi_ty (t := "str") (b := false) (.base (.str _)) (by decide +kernel) ⟨_, rfl, iteF (fin _ (.inr (.inr (.inr (.inl ⟨_, rfl⟩)))) rfl)⟩
      | some l =>
        obtain ⟨q, xs, rfl, hq, hx, hl, hok⟩ := hR
        have lx := paired_len hx
        refine isi_ty (t := "list") (b := true) (.base (.lst hq)) (by decide +kernel) ⟨_, rfl, iteT ⟨q, rfl, ⟨_, SqL.of hq⟩, lcg_list (K := K) (a := q) (xs := xs) (ivWT a H l) (fun D hD => ⟨Evl.Ex.new hD, [], upd_same, .nil⟩) (fun D i HX hD hi h => SqL.of (h.1 _ _ hq)) ?_ ?_⟩⟩
        · rintro D i y HX hD hi ⟨e1, ys, d1, d2⟩
          obtain ⟨o, ho, hel⟩ := paired_at hx hi
          have hel2 := hel.go e1
          have ly : ys.length ≤ 300 := by rw [paired_len d2, List.length_take]; exact Nat.le_trans (Nat.min_le_right _ _) hl
          have fin : ∀ (HY : Hp) (v : V), Evl.Ex HX HY → elR a.c_Step HY v o → ∃ acc, HY D = some (HO.lst acc) ∧ acc.length < sizeLine ∧ ivWT a H l D (i + 1) (upd HY D (HO.lst (acc ++ [v]))) := fun HY v e hv => by
            have dD := e _ _ d1
            refine ⟨ys, dD, Nat.lt_of_le_of_lt ly (by decide), Evl.Ex.mut (e1.trans e) hD, _, upd_same, ?_⟩
            rw [List.take_add_one, ho]
            exact Paired.snoc (hv.nl (NL.upd dD)) (Paired.mapP d2 fun _ _ z => (z.go e).nl (NL.upd dD))
          walk_at "sm"
          cases o with
          | none =>
            rcases hel2 with rfl | ⟨j, rfl⟩ | ⟨z, rfl⟩
            · exact isi_ty (t := "NoneType") (b := false) (.base .non) (by decide +kernel) ⟨_, rfl, iteF (fin HX _ (Evl.Ex.refl _) (.inl rfl))⟩
            · exact isi_ty (t := "int") (b := false) (.base (.int _)) (by decide +kernel) ⟨_, rfl, iteF (fin HX _ (Evl.Ex.refl _) (.inr (.inl ⟨_, rfl⟩)))⟩
            · exact isi_ty (t := "str") (b := false) (.base (.str _)) (by decide +kernel) ⟨_, rfl, iteF (fin HX _ (Evl.Ex.refl _) (.inr (.inr ⟨_, rfl⟩)))⟩
          | some s =>
            obtain ⟨rp, kp, op, rfl, t1, t2, os, t3, t4⟩ := hel2
            have oks := hok s (List.mem_of_getElem? ho)
            refine isi_ty (t := "tuple") (b := true) (.base (.tup t1)) (by decide +kernel) ⟨_, rfl, iteT (ixt t1 rfl (ixt t1 rfl ?_))⟩
            intro x dx hx0 hdx ne
            have e : Evl.Ex HX (upd (upd HX dx (.own x)) x (.ins a.c_Step dx [])) := (Evl.Ex.new hdx).trans (Evl.Ex.new (by rw [upd_ne (Ne.symm ne)]; exact hx0))
            refine ⟨x, dx, .ref kp, .ref op, rfl, upd_same, .inr ⟨kp, s, rfl, .inl (t2.go e), ⟨oks, op, os, rfl, .inl (e _ _ t3), Paired.mapP t4 fun _ _ z => z.go fun b ys h => e _ _ h⟩, fun H' f st => ⟨rfl, ?_⟩⟩⟩
            exact fin H' (.ref x) (fun b o h => f b o (fun z => by rw [z, hx0] at h; cases h) (e _ _ h)) ⟨x, rfl, st⟩
        · rintro D HX hD ⟨e1, ys, d1, d2⟩
          rw [lx, List.take_length] at d2
          have gX := (Gd.refl hh).go e1
          refine ⟨p, c, D, ys, rfl, gX.h, .inr d1, (gX.ne hD).1, by rw [paired_len d2]; omega, fun u HY f h sq nu => ?_⟩
          exact ⟨.ref u, none, none, rfl, gX.draw f h, u, rfl, ⟨ys, sq, Paired.mapP d2 fun _ _ z => z.nl (NL.frh f gX.h)⟩, by omega, hok⟩
    · rintro σ HX ⟨hv, v5, v6, rfl, gd, he⟩
      walk_at "sm"
      intro x dx hx hdx ne
      have e : Evl.Ex HX (upd (upd HX dx (.own x)) x (.ins a.c_Web dx [])) := (Evl.Ex.new hdx).trans (Evl.Ex.new (by rw [upd_ne (Ne.symm ne)]; exact hx))
      refine ⟨x, dx, wv, mv, hv, els, d, rfl, upd_same, (hw.fr gd.fr nw).go e, (hm.fr gd.fr nm).go e, he.go e, hd, ?_⟩
      cases d with
      | none =>
        intro H' wd m sts ew em es f hW
        have gg := gd.go (fun b o h => f b o (fun z => by rw [z, hx] at h; cases h) (e _ _ h))
        exact ⟨rfl, k x H' wd m sts ew em es gg.fr gg.h hW fun z => by obtain ⟨ys, hy⟩ := hand_lst gd.h; rw [z, hy] at hx; cases hx⟩
      | some iz =>
        intro d HW eW hd
        refine was_true T.xe_BadWeb fun _ _ => ?_
        walk_at "sm"
        refine ⟨_, hd, _, rfl, _, hd, _, rfl, sz (by decide), fun q hq => ?_⟩
        have gg := (gd.go (e.trans eW)).new (o := .tup [.int iz.1, .str iz.2]) hq
        exact k q _ gg.fr gg.h upd_same
end


/-! ### a web that is right -/
section
variable {X : Cx} {n : Nat} {CX : CXT} {C f : Addr} {fd : FuncData} {ps : List Str} {sp : Sp} {E : XK} {A : Around} {pins : List (Addr × Obj)} {σ : L2.St} {H : Hp} {s : Shared} {a : Addr} {R : Value → Shared → Prop}
theorem call_one (F : FnOk X.prog X.w X.K X.mg X.base CX n f fd ps sp) (hb : Binds X.K fd ps []) (hx : Passes CX X E) (sb : L2.Sub X n A) (I : Inv X pins σ H s) {Qv : VK} (h : sp [.ref a] H Qv E)
    (q : ∀ v H' s' z, Inv X pins σ H' s' → RelV v z → Qv v H' → R z s') : wpAny (model X.prog X.w) A (call (.ref f) [.ref a]) R X.xe s := by
  have here := I.env0
  have e0 : Env0 X.prog X.w X.K X.mg X.base A X.stack s H := { here with frames := by rw [sb.fr]; exact here.frames }
  have hl := F.len _ _ _ _ h
  have one : Vals [V.ref a] [Value.ref a] := .cons rfl .nil
  have hbd := hb s [.ref a] I.kIn (by simpa using hl)
  refine wpAny_call (codeAny_mono (F.run A X.stack s H ⟨[.ref a], []⟩ [.ref a] [.ref a] Qv E sb.room e0 (by simpa using hbd) one h) fun r s' hq => ?_)
  cases r with
  | error e => exact hx pins σ H s e s' I hq
  | ok fl => cases fl with
    | ret w' =>
      obtain ⟨z, H', I', rz, ez⟩ := I.after hq
      exact q z H' s' w' I' rz ez
    | next => exact False.elim hq
    | brk => exact False.elim hq
    | cont => exact False.elim hq
/-- len(x) of an object with the own __len__ -/
def rLenI (C : Addr) (sp : Sp) (E : XK) : List V → Hp → VK → Prop := fun xs H Q => ∃ a dx fs, xs = [.ref a] ∧ H a = some (.ins C dx fs) ∧ sp [.ref a] H (fun v H' => ∃ n : Nat, v = .int n ∧ n ≤ 1000000 ∧ Q (.int n) H') E
theorem call_lenI (F : FnOk X.prog X.w X.K X.mg X.base CX n f fd ps sp) (hs : PySem.W.findIn X.K (.ref C) "__len__" = some (some (.ref f))) (hf : PySem.W.isFn X.K (.ref f) = true) (hb : Binds X.K fd ps []) (hx : Passes CX X E) (hr : Room (n + 1) X.A) : CallR X (.builtin "len") (rLenI C sp E) := by
  intro pins s σ H xs us Q I r h
  obtain ⟨a, dx, fs, rfl, ha, h⟩ := h
  obtain ⟨u1, rfl, r1⟩ := vals1 r
  obtain rfl : u1 = Value.ref a := r1
  obtain ⟨mA, J, _⟩ := ins_get I.hok ha
  obtain ⟨od, J, _⟩ := J.look
  obtain ⟨m, hF⟩ := I.fr
  have room : Room n X.A.in1 := ⟨hr.hd, by have := hr.dp; show X.A.depth + 3 * n + 5 < recursionLimit; omega, by have := hr.un; show X.A.units + 1 + 16 * n + 200 < cLine; omega⟩
  refine PySem.W.len_K hF I.ok.mod.kin J hs hf ?_
  refine call_one F hb hx ⟨room, rfl⟩ I h fun v H' s' z I' rz ez => ?_
  obtain ⟨k, rfl, hk, q⟩ := ez
  obtain ⟨t, rfl⟩ := rz
  refine ⟨⟨by omega, by omega⟩, .int k, H', I'.kept (t' := _) fun _ _ z => z, ⟨_, rfl⟩, q⟩
end
section
variable {P : Program} {w : World} {K : PySem.W.Frag} {mg : Str → Option Value} {base : Heap} {a : Ad}
theorem lay_nats (b : List Nat) : (PyData.tuple (((nI b).map V.int).map dV)).canLay0 = true ∧ (PyData.tuple (((nI b).map V.int).map dV)).depth ≤ 2 := lay_tup fun d hd => by
  obtain ⟨v, hv, rfl⟩ := List.mem_map.mp hd
  obtain ⟨i, _, rfl⟩ := List.mem_map.mp hv
  exact lay_flat (v := .int i) rfl
def bsD (bs : List (List Nat)) : PyData := .tuple (bs.map fun b => .tuple (((nI b).map V.int).map dV))
theorem bsD_sh (bs : List (List Nat)) : SeqAt.shaped (bsD bs) = true := shaped_of (lay_tup fun d hd => by
  obtain ⟨b, _, rfl⟩ := List.mem_map.mp hd
  exact lay_nats b) (by decide)
theorem rows_dp {H : Hp} : ∀ {xs : List V} {bs : List (List Nat)}, Paired (rowR H) xs bs → DpAll K H xs (bs.map fun b => .tuple (((nI b).map V.int).map dV))
  | _, _, .nil => .nil
  | _, _, .cons ⟨q, h1, h2⟩ t => by
    subst h1
    exact .cons (.tup (SqT.of h2) (dp_flats (ints_flat _))) (rows_dp t)
theorem ArrT.dp {H : Hp} {p : Addr} {bs : List (List Nat)} (h : ArrT H p bs) : Dp K H (.ref p) (bsD bs) := by
  obtain ⟨xs, h1, h2⟩ := h
  exact .tup (SqT.of h1) (rows_dp h2)
def ivWq (H : Hp) (x l D : Addr) (wd m : Nat) (ys : List V) : Nat → L2.St → Hp → Prop := fun i σ H' => ∃ v5 v6 v7 v8, σ = [some (.ref x), some (.int wd), some (.int m), some (.ref l), some (.ref D), v5, v6, v7, v8] ∧ Evl.Ex H H' ∧ H' D = some (.lst ys)
def spWR (a : Ad) : Sp := fun vs H Q _ => ∃ (x l : Addr) (wd m : Nat) (sts : List Stp), vs = [.ref x, .int wd, .int m, .ref l] ∧ WebAt a H x wd m sts ∧ RowsS H l sts ∧ (∀ s ∈ sts, s.ok) ∧ 1 ≤ sts.length ∧ sts.length ≤ 200 ∧ ∀ H', Evl.Ex H H' → Q (.bl true) H'
theorem ok_law_web_right (T : Txt K mg a) (D : Txo w K a) : FnOk P w K mg base CX0 11 a.f_law_web_right a.d_law_web_right ["_law_made", "_law_width", "_law_many", "_law_rows"] (spWR a) := by
  refine T.F_law_web_right.ok sc_law_web_right (fun vs H Q E h => ?_) (fun cdv A outer s H vs Q E hr h => ?_)
  · obtain ⟨_, _, _, _, _, rfl, _⟩ := h
    rfl
  · obtain ⟨x, l, wd, m, sts, rfl, hW, hR, hok, n1, n2, k⟩ := h
    refine ⟨_, (pss_cons (ps_if (PW.pt (pw_or (pt_not (pt_val (pe_callB (C8.call_isC T.ic_Web) (by rfl) T.z_isinstance (by decide +kernel) (pa_cons (pv 0) (pa_cons (pe_glob (v := .ref a.c_Web) rfl T.m_Web rfl) pa_nil))))) (pw_or (pt_cmpR op_ne (pe_fld (pv 0) rfl) (pv 1) (nomark _)) (pw_or (pt_cmpR op_ne (pe_fld (pv 0) rfl) (pv 2) (nomark _)) (pw_or (pt_cmpR op_ne (pe_fld (pv 0) rfl) (pe_op op_sub (pe_callB call_len_seq (by rfl) T.z_len (by decide +kernel) (pa_cons (pv 3) pa_nil)) pe_int) (nomark _)) (pw_or1 (pt_cmpR op_ne (pe_callB (call_lenI (ok_Web_len T) T.at_Web___len__ T.fn_Web___len__ T.b_Web___len__ pass0 (hr.mono (by decide))) (by rfl) T.z_len (by decide +kernel) (pa_cons (pv 0) pa_nil)) (pe_callB call_len_seq (by rfl) T.z_len (by decide +kernel) (pa_cons (pv 3) pa_nil)) (nomark _)))))))) (pss_one (ps_ret pe_bl))
    pss_nil)
  (pss_cons (ps_if (PW.pt (pw_or (pt_not (pt_val (pe_callB call_isi (by rfl) T.z_isinstance (by decide +kernel) (pa_cons (pe_fld (pv 0) rfl) (pa_cons (pe_bltn (v := .ty "tuple") (by rfl) T.z_tuple (by decide +kernel) rfl) pa_nil))))) (pw_or (pt_cmpR op_ne (pe_callB call_len_seq (by rfl) T.z_len (by decide +kernel) (pa_cons (pe_fld (pv 0) rfl) pa_nil)) (pe_callB call_len_seq (by rfl) T.z_len (by decide +kernel) (pa_cons (pv 3) pa_nil)) (nomark _)) (pw_or1 (pt_cmpR op_ne (pe_fld (pe_fld (pv 0) rfl) rfl) (pe_op op_sub (pe_callB call_len_seq (by rfl) T.z_len (by decide +kernel) (pa_cons (pv 3) pa_nil)) pe_int) (nomark _)))))) (pss_one (ps_ret pe_bl))
    pss_nil)
  (pss_cons (ps_if (pt_cmpR (op_neD hr.units) (pe_fld (pe_fld (pv 0) rfl) rfl) (pe_call (ok_law_tuples T) (hr.mono (by decide)) rfl T.m_law_tuples T.F_law_tuples.kp T.b_law_tuples .nil pass0 (pa_cons (pe_call (ok_law_web_befores T) (hr.mono (by decide)) rfl T.m_law_web_befores T.F_law_web_befores.kp T.b_law_web_befores .nil pass0 (pa_cons (pv 3) pa_nil)) pa_nil)) (nomark _)) (pss_one (ps_ret pe_bl))
    pss_nil)
  (pss_cons (ps_setLc (i := 4) (own := [("_law_step", 8)]) (g := gName 8) (tt := tYes) rfl sc_law_web_right.nd rfl rfl (sw_true rfl rfl rfl (by decide +kernel)) (pi_ownT (C := a.c_Web) (f := "steps") (pv 0) (ok_Web_iter T) T.at_Web___iter__ T.fn_Web___iter__ T.b_Web___iter__ pass0 (hr.mono (by decide))) (blkOk_by (own := [("_law_step", 8)]) (N := ["_law_made", "_law_width", "_law_many", "_law_rows", "_law_walked", "_law_place", "_law_kind_here", "_law_operands_here", "_law_step"]) (sc := defScope s_law_web_right) (by decide +kernel)) (fun _ _ _ _ _ => pg_name (i := 8) sc_law_web_right.nd rfl (Or.inl rfl)) (fun _ _ _ _ _ => pts_nil) (fun _ _ _ _ _ => (pv 8)))
  (pss_cons (ps_for PassesOwn.never rfl (pi_enum (by rfl) T.z_enumerate (pa_cons (pv 3) pa_nil)) (pg_tup rfl (pgs_cons (pg_name (i := 5) sc_law_web_right.nd rfl (by first | exact Or.inl rfl | exact Or.inr rfl)) (pgs_cons (pg_tup rfl (pgs_cons (pg_name (i := 6) sc_law_web_right.nd rfl (by first | exact Or.inl rfl | exact Or.inr rfl)) (pgs_cons (pg_name (i := 7) sc_law_web_right.nd rfl (by first | exact Or.inl rfl | exact Or.inr rfl)) pgs_nil))) pgs_nil))) (pss_one (ps_if (PW.pt (pw_or (pt_not (pt_val (pe_call (ok_law_step_right T D) (hr.mono (by decide)) rfl T.m_law_step_right T.F_law_step_right.kp T.b_law_step_right .nil pass0 (pa_cons (pe_ix ix_tup (pe_fld (pv 0) rfl) (pv 5) (fun _ _ => rfl)) (pa_cons (pv 6) (pa_cons (pv 7) pa_nil)))))) (pw_or1 (pt_not (pt_cmpR (op_eqI (ok_Step_eq T) T.at_Step___eq__ T.fn_Step___eq__ T.b_Step___eq__ pass0 (hr.mono (by decide))) (pe_ix ix_list (pv 4) (pv 5) (fun _ _ => rfl)) (pe_ix ix_tup (pe_fld (pv 0) rfl) (pv 5) (fun _ _ => rfl)) (nomark _)))))) (pss_one (ps_ret pe_bl))
    pss_nil)))
  (pss_one (ps_ret (pe_cmpR op_eq (pe_callB call_len_seq (by rfl) T.z_len (by decide +kernel) (pa_cons (pv 4) pa_nil)) (pe_callB call_len_seq (by rfl) T.z_len (by decide +kernel) (pa_cons (pv 3) pa_nil)) (nomark _))))))))), ?_⟩
    walk_at "sm"
    obtain ⟨dx, sp, bp, ys, hX, hS, hP, nb, hB⟩ := hW
    have hW : WebAt a H x wd m sts := ⟨dx, sp, bp, ys, hX, hS, hP, nb, hB⟩
    obtain ⟨xs, hl, hx⟩ := hR
    have hR : RowsS H l sts := ⟨xs, hl, hx⟩
    have lx := paired_len hx
    have ly : ys.length = sts.length := paired_len hP
    have ee : ((xs.length : Nat) : Int) - 1 = ((sts.length - 1 : Nat) : Int) := by omega
    refine ⟨⟨dx, _, hX⟩, iteF ⟨_, _, _, hX, T.ic_Web.cl, T.na_Web_width, _, rfl, rfl, iteF' (by simp) ⟨_, _, _, hX, T.ic_Web.cl, T.na_Web_many, _, rfl, rfl, iteF' (by simp) ⟨_, _, _, hX, T.ic_Web.cl, T.na_Web_end, _, rfl, xs, .inl (SqL.of hl), rfl, iteF' (by simp; omega) ⟨x, dx, _, rfl, hX, x, wd, m, sts, rfl, hW, sts.length, rfl, by omega, xs, .inl (SqL.of hl), rfl, ?_⟩⟩⟩⟩⟩
    refine iteF' (by rw [lx]; simp) ⟨_, _, _, hX, T.ic_Web.cl, T.na_Web_steps, _, rfl, isi_ty (t := "tuple") (b := true) (.base (.tup hS)) (by decide +kernel) ⟨_, rfl, iteF ⟨_, _, _, hX, T.ic_Web.cl, T.na_Web_steps, _, rfl, sp, rfl, ys, .inr (SqT.of hS), xs, .inl (SqL.of hl), ?_⟩⟩⟩
    obtain ⟨bd, bb, ba, bo, bn, b1, b2, b3, b4, b5⟩ := hB
    refine iteF' (by rw [lx, ly]; simp) ⟨_, _, _, hX, T.ic_Web.cl, T.na_Web_bare, _, rfl, bp, rfl, _, _, _, b1, T.ic_Bare.cl, T.na_Bare_end, _, rfl, xs, .inl (SqL.of hl), rfl, iteF' (by simp; omega) ?_⟩
    refine ⟨_, _, _, hX, T.ic_Web.cl, T.na_Web_bare, _, rfl, bp, rfl, _, _, _, b1, T.ic_Bare.cl, T.na_Bare_befores, _, rfl, l, sts, rfl, hR, hok, by omega, fun q H1 e1 hq => ⟨q, bsOf sts, rfl, hq, by rw [bsOf_len]; omega, fun r H2 e2 hr2 => ne_same ((b2.nl (NL.ex (e1.trans e2))).dp (K := K)) hr2.dp (bsD_sh _) ⟨_, rfl, iteF ?_⟩⟩⟩
    have eA := e1.trans e2
    refine ⟨_, rfl, x, dx, sp, _, ys, rfl, eA _ _ hX, rfl, eA _ _ hS, ?_⟩
    refine lcg_tup (K := K) (a := sp) (xs := ys) (fun D i H' => Evl.Ex H2 H' ∧ H' D = some (.lst (ys.take i))) (fun D hD => ⟨Evl.Ex.new hD, upd_same⟩) (fun D i HX hD hi h => SqT.of (h.1 _ _ (eA _ _ hS))) ?_ ?_
    · rintro D i y HX hD hi ⟨f1, f2⟩
      walk_at "sm"
      exact ⟨_, f2, Nat.lt_of_le_of_lt (show _ ≤ 200 by rw [List.length_take]; omega) (by decide), f1.mut hD, by rw [upd_same, List.take_add_one, hi]; rfl⟩
    · rintro D HX hD ⟨f1, f2⟩
      rw [List.take_length] at f2
      walk_at "sm"
      have eX := eA.trans f1
      refine for_lstE rfl (ivWq H x l D wd m ys) ⟨_, _, _, _, rfl, eX, f2⟩ (fun i σ HX ⟨_, _, _, _, _, e, _⟩ => e _ _ hl) ?_ ?_
      · rintro i σ HY Tt y hy ⟨v5, v6, v7, v8, rfl, g1, g2⟩ hT
        obtain ⟨st, hst, rp, kp, op, rfl, t1, t2, t3⟩ := paired_at hx hy
        obtain ⟨z, hz, q, rfl, nq, hq⟩ := paired_of hP hst
        have oks := hok st (List.mem_of_getElem? hst)
        have eT := Evl.Ex.new (o := .tup [.int (i : Nat), .ref rp]) hT
        have g1' := g1.trans eT
        have g2' := eT _ _ g2
        walk_at "sm"
        refine ⟨_, SqT.of upd_same, rfl, _, _, rfl, _, _, rfl, rp, rfl, _, SqT.of (g1' _ _ t1), rfl, _, _, rfl, _, _, rfl, rfl, rfl, ?_⟩
        generalize upd HY Tt (.tup [.int (i : Nat), .ref rp]) = H5 at g1' g2' ⊢
        refine ⟨_, _, _, g1' _ _ hX, T.ic_Web.cl, T.na_Web_steps, _, rfl, ixt (g1' _ _ hS) (atI_nat hz) ⟨q, kp, op, st, rfl, hq.go g1', t2.go g1', t3.go (fun b xs h => g1' _ _ h), oks, fun H6 e6 => ⟨_, rfl, iteF (ixl (SqL.of (e6 _ _ g2')) (atI_nat hz) ?_)⟩⟩⟩
        have g6 := g1'.trans e6
        have hq6 := hq.go g6
        obtain ⟨dq, kq, oq, bq, hins, _⟩ := hq6
        refine ⟨_, _, _, g6 _ _ hX, T.ic_Web.cl, T.na_Web_steps, _, rfl, ixt (g6 _ _ hS) (atI_nat hz) ⟨q, q, dq, dq, _, _, rfl, rfl, hins, hins, q, q, st, st, rfl, hq.go g6, hq.go g6, rfl, _, rfl, ?_⟩⟩
        rw [decide_eq_true (rfl : st.ops = st.ops)]
        exact ⟨_, rfl, iteF ⟨_, _, _, _, rfl, g6, e6 _ _ g2'⟩⟩
      · rintro σ HY ⟨v5, v6, v7, v8, rfl, g1, g2⟩
        walk_at "sm"
        refine ⟨ys, .inl (SqL.of g2), xs, .inl (SqL.of (g1 _ _ hl)), ?_⟩
        rw [decide_eq_true (by omega)]
        exact k HY g1
end


/-! ### inputs that are right, and wrong ones -/
theorem Gd.nl {p c : Addr} {H0 H : Hp} (g : Gd p c H0 H) : NL H0 H := NL.frh g.fr g.h0
theorem RowsS.gd {p c l : Addr} {H0 H : Hp} {sts : List Stp} (g : Gd p c H0 H) (n : l ≠ p) (h : RowsS H0 l sts) : RowsS H l sts := by
  obtain ⟨xs, h1, h2⟩ := h
  exact ⟨xs, g.fr _ _ n h1, Paired.mapP h2 fun _ _ y => y.tp g.kp⟩
theorem hand_ne {H : Hp} {p c q : Addr} {ns : List Int} (h : HandAt H p c) (hq : H q = some (.lst (ns.map V.int))) : q ≠ p := by
  rintro rfl
  obtain ⟨cells, i, g, t, hp, _⟩ := h
  rw [hp] at hq
  cases ns with
  | nil => cases hq
  | cons a l => injection hq with e; injection e with e; injection e with e1 e2; cases e1
theorem lay_ints (l : List Int) : (PyData.tuple ((l.map V.int).map dV)).canLay0 = true ∧ (PyData.tuple ((l.map V.int).map dV)).depth ≤ 2 := lay_tup fun d hd => by
  obtain ⟨v, hv, rfl⟩ := List.mem_map.mp hd
  obtain ⟨i, _, rfl⟩ := List.mem_map.mp hv
  exact lay_flat (v := .int i) rfl
theorem lay_intsL (l : List Int) : (PyData.list ((l.map V.int).map dV)).canLay0 = true ∧ (PyData.list ((l.map V.int).map dV)).depth ≤ 2 := lay_lst fun d hd => by
  obtain ⟨v, hv, rfl⟩ := List.mem_map.mp hd
  obtain ⟨i, _, rfl⟩ := List.mem_map.mp hv
  exact lay_flat (v := .int i) rfl
def badD (i : Int) (s : Str) : PyData := .tuple [.str "bad", .int i, .str s]
theorem badD_sh (i : Int) {s : Str} (h : PyData.strOk s = true) : SeqAt.shaped (badD i s) = true := shaped_of (lay_tup fun d hd => by
  simp only [List.mem_cons, List.not_mem_nil, or_false] at hd
  rcases hd with rfl | rfl | rfl
  · exact lay_flat (v := .str "bad") (by decide +kernel)
  · exact lay_flat (v := .int i) rfl
  · exact lay_flat (v := .str s) h) (by decide)
theorem bad_dp {K : PySem.W.Frag} {H : Hp} {q : Addr} {i : Int} {s : Str} (h : H q = some (.tup [.str "bad", .int i, .str s])) : Dp K H (.ref q) (badD i s) := .tup (SqT.of h) (.cons (.str _) (.cons (.int _) (.cons (.str _) .nil)))
section
variable {P : Program} {w : World} {K : PySem.W.Frag} {mg : Str → Option Value} {base : Heap} {a : Ad}
def spIR (a : Ad) : Sp := fun vs H Q _ => ∃ (p c x l : Addr) (wd m : Nat) (sts : List Stp), vs = [.ref p, .ref x, .int wd, .int m, .ref l] ∧ HandAt H p c ∧ WebAt a H x wd m sts ∧ RowsS H l sts ∧ l ≠ p ∧ 1 ≤ wd ∧ wd ≤ 12 ∧ m ≤ 6 ∧ FitW m 0 sts ∧ 1 ≤ sts.length ∧ sts.length ≤ 200 ∧ ∀ H', Fr p H H' → HandAt H' p c → Q (.bl true) H'
def ivIR (H : Hp) (p c x l : Addr) (wd m : Nat) : Nat → L2.St → Hp → Prop := fun _ σ H' => ∃ v5 v6 v7 v8 v9 v10, σ = [some (.ref p), some (.ref x), some (.int wd), some (.int m), some (.ref l), v5, v6, v7, v8, v9, v10] ∧ Gd p c H H'
def mdIR (H : Hp) (p c x l W : Addr) (ns : List Int) (wd m : Nat) : L2.St → Hp → Prop := fun σ H' => ∃ (R : Addr) (zs : List Int) (v5 v7 v8 v10 : Option V), σ = [some (.ref p), some (.ref x), some (.int wd), some (.int m), some (.ref l), v5, some (.ref W), v7, v8, some (.ref R), v10] ∧ Gd p c H H' ∧ H W = none ∧ H' W = some (.lst (ns.map V.int)) ∧ H' R = some (.lst (zs.map V.int)) ∧ zs.length ≤ 50
theorem ok_law_inputs_right (T : Txt K mg a) : FnOk P w K mg base CX0 8 a.f_law_inputs_right a.d_law_inputs_right ["_law_hand_here", "_law_made", "_law_width", "_law_many", "_law_rows"] (spIR a) := by
  refine T.F_law_inputs_right.ok sc_law_inputs_right (fun vs H Q E h => ?_) (fun cdv A outer s H vs Q E hr h => ?_)
  · obtain ⟨_, _, _, _, _, _, _, rfl, _⟩ := h
    rfl
  · obtain ⟨p, c, x, l, wd, m, sts, rfl, hh, hW, hR, nl, w1, w2, hm, hfit, n1, n2, k⟩ := h
    refine ⟨_, (pss_cons (ps_for PassesOwn.never rfl (pi_range1 (by rfl) T.z_range (pa_cons pe_int pa_nil)) (pg_name (i := 5) sc_law_inputs_right.nd rfl (by first | exact Or.inl rfl | exact Or.inr rfl)) (pss_cons (ps_set (i := 6) sc_law_inputs_right.nd rfl (by first | exact Or.inl rfl | exact Or.inr rfl) (pe_call (ok_law_words T) (hr.mono (by decide)) rfl T.m_law_words T.F_law_words.kp T.b_law_words .nil pass0 (pa_cons (pv 0) (pa_cons (pv 3) (pa_cons (pv 2) pa_nil)))))
  (pss_cons (ps_set (i := 7) sc_law_inputs_right.nd rfl (by first | exact Or.inl rfl | exact Or.inr rfl) (pe_call (ok_law_web_words T) (hr.mono (by decide)) rfl T.m_law_web_words T.F_law_web_words.kp T.b_law_web_words .nil pass0 (pa_cons (pv 4) (pa_cons (pv 2) (pa_cons (pv 6) pa_nil)))))
  (pss_cons (ps_set (i := 8) sc_law_inputs_right.nd rfl (by first | exact Or.inl rfl | exact Or.inr rfl) (pe_call (ok_law_either T) (hr.mono (by decide)) rfl T.m_law_either T.F_law_either.kp T.b_law_either .nil pass0 (pa_cons (pv 0) (pa_cons (pv 6) pa_nil))))
  (pss_cons (ps_if (PW.pt (pw_or (pt_cmpR (op_neD hr.units) (pe_call (ok_law_inputs_told T) (hr.mono (by decide)) rfl T.m_law_inputs_told T.F_law_inputs_told.kp T.b_law_inputs_told .nil pass0 (pa_cons (pv 1) (pa_cons (pv 8) pa_nil))) (pe_tup (pa_cons pe_str (pa_cons (pe_callTy call_tuple_of (by rfl) T.z_tuple (by decide +kernel) (pa_cons (pv 7) pa_nil)) (pa_cons (pe_ix ix_list (pv 7) (pe_op op_sub (pe_callB call_len_seq (by rfl) T.z_len (by decide +kernel) (pa_cons (pv 7) pa_nil)) pe_int) (fun _ _ => rfl)) pa_nil)))) (nomark _)) (pw_or1 (pt_cmpR (op_neD hr.units) (pe_callTy call_list_of (by rfl) T.z_list (by decide +kernel) (pa_cons (pv 8) pa_nil)) (pv 6) (nomark _))))) (pss_one (ps_ret pe_bl))
    pss_nil)
  (Evl.pss_cut (ps_set (i := 9) sc_law_inputs_right.nd rfl (by first | exact Or.inl rfl | exact Or.inr rfl) (pe_ifExp (pt_cmpR op_eq (pe_call (ok_law_take T) (hr.mono (by decide)) rfl T.m_law_take T.F_law_take.kp T.b_law_take .nil pass0 (pa_cons (pv 0) (pa_cons pe_int pa_nil))) pe_int (nomark _)) (pe_op op_cat (pv 6) (pe_lst (pa_cons pe_int pa_nil))) (pe_slice sl_list (pv 6) (po_some pe_int) po_none)))
  (Evl.pss_cut (ps_if (PW.pt (pw_and (pt_cmpR op_ne (pe_callB call_len_seq (by rfl) T.z_len (by decide +kernel) (pa_cons (pv 9) pa_nil)) (pv 3) (nomark _)) (pw_and1 (pt_cmpR (op_neD hr.units) (pe_call (ok_law_inputs_told T) (hr.mono (by decide)) rfl T.m_law_inputs_told T.F_law_inputs_told.kp T.b_law_inputs_told .nil pass0 (pa_cons (pv 1) (pa_cons (pv 9) pa_nil))) (pe_tup (pa_cons pe_str (pa_cons (pe_un un_neg pe_int) (pa_cons pe_str pa_nil)))) (nomark _))))) (pss_one (ps_ret pe_bl))
    pss_nil)
  (pss_one (ps_if (pt_cmpR op_gt (pv 3) pe_int (nomark _)) (pss_cons (ps_set (i := 10) sc_law_inputs_right.nd rfl (by first | exact Or.inl rfl | exact Or.inr rfl) (pe_call (ok_law_take T) (hr.mono (by decide)) rfl T.m_law_take T.F_law_take.kp T.b_law_take .nil pass0 (pa_cons (pv 0) (pa_cons (pv 3) pa_nil))))
  (pss_cons (ps_asg (pe_call (ok_law_pick T) (hr.mono (by decide)) rfl T.m_law_pick T.F_law_pick.kp T.b_law_pick .nil pass0 (pa_cons (pv 0) (pa_cons (pe_lst (pa_cons (pe_un un_neg pe_int) (pa_cons (pe_call (ok_law_two T) (hr.mono (by decide)) rfl T.m_law_two T.F_law_two.kp T.b_law_two .nil pass0 (pa_cons (pv 2) pa_nil)) (pa_cons pe_non (pa_cons pe_bl (pa_cons pe_str (pa_cons (pe_op op_pow pe_int pe_int) pa_nil))))))) pa_nil))) (pg_sub (pv 6) (pv 10) set_list (by intro _; rfl)))
  (pss_one (ps_if (pt_cmpR (op_neD hr.units) (pe_call (ok_law_inputs_told T) (hr.mono (by decide)) rfl T.m_law_inputs_told T.F_law_inputs_told.kp T.b_law_inputs_told .nil pass0 (pa_cons (pv 1) (pa_cons (pv 6) pa_nil))) (pe_tup (pa_cons pe_str (pa_cons (pv 10) (pa_cons pe_str pa_nil)))) (nomark _)) (pss_one (ps_ret pe_bl))
    pss_nil))))
    pss_nil)))))))))
  (pss_one (ps_ret (pe_cmpR (op_eqD hr.units) (pe_call (ok_law_inputs_told T) (hr.mono (by decide)) rfl T.m_law_inputs_told T.F_law_inputs_told.kp T.b_law_inputs_told .nil pass0 (pa_cons (pv 1) (pa_cons pe_non pa_nil))) (pe_tup (pa_cons pe_str (pa_cons (pe_un un_neg pe_int) (pa_cons pe_str pa_nil)))) (nomark _))))), ?_⟩
    walk_at "sm"
    refine ⟨_, rfl, by decide, by decide, for_range (lo := 0) (n := (3 : Int).toNat) (ivIR H p c x l wd m) ⟨_, _, _, _, _, _, rfl, Gd.refl hh⟩ ?_ ?_⟩
    · rintro i σ HX hi ⟨v5, v6, v7, v8, v9, v10, rfl, g⟩
      walk_at "sm"
      refine ⟨p, c, m, wd, rfl, g.h, by omega, w2, fun W ns H1 hW0 f1 h1 hns ln rn => ?_⟩
      have g1 := g.draw f1 h1
      have W0 := g.fresh hW0
      walk_at "sm"
      refine ⟨l, W, sts, ns, wd, rfl, hR.gd g1 nl, hns, w1, w2, rn, by omega, by rw [ln]; exact hfit, fun q H2 e2 hq => ?_⟩
      have g2 := g1.go e2
      walk_at "sm"
      refine ⟨p, c, W, ns.map V.int, rfl, g2.h, .inr (e2 _ _ hns), (g2.ne W0).1, by rw [List.length_map]; omega, fun r H3 f3 h3 hr3 nr => ?_⟩
      have g3 := g2.draw f3 h3
      have ns3 := f3 _ _ (g2.ne W0).1 (e2 _ _ hns)
      have q3 := f3 _ _ (hand_ne g2.h hq) hq
      have hW3 := hW.nl g3.nl
      have pl3 : PlainV H3 (.ref r) := hr3.plain
      have lw : (runW ns wd sts []).length = sts.length := by rw [runW_len]; show 0 + sts.length = _; omega
      walk_at "sm"
      refine ⟨x, wd, m, sts, .ref r, rfl, hW3, w2, pl3, n1, n2, hfit, by omega, .inr ⟨r, ns, rfl, hr3, rn, ln, fun t u H4 e4 ht hu => ?_⟩⟩
      have g4 := g3.go e4
      refine ⟨_, .inl ⟨SqL.of (e4 _ _ q3), fun u2 hu2 => ?_⟩⟩
      have y5 := Evl.Ex.new (o := .tup ((runW ns wd sts []).map V.int)) hu2
      have o5 : upd H4 u2 (.tup ((runW ns wd sts []).map V.int)) u2 = some (.tup ((runW ns wd sts []).map V.int)) := upd_same
      generalize upd H4 u2 (.tup ((runW ns wd sts []).map V.int)) = H5 at y5 o5 ⊢
      refine ⟨_, .inl (SqL.of (y5 _ _ (e4 _ _ q3))), ?_⟩
      rw [show (((List.map V.int (runW ns wd sts [])).length : Nat) : Int) - 1 = ((sts.length - 1 : Nat) : Int) by rw [List.length_map, lw]; omega]
      refine ixl (SqL.of (y5 _ _ (e4 _ _ q3))) (int_get (by omega)) ⟨sz (by decide), fun t2 ht2 => ?_⟩
      generalize hlast : ((runW ns wd sts [])[sts.length - 1]?).getD 0 = last at ht ht2 ⊢
      have y6 := Evl.Ex.new (o := .tup [.str "words", .ref u2, .int last]) ht2
      have o6 : upd H5 t2 (.tup [.str "words", .ref u2, .int last]) t2 = some (.tup [.str "words", .ref u2, .int last]) := upd_same
      generalize upd H5 t2 (.tup [.str "words", .ref u2, .int last]) = H6 at y6 o6 ⊢
      have e6 := y5.trans y6
      have g6 := g4.go e6
      refine ne_same (d := .tuple [.str "words", .tuple (((runW ns wd sts []).map V.int).map dV), .int last]) (.tup (SqT.of (e6 _ _ ht)) (.cons (.str _) (.cons (.tup (SqT.of (e6 _ _ hu)) (dp_flats (ints_flat _))) (.cons (.int _) .nil))))
        (.tup (SqT.of o6) (.cons (.str _) (.cons (.tup (SqT.of (y6 _ _ o5)) (dp_flats (ints_flat _))) (.cons (.int _) .nil)))) (shaped_of (lay_tup (n := 2) fun d hd => ?_) (by decide)) ⟨_, rfl, iteF ?_⟩
      · simp only [List.mem_cons, List.not_mem_nil, or_false] at hd
        rcases hd with rfl | rfl | rfl
        · have := lay_flat (v := .str "words") (by decide +kernel)
          exact ⟨this.1, Nat.le_trans this.2 (by decide)⟩
        · exact lay_ints _
        · have := lay_flat (v := .int last) rfl
          exact ⟨this.1, Nat.le_trans this.2 (by decide)⟩
      have r6 : SqAt H6 r (ns.map V.int) := (hr3.go e4).go e6
      have ns6 := e6 _ _ (e4 _ _ ns3)
      refine ⟨_, r6.sq, fun l2 hl2 => ?_⟩
      have y7 := Evl.Ex.new (o := .lst (ns.map V.int)) hl2
      have o7 : upd H6 l2 (.lst (ns.map V.int)) l2 = some (.lst (ns.map V.int)) := upd_same
      generalize upd H6 l2 (.lst (ns.map V.int)) = H7 at y7 o7 ⊢
      refine ne_same (d := .list ((ns.map V.int).map dV)) (.lst (SqL.of o7) (dp_flats (ints_flat _))) (.lst (SqL.of (y7 _ _ ns6)) (dp_flats (ints_flat _))) (shaped_of (lay_intsL _) (by decide)) ⟨_, rfl, iteF ?_⟩
      have g7 := g6.go y7
      have ns7 := y7 _ _ ns6
      refine ⟨mdIR H p c x l W ns wd m, ?_, ?_⟩
      · walk_at "sm"
        refine tk g7.h (by decide) (by decide) fun r8 H8 _ _ f8 h8 => ⟨rfl, ?_⟩
        have g8 := g7.draw f8 h8
        have ns8 := f8 _ _ (g7.ne W0).1 ns7
        refine ite2 (fun _ => ⟨sz (by decide), fun z hz => ?_⟩) fun _ => ⟨W, _, rfl, SqL.of ns8, fun z hz => ?_⟩
        · have y9 := Evl.Ex.new (o := .lst [V.int 0]) hz
          have o9 : upd H8 z (.lst [V.int 0]) z = some (.lst [V.int 0]) := upd_same
          have g9 := g8.new (o := .lst [V.int 0]) hz
          generalize upd H8 z (.lst [V.int 0]) = H9 at y9 o9 g9 ⊢
          refine ⟨W, z, _, _, rfl, rfl, y9 _ _ ns8, o9, sz (by rw [List.length_map]; show ns.length + 1 ≤ 100000; omega), fun R hR9 => ?_⟩
          have yR := Evl.Ex.new (o := .lst (ns.map V.int ++ [V.int 0])) hR9
          exact ⟨R, ns ++ [0], _, _, _, _, rfl, g9.new hR9, W0, yR _ _ (y9 _ _ ns8), by rw [upd_same, List.map_append]; rfl, by rw [List.length_append]; show ns.length + 1 ≤ 50; omega⟩
        · have yR := Evl.Ex.new (o := .lst (cutV (ns.map V.int) (some 1) none)) hz
          have cc : cutV (ns.map V.int) (some 1) none = (ns.drop 1).map V.int := by
            rw [List.map_drop]
            rcases Nat.eq_zero_or_pos ns.length with e | e
            · have : ns = [] := List.length_eq_zero_iff.mp e
              rw [this]; rfl
            · exact cut_from (n := 1) (by rw [List.length_map]; exact e)
          exact ⟨z, ns.drop 1, _, _, _, _, rfl, g8.new hz, W0, yR _ _ ns8, by rw [upd_same, cc], by rw [List.length_drop]; omega⟩
      · rintro σ H8 ⟨R, zs, v5, v7, v8, v10, rfl, g8, _, ns8, zs8, lz⟩
        refine ⟨mdIR H p c x l W ns wd m, ?_, ?_⟩
        · walk_at "sm"
          have same : mdIR H p c x l W ns wd m [some (.ref p), some (.ref x), some (.int wd), some (.int m), some (.ref l), v5, some (.ref W), v7, v8, some (.ref R), v10] H8 := ⟨R, zs, _, _, _, _, rfl, g8, W0, ns8, zs8, lz⟩
          refine ⟨_, .inl (SqL.of zs8), ?_⟩
          by_cases cl : (((zs.map V.int).length : Nat) : Int) = (m : Int)
          · exact iteF' (by rw [decide_eq_true cl]; rfl) same
          · refine iteT' (by rw [decide_eq_false cl]; rfl) ⟨x, wd, m, sts, .ref R, rfl, hW.nl g8.nl, w2, (show SqAt H8 R _ from .inr zs8).plain, n1, n2, hfit, by omega, .inl ⟨-1, "many", .inr ⟨R, _, rfl, .inr zs8, by rw [List.length_map]; omega, ints_plain zs, .inl ⟨fun z => cl (by rw [z]), rfl, rfl⟩⟩, fun t H9 e9 ht => ⟨sz (by decide), fun t2 ht2 => ?_⟩⟩⟩
            have y2 := Evl.Ex.new (o := .tup [.str "bad", .int (-1), .str "many"]) ht2
            refine ne_same (bad_dp (y2 _ _ ht)) (bad_dp upd_same) (badD_sh _ (by decide +kernel)) ⟨_, rfl, iteF ⟨R, zs, _, _, _, _, rfl, (g8.go e9).go y2, W0, (e9.trans y2) _ _ ns8, (e9.trans y2) _ _ zs8, lz⟩⟩
        · rintro σ H8 ⟨R, zs, v5, v7, v8, v10, rfl, g8, _, ns8, zs8, lz⟩
          walk_at "sm"
          refine ite2 (fun m0 => ?_) fun _ => ⟨_, _, _, _, _, _, rfl, g8⟩
          refine tk g8.h (by omega) (by omega) fun r9 H9 a1 a2 f9 h9 => ?_
          have g9 := g8.draw f9 h9
          have ns9 := f9 _ _ (g8.ne W0).1 ns8
          walk_at "sm"
          refine ⟨wd, rfl, by omega, ⟨by decide, by decide, by decide⟩, sz (by decide), fun M hM => ?_⟩
          have gM := g9.new (o := .lst [.int (-1), .int (2 ^ wd), .non, .bl true, .str "0", .int (10 ^ Int.toNat 20)]) hM
          have yM := Evl.Ex.new (o := .lst [.int (-1), .int (2 ^ wd), .non, .bl true, .str "0", .int (10 ^ Int.toNat 20)]) hM
          refine ⟨p, c, M, _, rfl, gM.h, upd_same, (by show 1 ≤ 6; omega), (by show 6 ≤ 1000; omega), (gM.ne (g9.fresh hM)).1, fun y H10 hy f10 h10 => ?_⟩
          have g10 := gM.draw f10 h10
          have ns10 := f10 _ _ (gM.ne W0).1 (yM _ _ ns9)
          obtain ⟨e, rfl⟩ : ∃ e : Nat, r9 = e := ⟨r9.toNat, by omega⟩
          have el : e < ns.length := by omega
          have ixe : ixN (ns.map V.int).length (e : Int) = some e := by
            unfold ixN
            rw [List.length_map, if_pos (Int.natCast_nonneg e), if_pos (by omega)]
            rfl
          refine ⟨W, _, (e : Int), e, rfl, rfl, ns10, ixe, ?_⟩
          have pw : (2 : Int) ^ wd ≤ 4096 := by
            have : (2 : Nat) ^ wd ≤ 2 ^ 12 := Nat.pow_le_pow_right (by decide) w2
            exact_mod_cast this
          have bad : okW wd y = false ∧ ∀ HZ, PlainV HZ y := by
            simp only [List.mem_cons, List.not_mem_nil, or_false] at hy
            rcases hy with rfl | rfl | rfl | rfl | rfl | rfl
            · exact ⟨rfl, fun _ => plain_int⟩
            · refine ⟨?_, fun _ => plain_int⟩
              show (decide ((0 : Int) ≤ 2 ^ wd) && decide ((2 : Int) ^ wd ≤ 2 ^ wd - 1)) = false
              rw [decide_eq_false (show ¬ ((2 : Int) ^ wd ≤ 2 ^ wd - 1) by omega), Bool.and_false]
            · exact ⟨rfl, fun _ => .inl rfl⟩
            · exact ⟨rfl, fun _ => .inr (.inl ⟨_, rfl⟩)⟩
            · exact ⟨rfl, fun _ => .inr (.inr (.inr (.inl ⟨_, rfl⟩)))⟩
            · refine ⟨?_, fun _ => plain_int⟩
              show (decide ((0 : Int) ≤ 10 ^ Int.toNat 20) && decide ((10 : Int) ^ Int.toNat 20 ≤ 2 ^ wd - 1)) = false
              rw [decide_eq_false (show ¬ ((10 : Int) ^ Int.toNat 20 ≤ 2 ^ wd - 1) by
                have : (4096 : Int) < 10 ^ Int.toNat 20 := by decide
                omega), Bool.and_false]
          have g11 := g10.upd (o := .lst ((ns.map V.int).set e y)) W0
          have o11 : upd H10 W (.lst ((ns.map V.int).set e y)) W = some (.lst ((ns.map V.int).set e y)) := upd_same
          generalize upd H10 W (.lst ((ns.map V.int).set e y)) = H11 at g11 o11 ⊢
          have lset : ((ns.map V.int).set e y).length = m := by rw [List.length_set, List.length_map]; exact ln
          refine ⟨x, wd, m, sts, .ref W, rfl, hW.nl g11.nl, w2, (show SqAt H11 W _ from .inr o11).plain, n1, n2, hfit, by omega, .inl ⟨e, "word", .inr ⟨W, _, rfl, .inr o11, by omega, fun z hz => ?_, .inr ⟨lset, rfl, e, y, rfl, ?_, bad.1, fun j z hj hz => ?_⟩⟩, fun t H12 e12 ht => ⟨sz (by decide), fun t2 ht2 => ?_⟩⟩⟩
          · rcases List.mem_or_eq_of_mem_set hz with h | rfl
            · exact ints_plain ns z h
            · exact bad.2 _
          · rw [List.getElem?_set_self (by rw [List.length_map]; exact el)]
          · rw [List.getElem?_set_ne (by omega)] at hz
            obtain ⟨n, hn, rfl⟩ := int_at hz
            exact okW_of (rn n (List.mem_of_getElem? hn))
          · have y2 := Evl.Ex.new (o := .tup [.str "bad", .int (e : Int), .str "word"]) ht2
            exact ne_same (bad_dp (y2 _ _ ht)) (bad_dp upd_same) (badD_sh _ (by decide +kernel)) ⟨_, rfl, iteF ⟨_, _, _, _, _, _, rfl, (g11.go e12).go y2⟩⟩
    · rintro σ HX ⟨v5, v6, v7, v8, v9, v10, rfl, g⟩
      walk_at "sm"
      refine ⟨x, wd, m, sts, .non, rfl, hW.nl g.nl, w2, .inl rfl, n1, n2, hfit, by omega, .inl ⟨-1, "many", .inl ⟨rfl, rfl, rfl⟩, fun q H1 e1 hq => ⟨sz (by decide), fun t ht => ?_⟩⟩⟩
      have y2 := Evl.Ex.new (o := .tup [.str "bad", .int (-1), .str "many"]) ht
      have gg := (g.go e1).go y2
      exact eq_same (bad_dp (y2 _ _ hq)) (bad_dp upd_same) (badD_sh _ (by decide +kernel)) (k _ gg.fr gg.h)
end


/-! ### one case -/
theorem fit_from {m : Nat} : ∀ {sts : List Stp} {k : Nat}, (∀ s ∈ sts, s.ok) → (∀ (j : Nat) (s : Stp), sts[j]? = some s → elDue m (k + j) (some s) = none) → FitW m k sts
  | [], _, _, _ => trivial
  | s :: r, k, h1, h2 => by
    have e := el_none (h2 0 s rfl)
    have ok := h1 s List.mem_cons_self
    refine ⟨ok, fun o ho => ?_, fit_from (fun t ht => h1 t (List.mem_cons_of_mem _ ht)) fun j t ht => by have := h2 (j + 1) t ht; rwa [show k + 1 + j = k + (j + 1) by omega]⟩
    cases o with
    | pl n => exact e.1 n ((befs_mem ok.2).mpr ho)
    | gi n =>
      rcases Nat.lt_or_ge n m with g | g
      · exact g
      · have : s.ops.any (isGi m) = true := List.any_eq_true.mpr ⟨_, ho, decide_eq_true g⟩
        rw [e.2] at this
        cases this
    | nu n => trivial
theorem map_some_inj {α : Type} : ∀ {l m : List α}, l.map some = m.map some → l = m
  | [], [], _ => rfl
  | [], _ :: _, h => by cases h
  | _ :: _, [], h => by cases h
  | x :: l, y :: m, h => by
    injection h with h1 h2
    injection h1 with h1
    rw [h1, map_some_inj h2]
/-- what is not refused -/
theorem wd_none {wv mv : V} {els : Option (List (Option Stp))} (h : WD wv mv els none) (ok : ∀ l, els = some l → ∀ s, some s ∈ l → s.ok) : ∃ (wd m : Nat) (sts : List Stp), wv = .int wd ∧ mv = .int m ∧ els = some (sts.map some) ∧ 1 ≤ wd ∧ wd ≤ 12 ∧ m ≤ 6 ∧ 1 ≤ sts.length ∧ sts.length ≤ 200 ∧ (∀ s ∈ sts, s.ok) ∧ FitW m 0 sts ∧
    ∀ wd' : Nat, 1 ≤ wd' → wd' ≤ 12 → WD (.int wd') mv els none := by
  rcases h with ⟨z, _, h⟩ | ⟨wd, m, l, rfl, rfl, rfl, h1, h2, h3, h4, h⟩
  · cases h
  · rcases h with ⟨iz, _, h⟩ | ⟨h5, sts, rfl, h6, dd, h7, h8⟩
    · cases h
    · have oks : ∀ s ∈ sts, s.ok := fun s hs => ok _ rfl s (List.mem_map.mpr ⟨s, hs, rfl⟩)
      rw [List.length_map] at h3 h4
      obtain ⟨sts', e, sel⟩ := st_none h5
      obtain rfl := map_some_inj e
      have c1 : wiB (.int (wd : Int)) 1 12 = true := by
        cases c : wiB (.int (wd : Int)) 1 12 with
        | true => rfl
        | false => unfold shDue at h1; rw [if_pos c] at h1; cases h1
      have c2 : wiB (.int (m : Int)) 0 6 = true := by
        cases c : wiB (.int (m : Int)) 0 6 with
        | true => rfl
        | false => unfold shDue at h1; rw [if_neg (by rw [c1]; decide), if_pos c] at h1; cases h1
      have d1 : (decide ((1 : Int) ≤ (wd : Int)) && decide ((wd : Int) ≤ 12)) = true := c1
      have d2 : (decide ((0 : Int) ≤ (m : Int)) && decide ((m : Int) ≤ 6)) = true := c2
      rw [Bool.and_eq_true, decide_eq_true_eq, decide_eq_true_eq] at d1 d2
      refine ⟨wd, m, sts, rfl, rfl, rfl, by omega, h2, by omega, h3, h4, oks, fit_from oks sel, fun wd' w1 w2 => .inr ⟨wd', m, _, rfl, rfl, rfl, ?_, w2, by rw [List.length_map]; exact h3, by rw [List.length_map]; exact h4, .inr ⟨h5, sts, rfl, h6, dd, h7, h8⟩⟩⟩
      have c3 : wiB (.int (wd' : Int)) 1 12 = true := by
        show (decide ((1 : Int) ≤ (wd' : Int)) && decide ((wd' : Int) ≤ 12)) = true
        rw [decide_eq_true (by omega), decide_eq_true (by omega)]
        rfl
      unfold shDue at h1 ⊢
      rw [if_neg (by rw [c1]; decide), if_neg (by rw [c2]; decide)] at h1
      rw [if_neg (by rw [c3]; decide), if_neg (by rw [c2]; decide)]
      exact h1
theorem sh_str {wv mv : V} {n : Option Nat} {z : Str} (h : shDue wv mv n = some z) : PyData.strOk z = true := by
  have ok : ∀ y : Str, (y = "width" ∨ y = "many" ∨ y = "steps") → PyData.strOk y = true := fun y hy => by
    rcases hy with rfl | rfl | rfl <;> decide +kernel
  unfold shDue at h
  split at h
  · exact ok _ (.inl (Option.some.inj h).symm)
  · split at h
    · exact ok _ (.inr (.inl (Option.some.inj h).symm))
    · split at h
      · exact ok _ (.inr (.inr (Option.some.inj h).symm))
      · split at h
        · cases h
        · exact ok _ (.inr (.inr (Option.some.inj h).symm))
theorem st_str {m : Nat} : ∀ {l : List (Option Stp)} {i : Nat} {iz : Int × Str}, stDue m i l = some iz → PyData.strOk iz.2 = true
  | [], _, _, h => by cases h
  | o :: r, i, iz, h => by
    have h' : (match elDue m i o with
      | some z => some ((i : Int), z)
      | none => stDue m (i + 1) r) = some iz := h
    have ok : ∀ y : Str, (y = "step" ∨ y = "place" ∨ y = "given") → PyData.strOk y = true := fun y hy => by
      rcases hy with rfl | rfl | rfl <;> decide +kernel
    cases e : elDue m i o with
    | none => rw [e] at h'; exact st_str h'
    | some z =>
      rw [e] at h'
      cases h'
      show PyData.strOk z = true
      cases o with
      | none => exact ok _ (.inl (Option.some.inj e).symm)
      | some s =>
        rw [elDue_some] at e
        split at e
        · exact ok _ (.inr (.inl (Option.some.inj e).symm))
        · split at e
          · exact ok _ (.inr (.inr (Option.some.inj e).symm))
          · cases e
theorem wd_str {wv mv : V} {els : Option (List (Option Stp))} {iz : Int × Str} (h : WD wv mv els (some iz)) : PyData.strOk iz.2 = true := by
  rcases h with ⟨z, h1, h2⟩ | ⟨wd, m, l, _, _, _, _, _, _, _, h⟩
  · cases h2
    exact sh_str h1
  · rcases h with ⟨jz, h1, h2⟩ | ⟨_, sts, _, _, dd, _, h2⟩
    · cases h2
      exact st_str h1
    · cases dd with
      | none => cases h2
      | some q =>
        cases h2
        show PyData.strOk ("idle" : Str) = true
        decide +kernel
def sclV (v : V) : Prop := v = .non ∨ (∃ b, v = .bl b) ∨ (∃ i, v = .int i) ∨ ∃ s, v = .str s
theorem sclV.plain {v : V} (h : sclV v) (H : Hp) : PlainV H v := by
  rcases h with h | h | h | h
  · exact .inl h
  · exact .inr (.inl h)
  · exact .inr (.inr (.inl h))
  · exact .inr (.inr (.inr (.inl h)))
theorem sclV.ne {v : V} (h : sclV v) (p : Addr) : v ≠ .ref p := by
  rcases h with rfl | ⟨_, rfl⟩ | ⟨_, rfl⟩ | ⟨_, rfl⟩ <;> exact fun z => nomatch z
def dueD (iz : Int × Str) : PyData := .tuple [.int iz.1, .str iz.2]
section
variable {P : Program} {w : World} {K : PySem.W.Frag} {mg : Str → Option Value} {base : Heap} {a : Ad}
theorem due_dp {H : Hp} {q : Addr} {iz : Int × Str} (h : H q = some (.tup [.int iz.1, .str iz.2])) : Dp K H (.ref q) (dueD iz) := .tup (SqT.of h) (.cons (.int _) (.cons (.str _) .nil))
theorem due_sh {iz : Int × Str} (h : PyData.strOk iz.2 = true) : SeqAt.shaped (dueD iz) = true := shaped_of (lay_tup fun d hd => by
  simp only [List.mem_cons, List.not_mem_nil, or_false] at hd
  rcases hd with rfl | rfl
  · exact lay_flat (v := .int iz.1) rfl
  · exact lay_flat (v := .str iz.2) h) (by decide)
theorem rowsV.gd {p c : Addr} {H0 H : Hp} {v : V} {els : Option (List (Option Stp))} (g : Gd p c H0 H) (n : v ≠ .ref p) (h : rowsV H0 v els) : rowsV H v els := by
  cases els with
  | none => exact h
  | some l =>
    obtain ⟨q, xs, h1, h2, h3, h4⟩ := h
    exact ⟨q, xs, h1, g.fr _ _ (fun z => n (by rw [h1, z])) h2, Paired.mapP h3 fun _ _ y => y.tp g.kp, h4⟩
def ivCa (H : Hp) (p c : Addr) (wd m : Nat) (l x x8 x9 kp op : Addr) : Nat → L2.St → Hp → Prop := fun _ σ H' => ∃ v4 v10 v11 v12 v13 v14, σ = [some (.ref p), some (.int wd), some (.int m), some (.ref l), v4, some (.ref x), some (.ref x8), some (.ref x9), some (.ref kp), some (.ref op), v10, v11, v12, v13, v14] ∧ Gd p c H H'
def mdCw (H : Hp) (p c : Addr) (wd m : Nat) (l x x8 x9 kp op : Addr) (sv : V) (els : Option (List (Option Stp))) : L2.St → Hp → Prop := fun σ H' => ∃ v4 v10 v13 v14 wv, σ = [some (.ref p), some (.int wd), some (.int m), some (.ref l), v4, some (.ref x), some (.ref x8), some (.ref x9), some (.ref kp), some (.ref op), v10, some sv, some wv, v13, v14] ∧ Gd p c H H' ∧ sclV wv ∧ rowsV H' sv els
def mdCg (H : Hp) (p c : Addr) (wd m : Nat) (l x x8 x9 kp op : Addr) (sv wv : V) (els : Option (List (Option Stp))) : L2.St → Hp → Prop := fun σ H' => ∃ v4 v10 v14 gv, σ = [some (.ref p), some (.int wd), some (.int m), some (.ref l), v4, some (.ref x), some (.ref x8), some (.ref x9), some (.ref kp), some (.ref op), v10, some sv, some wv, some gv, v14] ∧ Gd p c H H' ∧ sclV gv ∧ rowsV H' sv els
def spLC : Sp := fun vs H Q _ => ∃ (p c : Addr), vs = [.ref p] ∧ HandAt H p c ∧ ∀ H', Fr p H H' → HandAt H' p c → Q (.bl true) H'
theorem ok_law_case (T : Txt K mg a) (D : Txo w K a) (I : Txi K a) (Y : Txv K mg a) : FnOk P w K mg base CX0 12 a.f_law_case a.d_law_case ["_law_hand_here"] spLC := by
  refine T.F_law_case.ok sc_law_case (fun vs H Q E h => ?_) (fun cdv A outer s H vs Q E hr h => ?_)
  · obtain ⟨_, _, rfl, _⟩ := h
    rfl
  · obtain ⟨p, c, rfl, hh, k⟩ := h
    refine ⟨_, (pss_cons (ps_set (i := 1) sc_law_case.nd rfl (by first | exact Or.inl rfl | exact Or.inr rfl) (pe_op op_add pe_int (pe_call (ok_law_take T) (hr.mono (by decide)) rfl T.m_law_take T.F_law_take.kp T.b_law_take .nil pass0 (pa_cons (pv 0) (pa_cons pe_int pa_nil)))))
  (pss_cons (ps_set (i := 2) sc_law_case.nd rfl (by first | exact Or.inl rfl | exact Or.inr rfl) (pe_call (ok_law_take T) (hr.mono (by decide)) rfl T.m_law_take T.F_law_take.kp T.b_law_take .nil pass0 (pa_cons (pv 0) (pa_cons pe_int pa_nil))))
  (pss_cons (ps_set (i := 3) sc_law_case.nd rfl (by first | exact Or.inl rfl | exact Or.inr rfl) (pe_call (ok_law_drawn_steps T) (hr.mono (by decide)) rfl T.m_law_drawn_steps T.F_law_drawn_steps.kp T.b_law_drawn_steps .nil pass0 (pa_cons (pv 0) (pa_cons (pv 2) pa_nil))))
  (pss_cons (ps_set (i := 4) sc_law_case.nd rfl (by first | exact Or.inl rfl | exact Or.inr rfl) (pe_call (ok_law_web_due T) (hr.mono (by decide)) rfl T.m_law_web_due T.F_law_web_due.kp T.b_law_web_due .nil pass0 (pa_cons (pv 1) (pa_cons (pv 2) (pa_cons (pv 3) pa_nil)))))
  (pss_cons (ps_set (i := 5) sc_law_case.nd rfl (by first | exact Or.inl rfl | exact Or.inr rfl) (pe_call (ok_law_web_told T D I) (hr.mono (by decide)) rfl T.m_law_web_told T.F_law_web_told.kp T.b_law_web_told .nil pass0 (pa_cons (pv 0) (pa_cons (pv 1) (pa_cons (pv 2) (pa_cons (pv 3) pa_nil))))))
  (pss_cons (ps_if (pt_cmpR op_notN (pv 4) pe_non (nomark _)) (pss_one (ps_ret (pe_cmpR (op_eqD hr.units) (pv 5) (pv 4) (nomark _))))
    pss_nil)
  (pss_cons (ps_if (PW.pt (pw_or (pt_not (pt_val (pe_call (ok_law_web_right T D) (hr.mono (by decide)) rfl T.m_law_web_right T.F_law_web_right.kp T.b_law_web_right .nil pass0 (pa_cons (pv 5) (pa_cons (pv 1) (pa_cons (pv 2) (pa_cons (pv 3) pa_nil))))))) (pw_or1 (pt_not (pt_val (pe_call (ok_law_inputs_right T) (hr.mono (by decide)) rfl T.m_law_inputs_right T.F_law_inputs_right.kp T.b_law_inputs_right .nil pass0 (pa_cons (pv 0) (pa_cons (pv 5) (pa_cons (pv 1) (pa_cons (pv 2) (pa_cons (pv 3) pa_nil))))))))))) (pss_one (ps_ret pe_bl))
    pss_nil)
  (pss_cons (ps_set (i := 6) sc_law_case.nd rfl (by first | exact Or.inl rfl | exact Or.inr rfl) (pe_call (ok_law_web_told T D I) (hr.mono (by decide)) rfl T.m_law_web_told T.F_law_web_told.kp T.b_law_web_told .nil pass0 (pa_cons (pv 0) (pa_cons (pv 1) (pa_cons (pv 2) (pa_cons (pv 3) pa_nil))))))
  (pss_cons (ps_set (i := 7) sc_law_case.nd rfl (by first | exact Or.inl rfl | exact Or.inr rfl) (pe_call (ok_law_web_told T D I) (hr.mono (by decide)) rfl T.m_law_web_told T.F_law_web_told.kp T.b_law_web_told .nil pass0 (pa_cons (pv 0) (pa_cons (pe_op op_sub pe_int (pv 1)) (pa_cons (pv 2) (pa_cons (pv 3) pa_nil))))))
  (pss_cons (ps_if (PW.pt (pw_or (pt_not (pt_cmpR (op_eqI (ok_Web_eq T) T.at_Web___eq__ T.fn_Web___eq__ T.b_Web___eq__ pass0 (hr.mono (by decide))) (pv 5) (pv 6) (nomark _))) (pw_or1 (pt_cmpR (op_eqI (ok_Web_eq T) T.at_Web___eq__ T.fn_Web___eq__ T.b_Web___eq__ pass0 (hr.mono (by decide))) (pv 5) (pv 7) (nomark _))))) (pss_one (ps_ret pe_bl))
    pss_nil)
  (pss_cons (ps_asg (pe_ix ix_list (pv 3) (pe_call (ok_law_take T) (hr.mono (by decide)) rfl T.m_law_take T.F_law_take.kp T.b_law_take .nil pass0 (pa_cons (pv 0) (pa_cons (pe_callB call_len_seq (by rfl) T.z_len (by decide +kernel) (pa_cons (pv 3) pa_nil)) pa_nil))) (fun _ _ => rfl)) (pg_tup rfl (pgs_cons (pg_name (i := 8) sc_law_case.nd rfl (by first | exact Or.inl rfl | exact Or.inr rfl)) (pgs_cons (pg_name (i := 9) sc_law_case.nd rfl (by first | exact Or.inl rfl | exact Or.inr rfl)) pgs_nil))))
  (pss_cons (ps_if (pt_not (pt_val (pe_call (ok_law_odd_steps T D Y) (hr.mono (by decide)) rfl T.m_law_odd_steps T.F_law_odd_steps.kp T.b_law_odd_steps .nil pass0 (pa_cons (pv 0) (pa_cons (pv 8) (pa_cons (pv 9) pa_nil)))))) (pss_one (ps_ret pe_bl))
    pss_nil)
  (pss_cons (ps_for PassesOwn.never rfl (pi_range1 (by rfl) T.z_range (pa_cons pe_int pa_nil)) (pg_name (i := 10) sc_law_case.nd rfl (by first | exact Or.inl rfl | exact Or.inr rfl)) (pss_cons (ps_set (i := 11) sc_law_case.nd rfl (by first | exact Or.inl rfl | exact Or.inr rfl) (pe_call (ok_law_spoilt_rows T) (hr.mono (by decide)) rfl T.m_law_spoilt_rows T.F_law_spoilt_rows.kp T.b_law_spoilt_rows .nil pass0 (pa_cons (pv 0) (pa_cons (pv 3) pa_nil))))
  (Evl.pss_cut (ps_set (i := 12) sc_law_case.nd rfl (by first | exact Or.inl rfl | exact Or.inr rfl) (pe_ifExp (pt_cmpR op_eq (pe_call (ok_law_take T) (hr.mono (by decide)) rfl T.m_law_take T.F_law_take.kp T.b_law_take .nil pass0 (pa_cons (pv 0) (pa_cons pe_int pa_nil))) pe_int (nomark _)) (pe_call (ok_law_pick T) (hr.mono (by decide)) rfl T.m_law_pick T.F_law_pick.kp T.b_law_pick .nil pass0 (pa_cons (pv 0) (pa_cons (pe_lst (pa_cons pe_int (pa_cons pe_int (pa_cons (pe_un un_neg pe_int) (pa_cons pe_bl (pa_cons pe_non pa_nil)))))) pa_nil))) (pv 1)))
  (Evl.pss_cut (ps_set (i := 13) sc_law_case.nd rfl (by first | exact Or.inl rfl | exact Or.inr rfl) (pe_ifExp (pt_cmpR op_eq (pe_call (ok_law_take T) (hr.mono (by decide)) rfl T.m_law_take T.F_law_take.kp T.b_law_take .nil pass0 (pa_cons (pv 0) (pa_cons pe_int pa_nil))) pe_int (nomark _)) (pe_call (ok_law_pick T) (hr.mono (by decide)) rfl T.m_law_pick T.F_law_pick.kp T.b_law_pick .nil pass0 (pa_cons (pv 0) (pa_cons (pe_lst (pa_cons (pe_un un_neg pe_int) (pa_cons pe_int (pa_cons pe_bl (pa_cons pe_non (pa_cons pe_str (pa_cons pe_int (pa_cons pe_int pa_nil)))))))) pa_nil))) (pv 2)))
  (pss_cons (ps_set (i := 4) sc_law_case.nd rfl (by first | exact Or.inl rfl | exact Or.inr rfl) (pe_call (ok_law_web_due T) (hr.mono (by decide)) rfl T.m_law_web_due T.F_law_web_due.kp T.b_law_web_due .nil pass0 (pa_cons (pv 12) (pa_cons (pv 13) (pa_cons (pv 11) pa_nil)))))
  (pss_cons (ps_set (i := 14) sc_law_case.nd rfl (by first | exact Or.inl rfl | exact Or.inr rfl) (pe_call (ok_law_web_told T D I) (hr.mono (by decide)) rfl T.m_law_web_told T.F_law_web_told.kp T.b_law_web_told .nil pass0 (pa_cons (pv 0) (pa_cons (pv 12) (pa_cons (pv 13) (pa_cons (pv 11) pa_nil))))))
  (pss_one (ps_if (PW.pt (pw_or (PW.pt (pw_and (pt_cmpR op_isN (pv 4) pe_non (nomark _)) (pw_and1 (pt_not (pt_val (pe_call (ok_law_web_right T D) (hr.mono (by decide)) rfl T.m_law_web_right T.F_law_web_right.kp T.b_law_web_right .nil pass0 (pa_cons (pv 14) (pa_cons (pv 12) (pa_cons (pv 13) (pa_cons (pv 11) pa_nil)))))))))) (pw_or1 (PW.pt (pw_and (pt_cmpR op_notN (pv 4) pe_non (nomark _)) (pw_and1 (pt_cmpR (op_neD hr.units) (pv 14) (pv 4) (nomark _)))))))) (pss_one (ps_ret pe_bl))
    pss_nil))))))))
  (pss_one (ps_ret (pe_call (ok_law_web_right T D) (hr.mono (by decide)) rfl T.m_law_web_right T.F_law_web_right.kp T.b_law_web_right .nil pass0 (pa_cons (pv 5) (pa_cons (pv 1) (pa_cons (pv 2) (pa_cons (pv 3) pa_nil)))))))))))))))))))), ?_⟩
    walk_at "sm"
    refine tk hh (by decide) (by decide) fun r0 H1 a1 a2 f1 h1 => ⟨_, rfl, tk h1 (by decide) (by decide) fun r1 H2 b1 b2 f2 h2 => ?_⟩
    obtain ⟨wd, rfl⟩ : ∃ n : Nat, r0 = (n : Int) - 1 := ⟨(r0 + 1).toNat, by omega⟩
    obtain ⟨m, rfl⟩ : ∃ n : Nat, r1 = n := ⟨r1.toNat, by omega⟩
    rw [show (1 : Int) + ((wd : Int) - 1) = (wd : Int) by omega]
    refine ⟨p, c, m, rfl, h2, by omega, fun l sts H3 f3 h3 hR nl n1 n2 hok => ?_⟩
    have g3 := (((Gd.refl hh).draw f1 h1).draw f2 h2).draw f3 h3
    obtain ⟨xs, hl, hx⟩ := hR
    have hR : RowsS H3 l sts := ⟨xs, hl, hx⟩
    have lx := paired_len hx
    have hok' : ∀ s, some s ∈ sts.map some → s.ok := fun s hs => by obtain ⟨s', h1, h2⟩ := List.mem_map.mp hs; cases h2; exact hok _ h1
    have rv : rowsV H3 (.ref l) (some (sts.map some)) := ⟨l, xs, rfl, hl, rows_of hx, by rw [List.length_map]; omega, hok'⟩
    refine ⟨.int wd, .int m, .ref l, _, rfl, plain_int, plain_int, rv, fun d dv H4 e4 hwd hdv => ?_⟩
    have g4 := g3.go e4
    have rv4 : rowsV H4 (.ref l) (some (sts.map some)) := ⟨l, xs, rfl, e4 _ _ hl, Paired.mapP (rows_of hx) fun _ _ y => y.go e4, by rw [List.length_map]; omega, hok'⟩
    refine ⟨p, c, .int wd, .int m, .ref l, _, d, rfl, g4.h, plain_int, plain_int, rv4, (fun z => nl (V.ref.inj z)), (fun z => nomatch z), (fun z => nomatch z), hwd, ?_⟩
    cases d with
    | some iz =>
      obtain ⟨dq, rfl, hdq⟩ := hdv
      intro q H5 f5 h5 hq
      have dn : dq ≠ p := fun z => by obtain ⟨ys, hy⟩ := hand_lst g4.h; rw [z, hy] at hdq; cases hdq
      have g5 := g4.draw f5 h5
      exact iteT (eq_same (due_dp hq) (due_dp (f5 _ _ dn hdq)) (due_sh (wd_str hwd)) (k H5 g5.fr g5.h))
    | none =>
      obtain rfl := hdv
      intro x H5 wd_ m_ sts_ ew em es f5 h5 hW nx
      obtain rfl : wd = wd_ := by injection ew with e; exact_mod_cast e
      obtain rfl : m = m_ := by injection em with e; exact_mod_cast e
      obtain rfl := map_some_inj (Option.some.inj es)
      obtain ⟨_, _, sts', e1, e2, e3, w1, w2, m6, s1, s2, hok2, hfit, other⟩ := wd_none hwd (fun l e => by cases e; exact hok')
      obtain rfl := map_some_inj (Option.some.inj e3)
      injection e1 with e1
      injection e2 with e2
      obtain rfl : wd = _ := by exact_mod_cast e1
      obtain rfl : m = _ := by exact_mod_cast e2
      have g5 := g4.draw f5 h5
      refine iteF ?_
      have b5 : Gd p c H5 H5 := Gd.refl h5
      have hR5 : RowsS H5 l sts := (RowsS.go (Kp.ex e4) hR).gd (Gd.mk g4.h f5 h5) nl
      have g45 : Gd p c H4 H5 := Gd.mk g4.h f5 h5
      have hl5 : H5 l = some (.lst xs) := f5 _ _ nl (e4 _ _ hl)
      have hx5 : Paired (rowS H5) xs sts := Paired.mapP hx fun _ _ y => (y.go (Kp.ex e4)).tp g45.kp
      have rvX : ∀ HX, Gd p c H5 HX → rowsV HX (.ref l) (some (sts.map some)) := fun HX g => ⟨l, xs, rfl, g.fr _ _ nl hl5, Paired.mapP (rows_of hx5) fun _ _ y => y.tp g.kp, by rw [List.length_map]; omega, hok'⟩
      have rsX : ∀ HX, Gd p c H5 HX → RowsS HX l sts := fun HX g => hR5.gd g nl
      refine ⟨x, l, wd, m, sts, rfl, hW, hR5, hok, s1, s2, fun H6 e6 => ⟨_, rfl, iteF ?_⟩⟩
      have g6 := b5.go e6
      refine ⟨p, c, x, l, wd, m, sts, rfl, g6.h, hW.nl g6.nl, rsX _ g6, nl, w1, w2, m6, hfit, s1, s2, fun H7 f7 h7 => ⟨_, rfl, iteF ?_⟩⟩
      have g7 := g6.draw f7 h7
      refine ⟨p, c, .int wd, .int m, .ref l, _, none, rfl, g7.h, plain_int, plain_int, rvX _ g7, (fun z => nl (V.ref.inj z)), (fun z => nomatch z), (fun z => nomatch z), hwd, fun x8 H8 wd_ m_ sts_ ew em es f8 h8 hW8 nx8 => ?_⟩
      obtain rfl : wd = wd_ := by injection ew with e; exact_mod_cast e
      obtain rfl : m = m_ := by injection em with e; exact_mod_cast e
      obtain rfl := map_some_inj (Option.some.inj es)
      have g8 := g7.draw f8 h8
      have g78 : Gd p c H7 H8 := Gd.mk g7.h f8 h8
      obtain ⟨wo, ho⟩ : ∃ wo : Nat, wo = 13 - wd := ⟨_, rfl⟩
      rw [show (13 : Int) - (wd : Int) = (wo : Int) by omega]
      refine ⟨p, c, .int wo, .int m, .ref l, _, none, rfl, g8.h, plain_int, plain_int, rvX _ g8, (fun z => nl (V.ref.inj z)), (fun z => nomatch z), (fun z => nomatch z), other wo (by omega) (by omega), fun x9 H9 wd_ m_ sts_ ew em es f9 h9 hW9 nx9 => ?_⟩
      obtain rfl : wo = wd_ := by injection ew with e; exact_mod_cast e
      obtain rfl : m = m_ := by injection em with e; exact_mod_cast e
      obtain rfl := map_some_inj (Option.some.inj es)
      have g9 := g8.draw f9 h9
      have g89 : Gd p c H8 H9 := Gd.mk g8.h f9 h9
      have hWa := hW.nl g9.nl
      have hWb := hW8.nl g89.nl
      have ins : ∀ {HX : Hp} {y : Addr} {u v : Nat} {z : List Stp}, WebAt a HX y u v z → ∃ dx fs, HX y = some (.ins a.c_Web dx fs) := fun h => by
        obtain ⟨dx, _, _, _, h1, _⟩ := h
        exact ⟨_, _, h1⟩
      obtain ⟨d1, k1, i1⟩ := ins hWa
      obtain ⟨d2, k2, i2⟩ := ins hWb
      refine ⟨x, x8, d1, d2, k1, k2, rfl, rfl, i1, i2, x, x8, wd, wd, m, m, sts, sts, rfl, hWa, hWb, .inr ⟨rfl, rfl, rfl, fun HA eA => ⟨_, rfl, _, rfl, iteF ?_⟩⟩⟩
      have gA := g9.go eA
      have hWc := hWa.go eA
      have hWd := hW9.go eA
      obtain ⟨d3, k3, i3⟩ := ins hWc
      obtain ⟨d4, k4, i4⟩ := ins hWd
      refine ⟨x, x9, d3, d4, k3, k4, rfl, rfl, i3, i4, x, x9, wd, wo, m, m, sts, sts, rfl, hWc, hWd, .inl ⟨by omega, _, rfl, _, rfl, iteF ?_⟩⟩
      have hlA := gA.fr _ _ nl hl5
      refine ⟨l, rfl, xs, .inl (SqL.of hlA), tk gA.h (by omega) (by omega) fun rr HB q1 q2 fB hB => ?_⟩
      have gB := gA.draw fB hB
      obtain ⟨j, rfl⟩ : ∃ n : Nat, rr = n := ⟨rr.toNat, by omega⟩
      obtain ⟨st, hst⟩ : ∃ s, sts[j]? = some s := ⟨_, List.getElem?_eq_getElem (by omega)⟩
      obtain ⟨v, hv, rp, kp, op, rfl, t1, t2, t3⟩ := paired_of hx5 hst
      refine ixl (SqL.of (gB.fr _ _ nl hl5)) (atI_nat hv) ⟨rp, rfl, _, SqT.of (gB.kp _ _ t1), rfl, _, _, rfl, _, _, rfl, rfl, p, c, kp, op, st, rfl, gB.h, t2.tp gB.kp, t3.go gB.kp, hok _ (List.mem_of_getElem? hst), fun HC fC hC => ⟨_, rfl, iteF ?_⟩⟩
      have gC := gB.draw fC hC
      refine ⟨_, rfl, by decide, by decide, for_range (lo := 0) (n := (3 : Int).toNat) (ivCa H5 p c wd m l x x8 x9 kp op) ⟨_, _, _, _, _, _, rfl, gC⟩ ?_ ?_⟩
      · rintro i σ HX hi ⟨v4, v10, v11, v12, v13, v14, rfl, gX⟩
        walk_at "sm"
        refine ⟨p, c, l, sts, rfl, gX.h, rsX _ gX, nl, hok, s1, s2, fun sv els HY fY hY hsv nsv => ?_⟩
        have gY := gX.draw fY hY
        refine ⟨mdCw H5 p c wd m l x x8 x9 kp op sv els, ?_, ?_⟩
        · walk_at "sm"
          refine tk gY.h (by decide) (by decide) fun r1 HZ _ _ fZ hZ => ⟨rfl, ?_⟩
          have gYZ : Gd p c HY HZ := Gd.mk gY.h fZ hZ
          have gZ := gY.draw fZ hZ
          refine ite2 (fun _ => ⟨sz (by decide), fun M hM => ?_⟩) fun _ => ⟨_, _, _, _, _, rfl, gZ, .inr (.inr (.inl ⟨_, rfl⟩)), hsv.gd gYZ nsv⟩
          have gM := gYZ.new (o := .lst [.int 0, .int 13, .int (-1), .bl true, .non]) hM
          refine ⟨p, c, M, _, rfl, gM.h, upd_same, (by show 1 ≤ 5; omega), (by show 5 ≤ 1000; omega), (gM.ne (gYZ.fresh hM)).1, fun y HW hy fW hW => ?_⟩
          have gW := gM.draw fW hW
          refine ⟨_, _, _, _, y, rfl, Gd.mk gY.h0 (gY.fr.trans gW.fr) gW.h, ?_, hsv.gd gW nsv⟩
          simp only [List.mem_cons, List.not_mem_nil, or_false] at hy
          rcases hy with rfl | rfl | rfl | rfl | rfl
          · exact .inr (.inr (.inl ⟨_, rfl⟩))
          · exact .inr (.inr (.inl ⟨_, rfl⟩))
          · exact .inr (.inr (.inl ⟨_, rfl⟩))
          · exact .inr (.inl ⟨_, rfl⟩)
          · exact .inl rfl
        · rintro σ HY2 ⟨v4, v10, v13, v14, wv, rfl, gY, hwv, hsv⟩
          refine ⟨mdCg H5 p c wd m l x x8 x9 kp op sv wv els, ?_, ?_⟩
          · walk_at "sm"
            refine tk gY.h (by decide) (by decide) fun r1 HZ _ _ fZ hZ => ⟨rfl, ?_⟩
            have gYZ : Gd p c HY2 HZ := Gd.mk gY.h fZ hZ
            have gZ := gY.draw fZ hZ
            refine ite2 (fun _ => ⟨sz (by decide), fun M hM => ?_⟩) fun _ => ⟨_, _, _, _, rfl, gZ, .inr (.inr (.inl ⟨_, rfl⟩)), hsv.gd gYZ nsv⟩
            have gM := gYZ.new (o := .lst [.int (-1), .int 7, .bl true, .non, .str "1", .int 0, .int 1]) hM
            refine ⟨p, c, M, _, rfl, gM.h, upd_same, (by show 1 ≤ 7; omega), (by show 7 ≤ 1000; omega), (gM.ne (gYZ.fresh hM)).1, fun y HW hy fW hW => ?_⟩
            have gW := gM.draw fW hW
            refine ⟨_, _, _, y, rfl, Gd.mk gY.h0 (gY.fr.trans gW.fr) gW.h, ?_, hsv.gd gW nsv⟩
            simp only [List.mem_cons, List.not_mem_nil, or_false] at hy
            rcases hy with rfl | rfl | rfl | rfl | rfl | rfl | rfl
            · exact .inr (.inr (.inl ⟨_, rfl⟩))
            · exact .inr (.inr (.inl ⟨_, rfl⟩))
            · exact .inr (.inl ⟨_, rfl⟩)
            · exact .inl rfl
            · exact .inr (.inr (.inr ⟨_, rfl⟩))
            · exact .inr (.inr (.inl ⟨_, rfl⟩))
            · exact .inr (.inr (.inl ⟨_, rfl⟩))
          · rintro σ HY3 ⟨v4, v10, v14, gv, rfl, gY, hgv, hsv⟩
            walk_at "sm"
            refine ⟨wv, gv, sv, els, rfl, hwv.plain _, hgv.plain _, hsv, fun d dv HZ eZ hwd2 hdv => ?_⟩
            have gZ := gY.go eZ
            have hsvZ := hsv.gd (Gd.mk gY.h (Fr.of eZ) gZ.h) nsv
            walk_at "sm"
            refine ⟨p, c, wv, gv, sv, els, d, rfl, gZ.h, hwv.plain _, hgv.plain _, hsvZ, nsv, hwv.ne p, hgv.ne p, hwd2, ?_⟩
            cases d with
            | some iz =>
              obtain ⟨dq, rfl, hdq⟩ := hdv
              intro q HW fW hW2 hq
              walk_at "sm"
              have dn : dq ≠ p := fun z => by obtain ⟨ys, hy⟩ := hand_lst gZ.h; rw [z, hy] at hdq; cases hdq
              exact iteT' (by simp) (ne_same (due_dp hq) (due_dp (fW _ _ dn hdq)) (due_sh (wd_str hwd2)) ⟨_, rfl, iteF ⟨_, _, _, _, _, _, rfl, gZ.draw fW hW2⟩⟩)
            | none =>
              obtain rfl := hdv
              intro y HW wd2 m2 sts2 ew em es fW hW2 hWy ny
              walk_at "sm"
              subst ew em es
              obtain ⟨sq, ys, rfl, hq, hp, hlen, oks⟩ := hsvZ
              obtain ⟨_, _, sts3, _, _, e3, _, _, _, t1, t2, oks3, _, _⟩ := wd_none hwd2 (fun l e => by cases e; exact oks)
              obtain rfl := map_some_inj (Option.some.inj e3)
              have gW := gZ.draw fW hW2
              have rW : RowsS HW sq sts2 := (rows_some hq hp).gd (Gd.mk gZ.h fW hW2) (fun z => nsv (by rw [z]))
              refine ⟨y, sq, wd2, m2, sts2, rfl, hWy, rW, oks3, t1, t2, fun HV eV => ⟨_, rfl, iteF (iteF' (by simp) ⟨_, _, _, _, _, _, rfl, gW.go eV⟩)⟩⟩
      · rintro σ HX ⟨v4, v10, v11, v12, v13, v14, rfl, gX⟩
        walk_at "sm"
        refine ⟨x, l, wd, m, sts, rfl, hW.nl gX.nl, rsX _ gX, hok, s1, s2, fun HE eE => k HE ?_ ?_⟩
        · exact g5.fr.trans (gX.go eE).fr
        · exact (gX.go eE).h
end


/-! ### the law -/
section
variable {P : Program} {w : World} {K : PySem.W.Frag} {mg : Str → Option Value} {base : Heap} {a : Ad}
def spLaw (K : PySem.W.Frag) : Sp := fun vs H Q _ => ∃ (s : Addr) (ns : List Int), vs = [.ref s] ∧ SqL K H s (ns.map V.int) ∧ ns.length ≤ 63 ∧ ∀ H', Q (.bl true) H'
def ivLaw (s p c : Addr) : Nat → L2.St → Hp → Prop := fun _ σ H' => ∃ v2, σ = [some (.ref s), some (.ref p), v2] ∧ HandAt H' p c
theorem ok_law (T : Txt K mg a) (D : Txo w K a) (I : Txi K a) (Y : Txv K mg a) : FnOk P w K mg base CX0 13 a.f_law a.d_law ["_law_script"] (spLaw K) := by
  refine T.F_law.ok sc_law (fun vs H Q E h => ?_) (fun cdv A outer s H vs Q E hr h => ?_)
  · obtain ⟨_, _, rfl, _⟩ := h
    rfl
  · obtain ⟨q, ns, rfl, hq, hl, k⟩ := h
    refine ⟨_, (pss_cons (ps_set (i := 1) sc_law.nd rfl (by first | exact Or.inl rfl | exact Or.inr rfl) (pe_call (ok_law_hand T) (hr.mono (by decide)) rfl T.m_law_hand T.F_law_hand.kp T.b_law_hand .nil pass0 (pa_cons (pv 0) pa_nil)))
  (pss_cons (ps_for PassesOwn.never rfl (pi_range1 (by rfl) T.z_range (pa_cons pe_int pa_nil)) (pg_name (i := 2) sc_law.nd rfl (by first | exact Or.inl rfl | exact Or.inr rfl)) (pss_one (ps_if (pt_not (pt_val (pe_call (ok_law_case T D I Y) (hr.mono (by decide)) rfl T.m_law_case T.F_law_case.kp T.b_law_case .nil pass0 (pa_cons (pv 1) pa_nil)))) (pss_one (ps_ret pe_bl))
    pss_nil)))
  (pss_one (ps_ret pe_bl)))), ?_⟩
    walk_at "sm"
    refine ⟨q, ns, rfl, hq, hl, fun p c H1 _ e1 h1 => ?_⟩
    walk_at "sm"
    refine ⟨_, rfl, by decide, by decide, for_range (lo := 0) (n := (3 : Int).toNat) (ivLaw q p c) ⟨_, rfl, h1⟩ ?_ ?_⟩
    · rintro i σ HX hi ⟨v2, rfl, hX⟩
      walk_at "sm"
      exact ⟨p, c, rfl, hX, fun HY f hY => ⟨_, rfl, iteF ⟨_, rfl, hY⟩⟩⟩
    · rintro σ HX ⟨v2, rfl, hX⟩
      walk_at "sm"
      exact k _
end


theorem exm_self {K : PySem.W.Frag} {S : Addr} (h1 : PySem.W.subIn K (.ref S) (.type "BaseException") = some true) (h2 : PySem.W.isClsIn K S = true) (h3 : PySem.W.typeIn K (.ref S) = some (.type "type")) (h4 : PySem.W.subIn K (.ref S) (.ref S) = some true) :
    PySem.W.exmOne K (.ref S) (.ref S) = some true := by
  have e1 : (PySem.W.subIn K (.ref S) (.type "BaseException") == some true) = true := by rw [h1] <;> rfl
  have e2 : ((PySem.W.clsIn K S).isSome && PySem.W.typeIn K (.ref S) == some (.type "type")) = true := by
    have h5 : (PySem.W.clsIn K S).isSome = true := h2
    rw [h5, h3] <;> rfl
  unfold PySem.W.exmOne
  rw [if_pos e1]
  show (if ((PySem.W.clsIn K S).isSome && PySem.W.typeIn K (.ref S) == some (.type "type")) = true then PySem.W.subIn K (.ref S) (.ref S) else none) = some true
  rw [if_pos e2]
  exact h4
/-- the items of a constant tuple, held against what they should be -/
def valB : V → Value → Bool
  | .int i, .int j _ => decide (i = j)
  | .str x, .str y _ => decide (x = y)
  | _, _ => false
theorem valB_ok : ∀ {x : V} {u : Value}, valB x u = true → RelV x u := by
  intro x u h
  unfold valB at h
  split at h
  · exact ⟨_, by rw [of_decide_eq_true h]⟩
  · exact ⟨_, by rw [of_decide_eq_true h]⟩
  · cases h
def valsB : List V → List Value → Bool
  | [], [] => true
  | x :: xs, u :: us => valB x u && valsB xs us
  | _, _ => false
theorem valsB_ok : ∀ {xs : List V} {us : List Value}, valsB xs us = true → Vals xs us
  | [], [], _ => .nil
  | [], _ :: _, h => by cases h
  | _ :: _, [], h => by cases h
  | x :: xs, u :: us, h => by
    have h' : (valB x u && valsB xs us) = true := h
    rw [Bool.and_eq_true] at h'
    exact .cons (valB_ok h'.1) (valsB_ok h'.2)
theorem sqT_mk {K : PySem.W.Frag} {H : Hp} {p : Addr} {d : Option Addr} {its : Array Value} {n : Nat} {sl : Array (Option Value)} {xs : List V} (l : K.lookup p = some ⟨.type "tuple", d, .seq its n, sl⟩) (v : valsB xs its.toList = true) (z : decide (its.size ≤ 1000) = true) : SqT K H p xs :=
  .inr ⟨_, its, n, l, rfl, rfl, Nat.le_trans (of_decide_eq_true z) (by decide), valsB_ok v⟩

theorem all_mk {P : Program} {w : World} {K : PySem.W.Frag} {h : Heap} {mg : Str → Option Value} {fa : Addr} (X : K.In h) (G : h.Ns mainGlobals mg) (hfa : mg "law" = some (.ref fa))
    {v_is_whole : Addr} {oc_is_whole kV_is_whole dc_is_whole pm_is_whole cd_is_whole ct_is_whole : Value} {od_is_whole an_is_whole : Option Addr} {sl_is_whole : Array (Option Value)}
    {v_is_within : Addr} {oc_is_within kV_is_within dc_is_within pm_is_within cd_is_within ct_is_within : Value} {od_is_within an_is_within : Option Addr} {sl_is_within : Array (Option Value)}
    {v_is_sequence : Addr} {oc_is_sequence kV_is_sequence dc_is_sequence pm_is_sequence cd_is_sequence ct_is_sequence : Value} {od_is_sequence an_is_sequence : Option Addr} {sl_is_sequence : Array (Option Value)}
    {v_mask_of : Addr} {oc_mask_of kV_mask_of dc_mask_of pm_mask_of cd_mask_of ct_mask_of : Value} {od_mask_of an_mask_of : Option Addr} {sl_mask_of : Array (Option Value)}
    {v_check_inputs : Addr} {oc_check_inputs kV_check_inputs dc_check_inputs pm_check_inputs cd_check_inputs ct_check_inputs : Value} {od_check_inputs an_check_inputs : Option Addr} {sl_check_inputs : Array (Option Value)}
    {v_is_number : Addr} {oc_is_number kV_is_number dc_is_number pm_is_number cd_is_number ct_is_number : Value} {od_is_number an_is_number : Option Addr} {sl_is_number : Array (Option Value)}
    {v_is_table : Addr} {oc_is_table kV_is_table dc_is_table pm_is_table cd_is_table ct_is_table : Value} {od_is_table an_is_table : Option Addr} {sl_is_table : Array (Option Value)}
    {v_check_kind : Addr} {oc_check_kind kV_check_kind dc_check_kind pm_check_kind cd_check_kind ct_check_kind : Value} {od_check_kind an_check_kind : Option Addr} {sl_check_kind : Array (Option Value)}
    {v_operand_count : Addr} {oc_operand_count kV_operand_count dc_operand_count pm_operand_count cd_operand_count ct_operand_count : Value} {od_operand_count an_operand_count : Option Addr} {sl_operand_count : Array (Option Value)}
    {v_step_word : Addr} {oc_step_word kV_step_word dc_step_word pm_step_word cd_step_word ct_step_word : Value} {od_step_word an_step_word : Option Addr} {sl_step_word : Array (Option Value)}
    {v_pair_word : Addr} {oc_pair_word kV_pair_word dc_pair_word pm_pair_word cd_pair_word ct_pair_word : Value} {od_pair_word an_pair_word : Option Addr} {sl_pair_word : Array (Option Value)}
    {v_single_word : Addr} {oc_single_word kV_single_word dc_single_word pm_single_word cd_single_word ct_single_word : Value} {od_single_word an_single_word : Option Addr} {sl_single_word : Array (Option Value)}
    {v_is_operand : Addr} {oc_is_operand kV_is_operand dc_is_operand pm_is_operand cd_is_operand ct_is_operand : Value} {od_is_operand an_is_operand : Option Addr} {sl_is_operand : Array (Option Value)}
    {v_checked_kind : Addr} {oc_checked_kind kV_checked_kind dc_checked_kind pm_checked_kind cd_checked_kind ct_checked_kind : Value} {od_checked_kind an_checked_kind : Option Addr} {sl_checked_kind : Array (Option Value)}
    {v_checked_operands : Addr} {oc_checked_operands kV_checked_operands dc_checked_operands pm_checked_operands cd_checked_operands ct_checked_operands : Value} {od_checked_operands an_checked_operands : Option Addr} {sl_checked_operands : Array (Option Value)}
    {v_is_place : Addr} {oc_is_place kV_is_place dc_is_place pm_is_place cd_is_place ct_is_place : Value} {od_is_place an_is_place : Option Addr} {sl_is_place : Array (Option Value)}
    {v_is_before_list : Addr} {oc_is_before_list kV_is_before_list dc_is_before_list pm_is_before_list cd_is_before_list ct_is_before_list : Value} {od_is_before_list an_is_before_list : Option Addr} {sl_is_before_list : Array (Option Value)}
    {v_checked_befores : Addr} {oc_checked_befores kV_checked_befores dc_checked_befores pm_checked_befores cd_checked_befores ct_checked_befores : Value} {od_checked_befores an_checked_befores : Option Addr} {sl_checked_befores : Array (Option Value)}
    {v_afters_of : Addr} {oc_afters_of kV_afters_of dc_afters_of pm_afters_of cd_afters_of ct_afters_of : Value} {od_afters_of an_afters_of : Option Addr} {sl_afters_of : Array (Option Value)}
    {v_ordered_of : Addr} {oc_ordered_of kV_ordered_of dc_ordered_of pm_ordered_of cd_ordered_of ct_ordered_of : Value} {od_ordered_of an_ordered_of : Option Addr} {sl_ordered_of : Array (Option Value)}
    {v_reached_along T_reached_along : Addr} {oc_reached_along kV_reached_along dc_reached_along pm_reached_along cd_reached_along ct_reached_along : Value} {od_reached_along an_reached_along e_reached_along : Option Addr} {sl_reached_along r_reached_along : Array (Option Value)} {j_reached_along : Array Value} {n_reached_along : Nat}
    {v_check_rings : Addr} {oc_check_rings kV_check_rings dc_check_rings pm_check_rings cd_check_rings ct_check_rings : Value} {od_check_rings an_check_rings : Option Addr} {sl_check_rings : Array (Option Value)}
    {v_check_roads : Addr} {oc_check_roads kV_check_roads dc_check_roads pm_check_roads cd_check_roads ct_check_roads : Value} {od_check_roads an_check_roads : Option Addr} {sl_check_roads : Array (Option Value)}
    {v_check_shape : Addr} {oc_check_shape kV_check_shape dc_check_shape pm_check_shape cd_check_shape ct_check_shape : Value} {od_check_shape an_check_shape : Option Addr} {sl_check_shape : Array (Option Value)}
    {v_check_steps : Addr} {oc_check_steps kV_check_steps dc_check_steps pm_check_steps cd_check_steps ct_check_steps : Value} {od_check_steps an_check_steps : Option Addr} {sl_check_steps : Array (Option Value)}
    {v_check_idle : Addr} {oc_check_idle kV_check_idle dc_check_idle pm_check_idle cd_check_idle ct_check_idle : Value} {od_check_idle an_check_idle : Option Addr} {sl_check_idle : Array (Option Value)}
    {v_operand_word : Addr} {oc_operand_word kV_operand_word dc_operand_word pm_operand_word cd_operand_word ct_operand_word : Value} {od_operand_word an_operand_word : Option Addr} {sl_operand_word : Array (Option Value)}
    {v_word_over : Addr} {oc_word_over kV_word_over dc_word_over pm_word_over cd_word_over ct_word_over : Value} {od_word_over an_word_over : Option Addr} {sl_word_over : Array (Option Value)}
    {v_web_worths : Addr} {oc_web_worths kV_web_worths dc_web_worths pm_web_worths cd_web_worths ct_web_worths : Value} {od_web_worths an_web_worths : Option Addr} {sl_web_worths : Array (Option Value)}
    {v_web_worth : Addr} {oc_web_worth kV_web_worth dc_web_worth pm_web_worth cd_web_worth ct_web_worth : Value} {od_web_worth an_web_worth : Option Addr} {sl_web_worth : Array (Option Value)}
    {v_law_hand : Addr} {oc_law_hand kV_law_hand dc_law_hand pm_law_hand cd_law_hand ct_law_hand : Value} {od_law_hand an_law_hand : Option Addr} {sl_law_hand : Array (Option Value)}
    {v_law_mixed : Addr} {oc_law_mixed kV_law_mixed dc_law_mixed pm_law_mixed cd_law_mixed ct_law_mixed : Value} {od_law_mixed an_law_mixed : Option Addr} {sl_law_mixed : Array (Option Value)}
    {v_law_take : Addr} {oc_law_take kV_law_take dc_law_take pm_law_take cd_law_take ct_law_take : Value} {od_law_take an_law_take : Option Addr} {sl_law_take : Array (Option Value)}
    {v_law_whole : Addr} {oc_law_whole kV_law_whole dc_law_whole pm_law_whole cd_law_whole ct_law_whole : Value} {od_law_whole an_law_whole : Option Addr} {sl_law_whole : Array (Option Value)}
    {v_law_two : Addr} {oc_law_two kV_law_two dc_law_two pm_law_two cd_law_two ct_law_two : Value} {od_law_two an_law_two : Option Addr} {sl_law_two : Array (Option Value)}
    {v_law_kind : Addr} {oc_law_kind kV_law_kind dc_law_kind pm_law_kind cd_law_kind ct_law_kind : Value} {od_law_kind an_law_kind : Option Addr} {sl_law_kind : Array (Option Value)}
    {v_law_operands : Addr} {oc_law_operands kV_law_operands dc_law_operands pm_law_operands cd_law_operands ct_law_operands : Value} {od_law_operands an_law_operands : Option Addr} {sl_law_operands : Array (Option Value)}
    {v_law_bits : Addr} {oc_law_bits kV_law_bits dc_law_bits pm_law_bits cd_law_bits ct_law_bits : Value} {od_law_bits an_law_bits : Option Addr} {sl_law_bits : Array (Option Value)}
    {v_law_step_word : Addr} {oc_law_step_word kV_law_step_word dc_law_step_word pm_law_step_word cd_law_step_word ct_law_step_word : Value} {od_law_step_word an_law_step_word : Option Addr} {sl_law_step_word : Array (Option Value)}
    {v_law_under : Addr} {oc_law_under kV_law_under dc_law_under pm_law_under cd_law_under ct_law_under : Value} {od_law_under an_law_under : Option Addr} {sl_law_under : Array (Option Value)}
    {v_law_operand : Addr} {oc_law_operand kV_law_operand dc_law_operand pm_law_operand cd_law_operand ct_law_operand : Value} {od_law_operand an_law_operand : Option Addr} {sl_law_operand : Array (Option Value)}
    {v_law_web_words : Addr} {oc_law_web_words kV_law_web_words dc_law_web_words pm_law_web_words cd_law_web_words ct_law_web_words : Value} {od_law_web_words an_law_web_words : Option Addr} {sl_law_web_words : Array (Option Value)}
    {v_law_web_befores : Addr} {oc_law_web_befores kV_law_web_befores dc_law_web_befores pm_law_web_befores cd_law_web_befores ct_law_web_befores : Value} {od_law_web_befores an_law_web_befores : Option Addr} {sl_law_web_befores : Array (Option Value)}
    {v_law_words : Addr} {oc_law_words kV_law_words dc_law_words pm_law_words cd_law_words ct_law_words : Value} {od_law_words an_law_words : Option Addr} {sl_law_words : Array (Option Value)}
    {v_law_either : Addr} {oc_law_either kV_law_either dc_law_either pm_law_either cd_law_either ct_law_either : Value} {od_law_either an_law_either : Option Addr} {sl_law_either : Array (Option Value)}
    {v_law_pick : Addr} {oc_law_pick kV_law_pick dc_law_pick pm_law_pick cd_law_pick ct_law_pick : Value} {od_law_pick an_law_pick : Option Addr} {sl_law_pick : Array (Option Value)}
    {v_law_tuples : Addr} {oc_law_tuples kV_law_tuples dc_law_tuples pm_law_tuples cd_law_tuples ct_law_tuples : Value} {od_law_tuples an_law_tuples : Option Addr} {sl_law_tuples : Array (Option Value)}
    {v_law_full_web : Addr} {oc_law_full_web kV_law_full_web dc_law_full_web pm_law_full_web cd_law_full_web ct_law_full_web : Value} {od_law_full_web an_law_full_web : Option Addr} {sl_law_full_web : Array (Option Value)}
    {v_law_alive : Addr} {oc_law_alive kV_law_alive dc_law_alive pm_law_alive cd_law_alive ct_law_alive : Value} {od_law_alive an_law_alive : Option Addr} {sl_law_alive : Array (Option Value)}
    {v_law_chain_steps : Addr} {oc_law_chain_steps kV_law_chain_steps dc_law_chain_steps pm_law_chain_steps cd_law_chain_steps ct_law_chain_steps : Value} {od_law_chain_steps an_law_chain_steps : Option Addr} {sl_law_chain_steps : Array (Option Value)}
    {v_law_drawn_steps : Addr} {oc_law_drawn_steps kV_law_drawn_steps dc_law_drawn_steps pm_law_drawn_steps cd_law_drawn_steps ct_law_drawn_steps : Value} {od_law_drawn_steps an_law_drawn_steps : Option Addr} {sl_law_drawn_steps : Array (Option Value)}
    {v_law_step_right : Addr} {oc_law_step_right kV_law_step_right dc_law_step_right pm_law_step_right cd_law_step_right ct_law_step_right : Value} {od_law_step_right an_law_step_right : Option Addr} {sl_law_step_right : Array (Option Value)}
    {v_law_step_refused : Addr} {oc_law_step_refused kV_law_step_refused dc_law_step_refused pm_law_step_refused cd_law_step_refused ct_law_step_refused : Value} {od_law_step_refused an_law_step_refused : Option Addr} {sl_law_step_refused : Array (Option Value)}
    {v_law_odd_kind : Addr} {oc_law_odd_kind kV_law_odd_kind dc_law_odd_kind pm_law_odd_kind cd_law_odd_kind ct_law_odd_kind : Value} {od_law_odd_kind an_law_odd_kind : Option Addr} {sl_law_odd_kind : Array (Option Value)}
    {v_law_odd_operand : Addr} {oc_law_odd_operand kV_law_odd_operand dc_law_odd_operand pm_law_odd_operand cd_law_odd_operand ct_law_odd_operand : Value} {od_law_odd_operand an_law_odd_operand : Option Addr} {sl_law_odd_operand : Array (Option Value)}
    {v_law_odd_steps : Addr} {oc_law_odd_steps kV_law_odd_steps dc_law_odd_steps pm_law_odd_steps cd_law_odd_steps ct_law_odd_steps : Value} {od_law_odd_steps an_law_odd_steps : Option Addr} {sl_law_odd_steps : Array (Option Value)}
    {v_law_web_due : Addr} {oc_law_web_due kV_law_web_due dc_law_web_due pm_law_web_due cd_law_web_due ct_law_web_due : Value} {od_law_web_due an_law_web_due : Option Addr} {sl_law_web_due : Array (Option Value)}
    {v_law_spoilt_rows : Addr} {oc_law_spoilt_rows kV_law_spoilt_rows dc_law_spoilt_rows pm_law_spoilt_rows cd_law_spoilt_rows ct_law_spoilt_rows : Value} {od_law_spoilt_rows an_law_spoilt_rows : Option Addr} {sl_law_spoilt_rows : Array (Option Value)}
    {v_law_web_told : Addr} {oc_law_web_told kV_law_web_told dc_law_web_told pm_law_web_told cd_law_web_told ct_law_web_told : Value} {od_law_web_told an_law_web_told : Option Addr} {sl_law_web_told : Array (Option Value)}
    {v_law_web_right : Addr} {oc_law_web_right kV_law_web_right dc_law_web_right pm_law_web_right cd_law_web_right ct_law_web_right : Value} {od_law_web_right an_law_web_right : Option Addr} {sl_law_web_right : Array (Option Value)}
    {v_law_inputs_told : Addr} {oc_law_inputs_told kV_law_inputs_told dc_law_inputs_told pm_law_inputs_told cd_law_inputs_told ct_law_inputs_told : Value} {od_law_inputs_told an_law_inputs_told : Option Addr} {sl_law_inputs_told : Array (Option Value)}
    {v_law_inputs_right : Addr} {oc_law_inputs_right kV_law_inputs_right dc_law_inputs_right pm_law_inputs_right cd_law_inputs_right ct_law_inputs_right : Value} {od_law_inputs_right an_law_inputs_right : Option Addr} {sl_law_inputs_right : Array (Option Value)}
    {v_law_case : Addr} {oc_law_case kV_law_case dc_law_case pm_law_case cd_law_case ct_law_case : Value} {od_law_case an_law_case : Option Addr} {sl_law_case : Array (Option Value)}
    {v_law : Addr} {oc_law kV_law dc_law pm_law cd_law ct_law : Value} {od_law an_law : Option Addr} {sl_law : Array (Option Value)}
    {v_BadInputs___init__ : Addr} {oc_BadInputs___init__ kV_BadInputs___init__ dc_BadInputs___init__ pm_BadInputs___init__ cd_BadInputs___init__ ct_BadInputs___init__ : Value} {od_BadInputs___init__ an_BadInputs___init__ : Option Addr} {sl_BadInputs___init__ : Array (Option Value)}
    {v_BadWeb___init__ : Addr} {oc_BadWeb___init__ kV_BadWeb___init__ dc_BadWeb___init__ pm_BadWeb___init__ cd_BadWeb___init__ ct_BadWeb___init__ : Value} {od_BadWeb___init__ an_BadWeb___init__ : Option Addr} {sl_BadWeb___init__ : Array (Option Value)}
    {v_BadBare___init__ : Addr} {oc_BadBare___init__ kV_BadBare___init__ dc_BadBare___init__ pm_BadBare___init__ cd_BadBare___init__ ct_BadBare___init__ : Value} {od_BadBare___init__ an_BadBare___init__ : Option Addr} {sl_BadBare___init__ : Array (Option Value)}
    {v_Step___init__ : Addr} {oc_Step___init__ kV_Step___init__ dc_Step___init__ pm_Step___init__ cd_Step___init__ ct_Step___init__ : Value} {od_Step___init__ an_Step___init__ : Option Addr} {sl_Step___init__ : Array (Option Value)}
    {v_Step___eq__ : Addr} {oc_Step___eq__ kV_Step___eq__ dc_Step___eq__ pm_Step___eq__ cd_Step___eq__ ct_Step___eq__ : Value} {od_Step___eq__ an_Step___eq__ : Option Addr} {sl_Step___eq__ : Array (Option Value)}
    {v_Bare___init__ : Addr} {oc_Bare___init__ kV_Bare___init__ dc_Bare___init__ pm_Bare___init__ cd_Bare___init__ ct_Bare___init__ : Value} {od_Bare___init__ an_Bare___init__ : Option Addr} {sl_Bare___init__ : Array (Option Value)}
    {v_Bare___len__ : Addr} {oc_Bare___len__ kV_Bare___len__ dc_Bare___len__ pm_Bare___len__ cd_Bare___len__ ct_Bare___len__ : Value} {od_Bare___len__ an_Bare___len__ : Option Addr} {sl_Bare___len__ : Array (Option Value)}
    {v_Bare___eq__ : Addr} {oc_Bare___eq__ kV_Bare___eq__ dc_Bare___eq__ pm_Bare___eq__ cd_Bare___eq__ ct_Bare___eq__ : Value} {od_Bare___eq__ an_Bare___eq__ : Option Addr} {sl_Bare___eq__ : Array (Option Value)}
    {v_Web___init__ : Addr} {oc_Web___init__ kV_Web___init__ dc_Web___init__ pm_Web___init__ cd_Web___init__ ct_Web___init__ : Value} {od_Web___init__ an_Web___init__ : Option Addr} {sl_Web___init__ : Array (Option Value)}
    {v_Web___len__ : Addr} {oc_Web___len__ kV_Web___len__ dc_Web___len__ pm_Web___len__ cd_Web___len__ ct_Web___len__ : Value} {od_Web___len__ an_Web___len__ : Option Addr} {sl_Web___len__ : Array (Option Value)}
    {v_Web___iter__ : Addr} {oc_Web___iter__ kV_Web___iter__ dc_Web___iter__ pm_Web___iter__ cd_Web___iter__ ct_Web___iter__ : Value} {od_Web___iter__ an_Web___iter__ : Option Addr} {sl_Web___iter__ : Array (Option Value)}
    {v_Web___eq__ : Addr} {oc_Web___eq__ kV_Web___eq__ dc_Web___eq__ pm_Web___eq__ cd_Web___eq__ ct_Web___eq__ : Value} {od_Web___eq__ an_Web___eq__ : Option Addr} {sl_Web___eq__ : Array (Option Value)}
    {w_BadInputs N_BadInputs : Addr} {nm_BadInputs q_BadInputs : Str} {bs_BadInputs bm_BadInputs sub_BadInputs : List Value} {sn_BadInputs : List Str} {ab_BadInputs : Bool} {col_BadInputs : Option Bool} {dd_BadInputs : Option Addr} {m0_BadInputs m1_BadInputs m2_BadInputs m3_BadInputs m5_BadInputs : Option Value}
    {w_BadWeb N_BadWeb : Addr} {nm_BadWeb q_BadWeb : Str} {bs_BadWeb bm_BadWeb sub_BadWeb : List Value} {sn_BadWeb : List Str} {ab_BadWeb : Bool} {col_BadWeb : Option Bool} {dd_BadWeb : Option Addr} {m0_BadWeb m1_BadWeb m2_BadWeb m3_BadWeb m5_BadWeb : Option Value}
    {w_BadBare N_BadBare : Addr} {nm_BadBare q_BadBare : Str} {bs_BadBare bm_BadBare sub_BadBare : List Value} {sn_BadBare : List Str} {ab_BadBare : Bool} {col_BadBare : Option Bool} {dd_BadBare : Option Addr} {m0_BadBare m1_BadBare m2_BadBare m3_BadBare m5_BadBare : Option Value}
    {w_BadKind : Addr}
    {w_BadStep : Addr}
    {w_Step : Addr}
    {w_Bare : Addr}
    {w_Web : Addr}
    {t_MOST_WIDTH : Tok}
    {t_MOST_NUMBER : Tok}
    {p_TABLE_SIZES : Addr}
    {d_TABLE_SIZES : Option Addr} {i_TABLE_SIZES : Array Value} {n_TABLE_SIZES : Nat} {s_TABLE_SIZES : Array (Option Value)}
    {p_PAIR_SIGNS : Addr}
    {d_PAIR_SIGNS : Option Addr} {i_PAIR_SIGNS : Array Value} {n_PAIR_SIGNS : Nat} {s_PAIR_SIGNS : Array (Option Value)}
    {p_SHIFT_SIGNS : Addr}
    {d_SHIFT_SIGNS : Option Addr} {i_SHIFT_SIGNS : Array Value} {n_SHIFT_SIGNS : Nat} {s_SHIFT_SIGNS : Array (Option Value)}
    {t_MOST_PLACES : Tok}
    {t_MOST_GIVEN : Tok}
    {p_OPERAND_ENDS : Addr}
    {des_OPERAND_ENDS : Array DictEntry} {dn_OPERAND_ENDS : Nat}
    {tk_0 tk_1 tk_2 : Tok}
    {u_c_UndoError : Addr}
    (hm_BadInputs : PySem.W.nsIn K mainGlobals "BadInputs" = some (some (.ref w_BadInputs)))
    (hm_BadWeb : PySem.W.nsIn K mainGlobals "BadWeb" = some (some (.ref w_BadWeb)))
    (hm_BadBare : PySem.W.nsIn K mainGlobals "BadBare" = some (some (.ref w_BadBare)))
    (hm_BadKind : PySem.W.nsIn K mainGlobals "BadKind" = some (some (.ref w_BadKind)))
    (hm_BadStep : PySem.W.nsIn K mainGlobals "BadStep" = some (some (.ref w_BadStep)))
    (hm_Step : PySem.W.nsIn K mainGlobals "Step" = some (some (.ref w_Step)))
    (hm_Bare : PySem.W.nsIn K mainGlobals "Bare" = some (some (.ref w_Bare)))
    (hm_Web : PySem.W.nsIn K mainGlobals "Web" = some (some (.ref w_Web)))
    (xl_BadInputs : K.lookup w_BadInputs = some (excClassObj nm_BadInputs q_BadInputs w_BadInputs N_BadInputs bs_BadInputs bm_BadInputs true sn_BadInputs sub_BadInputs ab_BadInputs col_BadInputs dd_BadInputs m0_BadInputs m1_BadInputs m2_BadInputs m3_BadInputs m5_BadInputs "ValueError.__new__"))
    (xv_BadInputs : PySem.HandSPX.refsVE bm_BadInputs = true)
    (xs_BadInputs : PySem.W.findIn K (.ref w_BadInputs) "__setattr__" = some (some (.builtin "object.__setattr__")))
    (xg_BadInputs : PySem.W.findIn K (.ref w_BadInputs) "__getattribute__" = some (some (.builtin "BaseException.__getattribute__")))
    (xh_BadInputs : PySem.W.findIn K (.ref w_BadInputs) "__getattr__" = some none)
    (xk_BadInputs : PySem.W.keepIn K (.ref w_BadInputs) = true)
    (xb_BadInputs : PySem.W.subIn K (.ref w_BadInputs) (.type "BaseException") = some true)
    (xy_BadInputs : PySem.W.typeIn K (.ref w_BadInputs) = some (.type "type"))
    (xd_BadInputs : PySem.W.hasDictIn K w_BadInputs = true)
    (xc_BadInputs : PySem.W.isClsIn K w_BadInputs = true)
    (xz_BadInputs : PySem.W.subIn K (.ref w_BadInputs) (.ref w_BadInputs) = some true)
    (xl_BadWeb : K.lookup w_BadWeb = some (excClassObj nm_BadWeb q_BadWeb w_BadWeb N_BadWeb bs_BadWeb bm_BadWeb true sn_BadWeb sub_BadWeb ab_BadWeb col_BadWeb dd_BadWeb m0_BadWeb m1_BadWeb m2_BadWeb m3_BadWeb m5_BadWeb "ValueError.__new__"))
    (xv_BadWeb : PySem.HandSPX.refsVE bm_BadWeb = true)
    (xs_BadWeb : PySem.W.findIn K (.ref w_BadWeb) "__setattr__" = some (some (.builtin "object.__setattr__")))
    (xg_BadWeb : PySem.W.findIn K (.ref w_BadWeb) "__getattribute__" = some (some (.builtin "BaseException.__getattribute__")))
    (xh_BadWeb : PySem.W.findIn K (.ref w_BadWeb) "__getattr__" = some none)
    (xk_BadWeb : PySem.W.keepIn K (.ref w_BadWeb) = true)
    (xb_BadWeb : PySem.W.subIn K (.ref w_BadWeb) (.type "BaseException") = some true)
    (xy_BadWeb : PySem.W.typeIn K (.ref w_BadWeb) = some (.type "type"))
    (xd_BadWeb : PySem.W.hasDictIn K w_BadWeb = true)
    (xc_BadWeb : PySem.W.isClsIn K w_BadWeb = true)
    (xz_BadWeb : PySem.W.subIn K (.ref w_BadWeb) (.ref w_BadWeb) = some true)
    (xl_BadBare : K.lookup w_BadBare = some (excClassObj nm_BadBare q_BadBare w_BadBare N_BadBare bs_BadBare bm_BadBare true sn_BadBare sub_BadBare ab_BadBare col_BadBare dd_BadBare m0_BadBare m1_BadBare m2_BadBare m3_BadBare m5_BadBare "ValueError.__new__"))
    (xv_BadBare : PySem.HandSPX.refsVE bm_BadBare = true)
    (xs_BadBare : PySem.W.findIn K (.ref w_BadBare) "__setattr__" = some (some (.builtin "object.__setattr__")))
    (xg_BadBare : PySem.W.findIn K (.ref w_BadBare) "__getattribute__" = some (some (.builtin "BaseException.__getattribute__")))
    (xh_BadBare : PySem.W.findIn K (.ref w_BadBare) "__getattr__" = some none)
    (xk_BadBare : PySem.W.keepIn K (.ref w_BadBare) = true)
    (xb_BadBare : PySem.W.subIn K (.ref w_BadBare) (.type "BaseException") = some true)
    (xy_BadBare : PySem.W.typeIn K (.ref w_BadBare) = some (.type "type"))
    (xd_BadBare : PySem.W.hasDictIn K w_BadBare = true)
    (xc_BadBare : PySem.W.isClsIn K w_BadBare = true)
    (xz_BadBare : PySem.W.subIn K (.ref w_BadBare) (.ref w_BadBare) = some true)
    (xq_BadKind : PySem.W.excIn K w_BadKind [.type "ValueError", .type "Exception", .type "BaseException", .type "object"] "ValueError.__new__" = true)
    (xk_BadKind : PySem.W.keepIn K (.ref w_BadKind) = true)
    (xb_BadKind : PySem.W.subIn K (.ref w_BadKind) (.type "BaseException") = some true)
    (xy_BadKind : PySem.W.typeIn K (.ref w_BadKind) = some (.type "type"))
    (xc_BadKind : PySem.W.isClsIn K w_BadKind = true)
    (xz_BadKind : PySem.W.subIn K (.ref w_BadKind) (.ref w_BadKind) = some true)
    (xq_BadStep : PySem.W.excIn K w_BadStep [.type "ValueError", .type "Exception", .type "BaseException", .type "object"] "ValueError.__new__" = true)
    (xk_BadStep : PySem.W.keepIn K (.ref w_BadStep) = true)
    (xb_BadStep : PySem.W.subIn K (.ref w_BadStep) (.type "BaseException") = some true)
    (xy_BadStep : PySem.W.typeIn K (.ref w_BadStep) = some (.type "type"))
    (xc_BadStep : PySem.W.isClsIn K w_BadStep = true)
    (xz_BadStep : PySem.W.subIn K (.ref w_BadStep) (.ref w_BadStep) = some true)
    (ya_Step : PySem.W.findIn K (.ref w_Step) "__init__" = some (some (.ref v_Step___init__)))
    (ya_Bare : PySem.W.findIn K (.ref w_Bare) "__init__" = some (some (.ref v_Bare___init__)))
    (ya_Web : PySem.W.findIn K (.ref w_Web) "__init__" = some (some (.ref v_Web___init__)))
    (hat_Step___eq__ : PySem.W.findIn K (.ref w_Step) "__eq__" = some (some (.ref v_Step___eq__)))
    (hat_Bare___len__ : PySem.W.findIn K (.ref w_Bare) "__len__" = some (some (.ref v_Bare___len__)))
    (hat_Bare___eq__ : PySem.W.findIn K (.ref w_Bare) "__eq__" = some (some (.ref v_Bare___eq__)))
    (hat_Web___len__ : PySem.W.findIn K (.ref w_Web) "__len__" = some (some (.ref v_Web___len__)))
    (hat_Web___iter__ : PySem.W.findIn K (.ref w_Web) "__iter__" = some (some (.ref v_Web___iter__)))
    (hat_Web___eq__ : PySem.W.findIn K (.ref w_Web) "__eq__" = some (some (.ref v_Web___eq__)))
    (hxi_BadInputs : PySem.W.findIn K (.ref w_BadInputs) "__init__" = some (some (.ref v_BadInputs___init__)))
    (hxt_BadInputs : PySem.W.typeIn K (.ref v_BadInputs___init__) = some (.type "function"))
    (hxn_BadInputs_index : PySem.W.findIn K (.ref w_BadInputs) "index" = some none)
    (hxn_BadInputs_what : PySem.W.findIn K (.ref w_BadInputs) "what" = some none)
    (hxi_BadWeb : PySem.W.findIn K (.ref w_BadWeb) "__init__" = some (some (.ref v_BadWeb___init__)))
    (hxt_BadWeb : PySem.W.typeIn K (.ref v_BadWeb___init__) = some (.type "function"))
    (hxn_BadWeb_place : PySem.W.findIn K (.ref w_BadWeb) "place" = some none)
    (hxn_BadWeb_what : PySem.W.findIn K (.ref w_BadWeb) "what" = some none)
    (hxi_BadBare : PySem.W.findIn K (.ref w_BadBare) "__init__" = some (some (.ref v_BadBare___init__)))
    (hxt_BadBare : PySem.W.typeIn K (.ref v_BadBare___init__) = some (.type "function"))
    (hxn_BadBare_place : PySem.W.findIn K (.ref w_BadBare) "place" = some none)
    (hxn_BadBare_what : PySem.W.findIn K (.ref w_BadBare) "what" = some none)
    (hm_is_whole : PySem.W.nsIn K mainGlobals "is_whole" = some (some (.ref v_is_whole)))
    (hl_is_whole : K.lookup v_is_whole = some ⟨oc_is_whole, od_is_whole, .func (PySem.W.fnOf "is_whole" "is_whole" (defArgs s_is_whole) (defBody s_is_whole) (defScope s_is_whole) .none kV_is_whole dc_is_whole pm_is_whole an_is_whole cd_is_whole ct_is_whole), sl_is_whole⟩)
    (hc_is_whole : PySem.W.codeIn K cd_is_whole "is_whole" = true)
    (hk_is_whole : PySem.W.keepIn K (.ref v_is_whole) = true)
    (hm_is_within : PySem.W.nsIn K mainGlobals "is_within" = some (some (.ref v_is_within)))
    (hl_is_within : K.lookup v_is_within = some ⟨oc_is_within, od_is_within, .func (PySem.W.fnOf "is_within" "is_within" (defArgs s_is_within) (defBody s_is_within) (defScope s_is_within) .none kV_is_within dc_is_within pm_is_within an_is_within cd_is_within ct_is_within), sl_is_within⟩)
    (hc_is_within : PySem.W.codeIn K cd_is_within "is_within" = true)
    (hk_is_within : PySem.W.keepIn K (.ref v_is_within) = true)
    (hm_is_sequence : PySem.W.nsIn K mainGlobals "is_sequence" = some (some (.ref v_is_sequence)))
    (hl_is_sequence : K.lookup v_is_sequence = some ⟨oc_is_sequence, od_is_sequence, .func (PySem.W.fnOf "is_sequence" "is_sequence" (defArgs s_is_sequence) (defBody s_is_sequence) (defScope s_is_sequence) .none kV_is_sequence dc_is_sequence pm_is_sequence an_is_sequence cd_is_sequence ct_is_sequence), sl_is_sequence⟩)
    (hc_is_sequence : PySem.W.codeIn K cd_is_sequence "is_sequence" = true)
    (hk_is_sequence : PySem.W.keepIn K (.ref v_is_sequence) = true)
    (hm_mask_of : PySem.W.nsIn K mainGlobals "mask_of" = some (some (.ref v_mask_of)))
    (hl_mask_of : K.lookup v_mask_of = some ⟨oc_mask_of, od_mask_of, .func (PySem.W.fnOf "mask_of" "mask_of" (defArgs s_mask_of) (defBody s_mask_of) (defScope s_mask_of) .none kV_mask_of dc_mask_of pm_mask_of an_mask_of cd_mask_of ct_mask_of), sl_mask_of⟩)
    (hc_mask_of : PySem.W.codeIn K cd_mask_of "mask_of" = true)
    (hk_mask_of : PySem.W.keepIn K (.ref v_mask_of) = true)
    (hm_check_inputs : PySem.W.nsIn K mainGlobals "check_inputs" = some (some (.ref v_check_inputs)))
    (hl_check_inputs : K.lookup v_check_inputs = some ⟨oc_check_inputs, od_check_inputs, .func (PySem.W.fnOf "check_inputs" "check_inputs" (defArgs s_check_inputs) (defBody s_check_inputs) (defScope s_check_inputs) .none kV_check_inputs dc_check_inputs pm_check_inputs an_check_inputs cd_check_inputs ct_check_inputs), sl_check_inputs⟩)
    (hc_check_inputs : PySem.W.codeIn K cd_check_inputs "check_inputs" = true)
    (hk_check_inputs : PySem.W.keepIn K (.ref v_check_inputs) = true)
    (hm_is_number : PySem.W.nsIn K mainGlobals "is_number" = some (some (.ref v_is_number)))
    (hl_is_number : K.lookup v_is_number = some ⟨oc_is_number, od_is_number, .func (PySem.W.fnOf "is_number" "is_number" (defArgs s_is_number) (defBody s_is_number) (defScope s_is_number) .none kV_is_number dc_is_number pm_is_number an_is_number cd_is_number ct_is_number), sl_is_number⟩)
    (hc_is_number : PySem.W.codeIn K cd_is_number "is_number" = true)
    (hk_is_number : PySem.W.keepIn K (.ref v_is_number) = true)
    (hm_is_table : PySem.W.nsIn K mainGlobals "is_table" = some (some (.ref v_is_table)))
    (hl_is_table : K.lookup v_is_table = some ⟨oc_is_table, od_is_table, .func (PySem.W.fnOf "is_table" "is_table" (defArgs s_is_table) (defBody s_is_table) (defScope s_is_table) .none kV_is_table dc_is_table pm_is_table an_is_table cd_is_table ct_is_table), sl_is_table⟩)
    (hc_is_table : PySem.W.codeIn K cd_is_table "is_table" = true)
    (hk_is_table : PySem.W.keepIn K (.ref v_is_table) = true)
    (hm_check_kind : PySem.W.nsIn K mainGlobals "check_kind" = some (some (.ref v_check_kind)))
    (hl_check_kind : K.lookup v_check_kind = some ⟨oc_check_kind, od_check_kind, .func (PySem.W.fnOf "check_kind" "check_kind" (defArgs s_check_kind) (defBody s_check_kind) (defScope s_check_kind) .none kV_check_kind dc_check_kind pm_check_kind an_check_kind cd_check_kind ct_check_kind), sl_check_kind⟩)
    (hc_check_kind : PySem.W.codeIn K cd_check_kind "check_kind" = true)
    (hk_check_kind : PySem.W.keepIn K (.ref v_check_kind) = true)
    (hm_operand_count : PySem.W.nsIn K mainGlobals "operand_count" = some (some (.ref v_operand_count)))
    (hl_operand_count : K.lookup v_operand_count = some ⟨oc_operand_count, od_operand_count, .func (PySem.W.fnOf "operand_count" "operand_count" (defArgs s_operand_count) (defBody s_operand_count) (defScope s_operand_count) .none kV_operand_count dc_operand_count pm_operand_count an_operand_count cd_operand_count ct_operand_count), sl_operand_count⟩)
    (hc_operand_count : PySem.W.codeIn K cd_operand_count "operand_count" = true)
    (hk_operand_count : PySem.W.keepIn K (.ref v_operand_count) = true)
    (hm_step_word : PySem.W.nsIn K mainGlobals "step_word" = some (some (.ref v_step_word)))
    (hl_step_word : K.lookup v_step_word = some ⟨oc_step_word, od_step_word, .func (PySem.W.fnOf "step_word" "step_word" (defArgs s_step_word) (defBody s_step_word) (defScope s_step_word) .none kV_step_word dc_step_word pm_step_word an_step_word cd_step_word ct_step_word), sl_step_word⟩)
    (hc_step_word : PySem.W.codeIn K cd_step_word "step_word" = true)
    (hk_step_word : PySem.W.keepIn K (.ref v_step_word) = true)
    (hm_pair_word : PySem.W.nsIn K mainGlobals "pair_word" = some (some (.ref v_pair_word)))
    (hl_pair_word : K.lookup v_pair_word = some ⟨oc_pair_word, od_pair_word, .func (PySem.W.fnOf "pair_word" "pair_word" (defArgs s_pair_word) (defBody s_pair_word) (defScope s_pair_word) .none kV_pair_word dc_pair_word pm_pair_word an_pair_word cd_pair_word ct_pair_word), sl_pair_word⟩)
    (hc_pair_word : PySem.W.codeIn K cd_pair_word "pair_word" = true)
    (hk_pair_word : PySem.W.keepIn K (.ref v_pair_word) = true)
    (hm_single_word : PySem.W.nsIn K mainGlobals "single_word" = some (some (.ref v_single_word)))
    (hl_single_word : K.lookup v_single_word = some ⟨oc_single_word, od_single_word, .func (PySem.W.fnOf "single_word" "single_word" (defArgs s_single_word) (defBody s_single_word) (defScope s_single_word) .none kV_single_word dc_single_word pm_single_word an_single_word cd_single_word ct_single_word), sl_single_word⟩)
    (hc_single_word : PySem.W.codeIn K cd_single_word "single_word" = true)
    (hk_single_word : PySem.W.keepIn K (.ref v_single_word) = true)
    (hm_is_operand : PySem.W.nsIn K mainGlobals "is_operand" = some (some (.ref v_is_operand)))
    (hl_is_operand : K.lookup v_is_operand = some ⟨oc_is_operand, od_is_operand, .func (PySem.W.fnOf "is_operand" "is_operand" (defArgs s_is_operand) (defBody s_is_operand) (defScope s_is_operand) .none kV_is_operand dc_is_operand pm_is_operand an_is_operand cd_is_operand ct_is_operand), sl_is_operand⟩)
    (hc_is_operand : PySem.W.codeIn K cd_is_operand "is_operand" = true)
    (hk_is_operand : PySem.W.keepIn K (.ref v_is_operand) = true)
    (hm_checked_kind : PySem.W.nsIn K mainGlobals "checked_kind" = some (some (.ref v_checked_kind)))
    (hl_checked_kind : K.lookup v_checked_kind = some ⟨oc_checked_kind, od_checked_kind, .func (PySem.W.fnOf "checked_kind" "checked_kind" (defArgs s_checked_kind) (defBody s_checked_kind) (defScope s_checked_kind) .none kV_checked_kind dc_checked_kind pm_checked_kind an_checked_kind cd_checked_kind ct_checked_kind), sl_checked_kind⟩)
    (hc_checked_kind : PySem.W.codeIn K cd_checked_kind "checked_kind" = true)
    (hk_checked_kind : PySem.W.keepIn K (.ref v_checked_kind) = true)
    (hm_checked_operands : PySem.W.nsIn K mainGlobals "checked_operands" = some (some (.ref v_checked_operands)))
    (hl_checked_operands : K.lookup v_checked_operands = some ⟨oc_checked_operands, od_checked_operands, .func (PySem.W.fnOf "checked_operands" "checked_operands" (defArgs s_checked_operands) (defBody s_checked_operands) (defScope s_checked_operands) .none kV_checked_operands dc_checked_operands pm_checked_operands an_checked_operands cd_checked_operands ct_checked_operands), sl_checked_operands⟩)
    (hc_checked_operands : PySem.W.codeIn K cd_checked_operands "checked_operands" = true)
    (hk_checked_operands : PySem.W.keepIn K (.ref v_checked_operands) = true)
    (hm_is_place : PySem.W.nsIn K mainGlobals "is_place" = some (some (.ref v_is_place)))
    (hl_is_place : K.lookup v_is_place = some ⟨oc_is_place, od_is_place, .func (PySem.W.fnOf "is_place" "is_place" (defArgs s_is_place) (defBody s_is_place) (defScope s_is_place) .none kV_is_place dc_is_place pm_is_place an_is_place cd_is_place ct_is_place), sl_is_place⟩)
    (hc_is_place : PySem.W.codeIn K cd_is_place "is_place" = true)
    (hk_is_place : PySem.W.keepIn K (.ref v_is_place) = true)
    (hm_is_before_list : PySem.W.nsIn K mainGlobals "is_before_list" = some (some (.ref v_is_before_list)))
    (hl_is_before_list : K.lookup v_is_before_list = some ⟨oc_is_before_list, od_is_before_list, .func (PySem.W.fnOf "is_before_list" "is_before_list" (defArgs s_is_before_list) (defBody s_is_before_list) (defScope s_is_before_list) .none kV_is_before_list dc_is_before_list pm_is_before_list an_is_before_list cd_is_before_list ct_is_before_list), sl_is_before_list⟩)
    (hc_is_before_list : PySem.W.codeIn K cd_is_before_list "is_before_list" = true)
    (hk_is_before_list : PySem.W.keepIn K (.ref v_is_before_list) = true)
    (hm_checked_befores : PySem.W.nsIn K mainGlobals "checked_befores" = some (some (.ref v_checked_befores)))
    (hl_checked_befores : K.lookup v_checked_befores = some ⟨oc_checked_befores, od_checked_befores, .func (PySem.W.fnOf "checked_befores" "checked_befores" (defArgs s_checked_befores) (defBody s_checked_befores) (defScope s_checked_befores) .none kV_checked_befores dc_checked_befores pm_checked_befores an_checked_befores cd_checked_befores ct_checked_befores), sl_checked_befores⟩)
    (hc_checked_befores : PySem.W.codeIn K cd_checked_befores "checked_befores" = true)
    (hk_checked_befores : PySem.W.keepIn K (.ref v_checked_befores) = true)
    (hm_afters_of : PySem.W.nsIn K mainGlobals "afters_of" = some (some (.ref v_afters_of)))
    (hl_afters_of : K.lookup v_afters_of = some ⟨oc_afters_of, od_afters_of, .func (PySem.W.fnOf "afters_of" "afters_of" (defArgs s_afters_of) (defBody s_afters_of) (defScope s_afters_of) .none kV_afters_of dc_afters_of pm_afters_of an_afters_of cd_afters_of ct_afters_of), sl_afters_of⟩)
    (hc_afters_of : PySem.W.codeIn K cd_afters_of "afters_of" = true)
    (hk_afters_of : PySem.W.keepIn K (.ref v_afters_of) = true)
    (hm_ordered_of : PySem.W.nsIn K mainGlobals "ordered_of" = some (some (.ref v_ordered_of)))
    (hl_ordered_of : K.lookup v_ordered_of = some ⟨oc_ordered_of, od_ordered_of, .func (PySem.W.fnOf "ordered_of" "ordered_of" (defArgs s_ordered_of) (defBody s_ordered_of) (defScope s_ordered_of) .none kV_ordered_of dc_ordered_of pm_ordered_of an_ordered_of cd_ordered_of ct_ordered_of), sl_ordered_of⟩)
    (hc_ordered_of : PySem.W.codeIn K cd_ordered_of "ordered_of" = true)
    (hk_ordered_of : PySem.W.keepIn K (.ref v_ordered_of) = true)
    (hm_reached_along : PySem.W.nsIn K mainGlobals "reached_along" = some (some (.ref v_reached_along)))
    (hl_reached_along : K.lookup v_reached_along = some ⟨oc_reached_along, od_reached_along, .func (PySem.W.fnOf "reached_along" "reached_along" (defArgs s_reached_along) (defBody s_reached_along) (defScope s_reached_along) (.ref T_reached_along) kV_reached_along dc_reached_along pm_reached_along an_reached_along cd_reached_along ct_reached_along), sl_reached_along⟩)
    (hc_reached_along : PySem.W.codeIn K cd_reached_along "reached_along" = true)
    (hk_reached_along : PySem.W.keepIn K (.ref v_reached_along) = true)
    (hm_check_rings : PySem.W.nsIn K mainGlobals "check_rings" = some (some (.ref v_check_rings)))
    (hl_check_rings : K.lookup v_check_rings = some ⟨oc_check_rings, od_check_rings, .func (PySem.W.fnOf "check_rings" "check_rings" (defArgs s_check_rings) (defBody s_check_rings) (defScope s_check_rings) .none kV_check_rings dc_check_rings pm_check_rings an_check_rings cd_check_rings ct_check_rings), sl_check_rings⟩)
    (hc_check_rings : PySem.W.codeIn K cd_check_rings "check_rings" = true)
    (hk_check_rings : PySem.W.keepIn K (.ref v_check_rings) = true)
    (hm_check_roads : PySem.W.nsIn K mainGlobals "check_roads" = some (some (.ref v_check_roads)))
    (hl_check_roads : K.lookup v_check_roads = some ⟨oc_check_roads, od_check_roads, .func (PySem.W.fnOf "check_roads" "check_roads" (defArgs s_check_roads) (defBody s_check_roads) (defScope s_check_roads) .none kV_check_roads dc_check_roads pm_check_roads an_check_roads cd_check_roads ct_check_roads), sl_check_roads⟩)
    (hc_check_roads : PySem.W.codeIn K cd_check_roads "check_roads" = true)
    (hk_check_roads : PySem.W.keepIn K (.ref v_check_roads) = true)
    (hm_check_shape : PySem.W.nsIn K mainGlobals "check_shape" = some (some (.ref v_check_shape)))
    (hl_check_shape : K.lookup v_check_shape = some ⟨oc_check_shape, od_check_shape, .func (PySem.W.fnOf "check_shape" "check_shape" (defArgs s_check_shape) (defBody s_check_shape) (defScope s_check_shape) .none kV_check_shape dc_check_shape pm_check_shape an_check_shape cd_check_shape ct_check_shape), sl_check_shape⟩)
    (hc_check_shape : PySem.W.codeIn K cd_check_shape "check_shape" = true)
    (hk_check_shape : PySem.W.keepIn K (.ref v_check_shape) = true)
    (hm_check_steps : PySem.W.nsIn K mainGlobals "check_steps" = some (some (.ref v_check_steps)))
    (hl_check_steps : K.lookup v_check_steps = some ⟨oc_check_steps, od_check_steps, .func (PySem.W.fnOf "check_steps" "check_steps" (defArgs s_check_steps) (defBody s_check_steps) (defScope s_check_steps) .none kV_check_steps dc_check_steps pm_check_steps an_check_steps cd_check_steps ct_check_steps), sl_check_steps⟩)
    (hc_check_steps : PySem.W.codeIn K cd_check_steps "check_steps" = true)
    (hk_check_steps : PySem.W.keepIn K (.ref v_check_steps) = true)
    (hm_check_idle : PySem.W.nsIn K mainGlobals "check_idle" = some (some (.ref v_check_idle)))
    (hl_check_idle : K.lookup v_check_idle = some ⟨oc_check_idle, od_check_idle, .func (PySem.W.fnOf "check_idle" "check_idle" (defArgs s_check_idle) (defBody s_check_idle) (defScope s_check_idle) .none kV_check_idle dc_check_idle pm_check_idle an_check_idle cd_check_idle ct_check_idle), sl_check_idle⟩)
    (hc_check_idle : PySem.W.codeIn K cd_check_idle "check_idle" = true)
    (hk_check_idle : PySem.W.keepIn K (.ref v_check_idle) = true)
    (hm_operand_word : PySem.W.nsIn K mainGlobals "operand_word" = some (some (.ref v_operand_word)))
    (hl_operand_word : K.lookup v_operand_word = some ⟨oc_operand_word, od_operand_word, .func (PySem.W.fnOf "operand_word" "operand_word" (defArgs s_operand_word) (defBody s_operand_word) (defScope s_operand_word) .none kV_operand_word dc_operand_word pm_operand_word an_operand_word cd_operand_word ct_operand_word), sl_operand_word⟩)
    (hc_operand_word : PySem.W.codeIn K cd_operand_word "operand_word" = true)
    (hk_operand_word : PySem.W.keepIn K (.ref v_operand_word) = true)
    (hm_word_over : PySem.W.nsIn K mainGlobals "word_over" = some (some (.ref v_word_over)))
    (hl_word_over : K.lookup v_word_over = some ⟨oc_word_over, od_word_over, .func (PySem.W.fnOf "word_over" "word_over" (defArgs s_word_over) (defBody s_word_over) (defScope s_word_over) .none kV_word_over dc_word_over pm_word_over an_word_over cd_word_over ct_word_over), sl_word_over⟩)
    (hc_word_over : PySem.W.codeIn K cd_word_over "word_over" = true)
    (hk_word_over : PySem.W.keepIn K (.ref v_word_over) = true)
    (hm_web_worths : PySem.W.nsIn K mainGlobals "web_worths" = some (some (.ref v_web_worths)))
    (hl_web_worths : K.lookup v_web_worths = some ⟨oc_web_worths, od_web_worths, .func (PySem.W.fnOf "web_worths" "web_worths" (defArgs s_web_worths) (defBody s_web_worths) (defScope s_web_worths) .none kV_web_worths dc_web_worths pm_web_worths an_web_worths cd_web_worths ct_web_worths), sl_web_worths⟩)
    (hc_web_worths : PySem.W.codeIn K cd_web_worths "web_worths" = true)
    (hk_web_worths : PySem.W.keepIn K (.ref v_web_worths) = true)
    (hm_web_worth : PySem.W.nsIn K mainGlobals "web_worth" = some (some (.ref v_web_worth)))
    (hl_web_worth : K.lookup v_web_worth = some ⟨oc_web_worth, od_web_worth, .func (PySem.W.fnOf "web_worth" "web_worth" (defArgs s_web_worth) (defBody s_web_worth) (defScope s_web_worth) .none kV_web_worth dc_web_worth pm_web_worth an_web_worth cd_web_worth ct_web_worth), sl_web_worth⟩)
    (hc_web_worth : PySem.W.codeIn K cd_web_worth "web_worth" = true)
    (hk_web_worth : PySem.W.keepIn K (.ref v_web_worth) = true)
    (hm_law_hand : PySem.W.nsIn K mainGlobals "_law_hand" = some (some (.ref v_law_hand)))
    (hl_law_hand : K.lookup v_law_hand = some ⟨oc_law_hand, od_law_hand, .func (PySem.W.fnOf "_law_hand" "_law_hand" (defArgs s_law_hand) (defBody s_law_hand) (defScope s_law_hand) .none kV_law_hand dc_law_hand pm_law_hand an_law_hand cd_law_hand ct_law_hand), sl_law_hand⟩)
    (hc_law_hand : PySem.W.codeIn K cd_law_hand "_law_hand" = true)
    (hk_law_hand : PySem.W.keepIn K (.ref v_law_hand) = true)
    (hm_law_mixed : PySem.W.nsIn K mainGlobals "_law_mixed" = some (some (.ref v_law_mixed)))
    (hl_law_mixed : K.lookup v_law_mixed = some ⟨oc_law_mixed, od_law_mixed, .func (PySem.W.fnOf "_law_mixed" "_law_mixed" (defArgs s_law_mixed) (defBody s_law_mixed) (defScope s_law_mixed) .none kV_law_mixed dc_law_mixed pm_law_mixed an_law_mixed cd_law_mixed ct_law_mixed), sl_law_mixed⟩)
    (hc_law_mixed : PySem.W.codeIn K cd_law_mixed "_law_mixed" = true)
    (hk_law_mixed : PySem.W.keepIn K (.ref v_law_mixed) = true)
    (hm_law_take : PySem.W.nsIn K mainGlobals "_law_take" = some (some (.ref v_law_take)))
    (hl_law_take : K.lookup v_law_take = some ⟨oc_law_take, od_law_take, .func (PySem.W.fnOf "_law_take" "_law_take" (defArgs s_law_take) (defBody s_law_take) (defScope s_law_take) .none kV_law_take dc_law_take pm_law_take an_law_take cd_law_take ct_law_take), sl_law_take⟩)
    (hc_law_take : PySem.W.codeIn K cd_law_take "_law_take" = true)
    (hk_law_take : PySem.W.keepIn K (.ref v_law_take) = true)
    (hm_law_whole : PySem.W.nsIn K mainGlobals "_law_whole" = some (some (.ref v_law_whole)))
    (hl_law_whole : K.lookup v_law_whole = some ⟨oc_law_whole, od_law_whole, .func (PySem.W.fnOf "_law_whole" "_law_whole" (defArgs s_law_whole) (defBody s_law_whole) (defScope s_law_whole) .none kV_law_whole dc_law_whole pm_law_whole an_law_whole cd_law_whole ct_law_whole), sl_law_whole⟩)
    (hc_law_whole : PySem.W.codeIn K cd_law_whole "_law_whole" = true)
    (hk_law_whole : PySem.W.keepIn K (.ref v_law_whole) = true)
    (hm_law_two : PySem.W.nsIn K mainGlobals "_law_two" = some (some (.ref v_law_two)))
    (hl_law_two : K.lookup v_law_two = some ⟨oc_law_two, od_law_two, .func (PySem.W.fnOf "_law_two" "_law_two" (defArgs s_law_two) (defBody s_law_two) (defScope s_law_two) .none kV_law_two dc_law_two pm_law_two an_law_two cd_law_two ct_law_two), sl_law_two⟩)
    (hc_law_two : PySem.W.codeIn K cd_law_two "_law_two" = true)
    (hk_law_two : PySem.W.keepIn K (.ref v_law_two) = true)
    (hm_law_kind : PySem.W.nsIn K mainGlobals "_law_kind" = some (some (.ref v_law_kind)))
    (hl_law_kind : K.lookup v_law_kind = some ⟨oc_law_kind, od_law_kind, .func (PySem.W.fnOf "_law_kind" "_law_kind" (defArgs s_law_kind) (defBody s_law_kind) (defScope s_law_kind) .none kV_law_kind dc_law_kind pm_law_kind an_law_kind cd_law_kind ct_law_kind), sl_law_kind⟩)
    (hc_law_kind : PySem.W.codeIn K cd_law_kind "_law_kind" = true)
    (hk_law_kind : PySem.W.keepIn K (.ref v_law_kind) = true)
    (hm_law_operands : PySem.W.nsIn K mainGlobals "_law_operands" = some (some (.ref v_law_operands)))
    (hl_law_operands : K.lookup v_law_operands = some ⟨oc_law_operands, od_law_operands, .func (PySem.W.fnOf "_law_operands" "_law_operands" (defArgs s_law_operands) (defBody s_law_operands) (defScope s_law_operands) .none kV_law_operands dc_law_operands pm_law_operands an_law_operands cd_law_operands ct_law_operands), sl_law_operands⟩)
    (hc_law_operands : PySem.W.codeIn K cd_law_operands "_law_operands" = true)
    (hk_law_operands : PySem.W.keepIn K (.ref v_law_operands) = true)
    (hm_law_bits : PySem.W.nsIn K mainGlobals "_law_bits" = some (some (.ref v_law_bits)))
    (hl_law_bits : K.lookup v_law_bits = some ⟨oc_law_bits, od_law_bits, .func (PySem.W.fnOf "_law_bits" "_law_bits" (defArgs s_law_bits) (defBody s_law_bits) (defScope s_law_bits) .none kV_law_bits dc_law_bits pm_law_bits an_law_bits cd_law_bits ct_law_bits), sl_law_bits⟩)
    (hc_law_bits : PySem.W.codeIn K cd_law_bits "_law_bits" = true)
    (hk_law_bits : PySem.W.keepIn K (.ref v_law_bits) = true)
    (hm_law_step_word : PySem.W.nsIn K mainGlobals "_law_step_word" = some (some (.ref v_law_step_word)))
    (hl_law_step_word : K.lookup v_law_step_word = some ⟨oc_law_step_word, od_law_step_word, .func (PySem.W.fnOf "_law_step_word" "_law_step_word" (defArgs s_law_step_word) (defBody s_law_step_word) (defScope s_law_step_word) .none kV_law_step_word dc_law_step_word pm_law_step_word an_law_step_word cd_law_step_word ct_law_step_word), sl_law_step_word⟩)
    (hc_law_step_word : PySem.W.codeIn K cd_law_step_word "_law_step_word" = true)
    (hk_law_step_word : PySem.W.keepIn K (.ref v_law_step_word) = true)
    (hm_law_under : PySem.W.nsIn K mainGlobals "_law_under" = some (some (.ref v_law_under)))
    (hl_law_under : K.lookup v_law_under = some ⟨oc_law_under, od_law_under, .func (PySem.W.fnOf "_law_under" "_law_under" (defArgs s_law_under) (defBody s_law_under) (defScope s_law_under) .none kV_law_under dc_law_under pm_law_under an_law_under cd_law_under ct_law_under), sl_law_under⟩)
    (hc_law_under : PySem.W.codeIn K cd_law_under "_law_under" = true)
    (hk_law_under : PySem.W.keepIn K (.ref v_law_under) = true)
    (hm_law_operand : PySem.W.nsIn K mainGlobals "_law_operand" = some (some (.ref v_law_operand)))
    (hl_law_operand : K.lookup v_law_operand = some ⟨oc_law_operand, od_law_operand, .func (PySem.W.fnOf "_law_operand" "_law_operand" (defArgs s_law_operand) (defBody s_law_operand) (defScope s_law_operand) .none kV_law_operand dc_law_operand pm_law_operand an_law_operand cd_law_operand ct_law_operand), sl_law_operand⟩)
    (hc_law_operand : PySem.W.codeIn K cd_law_operand "_law_operand" = true)
    (hk_law_operand : PySem.W.keepIn K (.ref v_law_operand) = true)
    (hm_law_web_words : PySem.W.nsIn K mainGlobals "_law_web_words" = some (some (.ref v_law_web_words)))
    (hl_law_web_words : K.lookup v_law_web_words = some ⟨oc_law_web_words, od_law_web_words, .func (PySem.W.fnOf "_law_web_words" "_law_web_words" (defArgs s_law_web_words) (defBody s_law_web_words) (defScope s_law_web_words) .none kV_law_web_words dc_law_web_words pm_law_web_words an_law_web_words cd_law_web_words ct_law_web_words), sl_law_web_words⟩)
    (hc_law_web_words : PySem.W.codeIn K cd_law_web_words "_law_web_words" = true)
    (hk_law_web_words : PySem.W.keepIn K (.ref v_law_web_words) = true)
    (hm_law_web_befores : PySem.W.nsIn K mainGlobals "_law_web_befores" = some (some (.ref v_law_web_befores)))
    (hl_law_web_befores : K.lookup v_law_web_befores = some ⟨oc_law_web_befores, od_law_web_befores, .func (PySem.W.fnOf "_law_web_befores" "_law_web_befores" (defArgs s_law_web_befores) (defBody s_law_web_befores) (defScope s_law_web_befores) .none kV_law_web_befores dc_law_web_befores pm_law_web_befores an_law_web_befores cd_law_web_befores ct_law_web_befores), sl_law_web_befores⟩)
    (hc_law_web_befores : PySem.W.codeIn K cd_law_web_befores "_law_web_befores" = true)
    (hk_law_web_befores : PySem.W.keepIn K (.ref v_law_web_befores) = true)
    (hm_law_words : PySem.W.nsIn K mainGlobals "_law_words" = some (some (.ref v_law_words)))
    (hl_law_words : K.lookup v_law_words = some ⟨oc_law_words, od_law_words, .func (PySem.W.fnOf "_law_words" "_law_words" (defArgs s_law_words) (defBody s_law_words) (defScope s_law_words) .none kV_law_words dc_law_words pm_law_words an_law_words cd_law_words ct_law_words), sl_law_words⟩)
    (hc_law_words : PySem.W.codeIn K cd_law_words "_law_words" = true)
    (hk_law_words : PySem.W.keepIn K (.ref v_law_words) = true)
    (hm_law_either : PySem.W.nsIn K mainGlobals "_law_either" = some (some (.ref v_law_either)))
    (hl_law_either : K.lookup v_law_either = some ⟨oc_law_either, od_law_either, .func (PySem.W.fnOf "_law_either" "_law_either" (defArgs s_law_either) (defBody s_law_either) (defScope s_law_either) .none kV_law_either dc_law_either pm_law_either an_law_either cd_law_either ct_law_either), sl_law_either⟩)
    (hc_law_either : PySem.W.codeIn K cd_law_either "_law_either" = true)
    (hk_law_either : PySem.W.keepIn K (.ref v_law_either) = true)
    (hm_law_pick : PySem.W.nsIn K mainGlobals "_law_pick" = some (some (.ref v_law_pick)))
    (hl_law_pick : K.lookup v_law_pick = some ⟨oc_law_pick, od_law_pick, .func (PySem.W.fnOf "_law_pick" "_law_pick" (defArgs s_law_pick) (defBody s_law_pick) (defScope s_law_pick) .none kV_law_pick dc_law_pick pm_law_pick an_law_pick cd_law_pick ct_law_pick), sl_law_pick⟩)
    (hc_law_pick : PySem.W.codeIn K cd_law_pick "_law_pick" = true)
    (hk_law_pick : PySem.W.keepIn K (.ref v_law_pick) = true)
    (hm_law_tuples : PySem.W.nsIn K mainGlobals "_law_tuples" = some (some (.ref v_law_tuples)))
    (hl_law_tuples : K.lookup v_law_tuples = some ⟨oc_law_tuples, od_law_tuples, .func (PySem.W.fnOf "_law_tuples" "_law_tuples" (defArgs s_law_tuples) (defBody s_law_tuples) (defScope s_law_tuples) .none kV_law_tuples dc_law_tuples pm_law_tuples an_law_tuples cd_law_tuples ct_law_tuples), sl_law_tuples⟩)
    (hc_law_tuples : PySem.W.codeIn K cd_law_tuples "_law_tuples" = true)
    (hk_law_tuples : PySem.W.keepIn K (.ref v_law_tuples) = true)
    (hm_law_full_web : PySem.W.nsIn K mainGlobals "_law_full_web" = some (some (.ref v_law_full_web)))
    (hl_law_full_web : K.lookup v_law_full_web = some ⟨oc_law_full_web, od_law_full_web, .func (PySem.W.fnOf "_law_full_web" "_law_full_web" (defArgs s_law_full_web) (defBody s_law_full_web) (defScope s_law_full_web) .none kV_law_full_web dc_law_full_web pm_law_full_web an_law_full_web cd_law_full_web ct_law_full_web), sl_law_full_web⟩)
    (hc_law_full_web : PySem.W.codeIn K cd_law_full_web "_law_full_web" = true)
    (hk_law_full_web : PySem.W.keepIn K (.ref v_law_full_web) = true)
    (hm_law_alive : PySem.W.nsIn K mainGlobals "_law_alive" = some (some (.ref v_law_alive)))
    (hl_law_alive : K.lookup v_law_alive = some ⟨oc_law_alive, od_law_alive, .func (PySem.W.fnOf "_law_alive" "_law_alive" (defArgs s_law_alive) (defBody s_law_alive) (defScope s_law_alive) .none kV_law_alive dc_law_alive pm_law_alive an_law_alive cd_law_alive ct_law_alive), sl_law_alive⟩)
    (hc_law_alive : PySem.W.codeIn K cd_law_alive "_law_alive" = true)
    (hk_law_alive : PySem.W.keepIn K (.ref v_law_alive) = true)
    (hm_law_chain_steps : PySem.W.nsIn K mainGlobals "_law_chain_steps" = some (some (.ref v_law_chain_steps)))
    (hl_law_chain_steps : K.lookup v_law_chain_steps = some ⟨oc_law_chain_steps, od_law_chain_steps, .func (PySem.W.fnOf "_law_chain_steps" "_law_chain_steps" (defArgs s_law_chain_steps) (defBody s_law_chain_steps) (defScope s_law_chain_steps) .none kV_law_chain_steps dc_law_chain_steps pm_law_chain_steps an_law_chain_steps cd_law_chain_steps ct_law_chain_steps), sl_law_chain_steps⟩)
    (hc_law_chain_steps : PySem.W.codeIn K cd_law_chain_steps "_law_chain_steps" = true)
    (hk_law_chain_steps : PySem.W.keepIn K (.ref v_law_chain_steps) = true)
    (hm_law_drawn_steps : PySem.W.nsIn K mainGlobals "_law_drawn_steps" = some (some (.ref v_law_drawn_steps)))
    (hl_law_drawn_steps : K.lookup v_law_drawn_steps = some ⟨oc_law_drawn_steps, od_law_drawn_steps, .func (PySem.W.fnOf "_law_drawn_steps" "_law_drawn_steps" (defArgs s_law_drawn_steps) (defBody s_law_drawn_steps) (defScope s_law_drawn_steps) .none kV_law_drawn_steps dc_law_drawn_steps pm_law_drawn_steps an_law_drawn_steps cd_law_drawn_steps ct_law_drawn_steps), sl_law_drawn_steps⟩)
    (hc_law_drawn_steps : PySem.W.codeIn K cd_law_drawn_steps "_law_drawn_steps" = true)
    (hk_law_drawn_steps : PySem.W.keepIn K (.ref v_law_drawn_steps) = true)
    (hm_law_step_right : PySem.W.nsIn K mainGlobals "_law_step_right" = some (some (.ref v_law_step_right)))
    (hl_law_step_right : K.lookup v_law_step_right = some ⟨oc_law_step_right, od_law_step_right, .func (PySem.W.fnOf "_law_step_right" "_law_step_right" (defArgs s_law_step_right) (defBody s_law_step_right) (defScope s_law_step_right) .none kV_law_step_right dc_law_step_right pm_law_step_right an_law_step_right cd_law_step_right ct_law_step_right), sl_law_step_right⟩)
    (hc_law_step_right : PySem.W.codeIn K cd_law_step_right "_law_step_right" = true)
    (hk_law_step_right : PySem.W.keepIn K (.ref v_law_step_right) = true)
    (hm_law_step_refused : PySem.W.nsIn K mainGlobals "_law_step_refused" = some (some (.ref v_law_step_refused)))
    (hl_law_step_refused : K.lookup v_law_step_refused = some ⟨oc_law_step_refused, od_law_step_refused, .func (PySem.W.fnOf "_law_step_refused" "_law_step_refused" (defArgs s_law_step_refused) (defBody s_law_step_refused) (defScope s_law_step_refused) .none kV_law_step_refused dc_law_step_refused pm_law_step_refused an_law_step_refused cd_law_step_refused ct_law_step_refused), sl_law_step_refused⟩)
    (hc_law_step_refused : PySem.W.codeIn K cd_law_step_refused "_law_step_refused" = true)
    (hk_law_step_refused : PySem.W.keepIn K (.ref v_law_step_refused) = true)
    (hm_law_odd_kind : PySem.W.nsIn K mainGlobals "_law_odd_kind" = some (some (.ref v_law_odd_kind)))
    (hl_law_odd_kind : K.lookup v_law_odd_kind = some ⟨oc_law_odd_kind, od_law_odd_kind, .func (PySem.W.fnOf "_law_odd_kind" "_law_odd_kind" (defArgs s_law_odd_kind) (defBody s_law_odd_kind) (defScope s_law_odd_kind) .none kV_law_odd_kind dc_law_odd_kind pm_law_odd_kind an_law_odd_kind cd_law_odd_kind ct_law_odd_kind), sl_law_odd_kind⟩)
    (hc_law_odd_kind : PySem.W.codeIn K cd_law_odd_kind "_law_odd_kind" = true)
    (hk_law_odd_kind : PySem.W.keepIn K (.ref v_law_odd_kind) = true)
    (hm_law_odd_operand : PySem.W.nsIn K mainGlobals "_law_odd_operand" = some (some (.ref v_law_odd_operand)))
    (hl_law_odd_operand : K.lookup v_law_odd_operand = some ⟨oc_law_odd_operand, od_law_odd_operand, .func (PySem.W.fnOf "_law_odd_operand" "_law_odd_operand" (defArgs s_law_odd_operand) (defBody s_law_odd_operand) (defScope s_law_odd_operand) .none kV_law_odd_operand dc_law_odd_operand pm_law_odd_operand an_law_odd_operand cd_law_odd_operand ct_law_odd_operand), sl_law_odd_operand⟩)
    (hc_law_odd_operand : PySem.W.codeIn K cd_law_odd_operand "_law_odd_operand" = true)
    (hk_law_odd_operand : PySem.W.keepIn K (.ref v_law_odd_operand) = true)
    (hm_law_odd_steps : PySem.W.nsIn K mainGlobals "_law_odd_steps" = some (some (.ref v_law_odd_steps)))
    (hl_law_odd_steps : K.lookup v_law_odd_steps = some ⟨oc_law_odd_steps, od_law_odd_steps, .func (PySem.W.fnOf "_law_odd_steps" "_law_odd_steps" (defArgs s_law_odd_steps) (defBody s_law_odd_steps) (defScope s_law_odd_steps) .none kV_law_odd_steps dc_law_odd_steps pm_law_odd_steps an_law_odd_steps cd_law_odd_steps ct_law_odd_steps), sl_law_odd_steps⟩)
    (hc_law_odd_steps : PySem.W.codeIn K cd_law_odd_steps "_law_odd_steps" = true)
    (hk_law_odd_steps : PySem.W.keepIn K (.ref v_law_odd_steps) = true)
    (hm_law_web_due : PySem.W.nsIn K mainGlobals "_law_web_due" = some (some (.ref v_law_web_due)))
    (hl_law_web_due : K.lookup v_law_web_due = some ⟨oc_law_web_due, od_law_web_due, .func (PySem.W.fnOf "_law_web_due" "_law_web_due" (defArgs s_law_web_due) (defBody s_law_web_due) (defScope s_law_web_due) .none kV_law_web_due dc_law_web_due pm_law_web_due an_law_web_due cd_law_web_due ct_law_web_due), sl_law_web_due⟩)
    (hc_law_web_due : PySem.W.codeIn K cd_law_web_due "_law_web_due" = true)
    (hk_law_web_due : PySem.W.keepIn K (.ref v_law_web_due) = true)
    (hm_law_spoilt_rows : PySem.W.nsIn K mainGlobals "_law_spoilt_rows" = some (some (.ref v_law_spoilt_rows)))
    (hl_law_spoilt_rows : K.lookup v_law_spoilt_rows = some ⟨oc_law_spoilt_rows, od_law_spoilt_rows, .func (PySem.W.fnOf "_law_spoilt_rows" "_law_spoilt_rows" (defArgs s_law_spoilt_rows) (defBody s_law_spoilt_rows) (defScope s_law_spoilt_rows) .none kV_law_spoilt_rows dc_law_spoilt_rows pm_law_spoilt_rows an_law_spoilt_rows cd_law_spoilt_rows ct_law_spoilt_rows), sl_law_spoilt_rows⟩)
    (hc_law_spoilt_rows : PySem.W.codeIn K cd_law_spoilt_rows "_law_spoilt_rows" = true)
    (hk_law_spoilt_rows : PySem.W.keepIn K (.ref v_law_spoilt_rows) = true)
    (hm_law_web_told : PySem.W.nsIn K mainGlobals "_law_web_told" = some (some (.ref v_law_web_told)))
    (hl_law_web_told : K.lookup v_law_web_told = some ⟨oc_law_web_told, od_law_web_told, .func (PySem.W.fnOf "_law_web_told" "_law_web_told" (defArgs s_law_web_told) (defBody s_law_web_told) (defScope s_law_web_told) .none kV_law_web_told dc_law_web_told pm_law_web_told an_law_web_told cd_law_web_told ct_law_web_told), sl_law_web_told⟩)
    (hc_law_web_told : PySem.W.codeIn K cd_law_web_told "_law_web_told" = true)
    (hk_law_web_told : PySem.W.keepIn K (.ref v_law_web_told) = true)
    (hm_law_web_right : PySem.W.nsIn K mainGlobals "_law_web_right" = some (some (.ref v_law_web_right)))
    (hl_law_web_right : K.lookup v_law_web_right = some ⟨oc_law_web_right, od_law_web_right, .func (PySem.W.fnOf "_law_web_right" "_law_web_right" (defArgs s_law_web_right) (defBody s_law_web_right) (defScope s_law_web_right) .none kV_law_web_right dc_law_web_right pm_law_web_right an_law_web_right cd_law_web_right ct_law_web_right), sl_law_web_right⟩)
    (hc_law_web_right : PySem.W.codeIn K cd_law_web_right "_law_web_right" = true)
    (hk_law_web_right : PySem.W.keepIn K (.ref v_law_web_right) = true)
    (hm_law_inputs_told : PySem.W.nsIn K mainGlobals "_law_inputs_told" = some (some (.ref v_law_inputs_told)))
    (hl_law_inputs_told : K.lookup v_law_inputs_told = some ⟨oc_law_inputs_told, od_law_inputs_told, .func (PySem.W.fnOf "_law_inputs_told" "_law_inputs_told" (defArgs s_law_inputs_told) (defBody s_law_inputs_told) (defScope s_law_inputs_told) .none kV_law_inputs_told dc_law_inputs_told pm_law_inputs_told an_law_inputs_told cd_law_inputs_told ct_law_inputs_told), sl_law_inputs_told⟩)
    (hc_law_inputs_told : PySem.W.codeIn K cd_law_inputs_told "_law_inputs_told" = true)
    (hk_law_inputs_told : PySem.W.keepIn K (.ref v_law_inputs_told) = true)
    (hm_law_inputs_right : PySem.W.nsIn K mainGlobals "_law_inputs_right" = some (some (.ref v_law_inputs_right)))
    (hl_law_inputs_right : K.lookup v_law_inputs_right = some ⟨oc_law_inputs_right, od_law_inputs_right, .func (PySem.W.fnOf "_law_inputs_right" "_law_inputs_right" (defArgs s_law_inputs_right) (defBody s_law_inputs_right) (defScope s_law_inputs_right) .none kV_law_inputs_right dc_law_inputs_right pm_law_inputs_right an_law_inputs_right cd_law_inputs_right ct_law_inputs_right), sl_law_inputs_right⟩)
    (hc_law_inputs_right : PySem.W.codeIn K cd_law_inputs_right "_law_inputs_right" = true)
    (hk_law_inputs_right : PySem.W.keepIn K (.ref v_law_inputs_right) = true)
    (hm_law_case : PySem.W.nsIn K mainGlobals "_law_case" = some (some (.ref v_law_case)))
    (hl_law_case : K.lookup v_law_case = some ⟨oc_law_case, od_law_case, .func (PySem.W.fnOf "_law_case" "_law_case" (defArgs s_law_case) (defBody s_law_case) (defScope s_law_case) .none kV_law_case dc_law_case pm_law_case an_law_case cd_law_case ct_law_case), sl_law_case⟩)
    (hc_law_case : PySem.W.codeIn K cd_law_case "_law_case" = true)
    (hk_law_case : PySem.W.keepIn K (.ref v_law_case) = true)
    (hm_law : PySem.W.nsIn K mainGlobals "law" = some (some (.ref v_law)))
    (hl_law : K.lookup v_law = some ⟨oc_law, od_law, .func (PySem.W.fnOf "law" "law" (defArgs s_law) (defBody s_law) (defScope s_law) .none kV_law dc_law pm_law an_law cd_law ct_law), sl_law⟩)
    (hc_law : PySem.W.codeIn K cd_law "law" = true)
    (hk_law : PySem.W.keepIn K (.ref v_law) = true)
    (hl_BadInputs___init__ : K.lookup v_BadInputs___init__ = some ⟨oc_BadInputs___init__, od_BadInputs___init__, .func (PySem.W.fnOf "__init__" "BadInputs.__init__" (defArgs s_BadInputs___init__) (defBody s_BadInputs___init__) (defScope s_BadInputs___init__) .none kV_BadInputs___init__ dc_BadInputs___init__ pm_BadInputs___init__ an_BadInputs___init__ cd_BadInputs___init__ ct_BadInputs___init__), sl_BadInputs___init__⟩)
    (hc_BadInputs___init__ : PySem.W.codeIn K cd_BadInputs___init__ "BadInputs.__init__" = true)
    (hk_BadInputs___init__ : PySem.W.keepIn K (.ref v_BadInputs___init__) = true)
    (hl_BadWeb___init__ : K.lookup v_BadWeb___init__ = some ⟨oc_BadWeb___init__, od_BadWeb___init__, .func (PySem.W.fnOf "__init__" "BadWeb.__init__" (defArgs s_BadWeb___init__) (defBody s_BadWeb___init__) (defScope s_BadWeb___init__) .none kV_BadWeb___init__ dc_BadWeb___init__ pm_BadWeb___init__ an_BadWeb___init__ cd_BadWeb___init__ ct_BadWeb___init__), sl_BadWeb___init__⟩)
    (hc_BadWeb___init__ : PySem.W.codeIn K cd_BadWeb___init__ "BadWeb.__init__" = true)
    (hk_BadWeb___init__ : PySem.W.keepIn K (.ref v_BadWeb___init__) = true)
    (hl_BadBare___init__ : K.lookup v_BadBare___init__ = some ⟨oc_BadBare___init__, od_BadBare___init__, .func (PySem.W.fnOf "__init__" "BadBare.__init__" (defArgs s_BadBare___init__) (defBody s_BadBare___init__) (defScope s_BadBare___init__) .none kV_BadBare___init__ dc_BadBare___init__ pm_BadBare___init__ an_BadBare___init__ cd_BadBare___init__ ct_BadBare___init__), sl_BadBare___init__⟩)
    (hc_BadBare___init__ : PySem.W.codeIn K cd_BadBare___init__ "BadBare.__init__" = true)
    (hk_BadBare___init__ : PySem.W.keepIn K (.ref v_BadBare___init__) = true)
    (hl_Step___init__ : K.lookup v_Step___init__ = some ⟨oc_Step___init__, od_Step___init__, .func (PySem.W.fnOf "__init__" "Step.__init__" (defArgs s_Step___init__) (defBody s_Step___init__) (defScope s_Step___init__) .none kV_Step___init__ dc_Step___init__ pm_Step___init__ an_Step___init__ cd_Step___init__ ct_Step___init__), sl_Step___init__⟩)
    (hc_Step___init__ : PySem.W.codeIn K cd_Step___init__ "Step.__init__" = true)
    (hk_Step___init__ : PySem.W.keepIn K (.ref v_Step___init__) = true)
    (hl_Step___eq__ : K.lookup v_Step___eq__ = some ⟨oc_Step___eq__, od_Step___eq__, .func (PySem.W.fnOf "__eq__" "Step.__eq__" (defArgs s_Step___eq__) (defBody s_Step___eq__) (defScope s_Step___eq__) .none kV_Step___eq__ dc_Step___eq__ pm_Step___eq__ an_Step___eq__ cd_Step___eq__ ct_Step___eq__), sl_Step___eq__⟩)
    (hc_Step___eq__ : PySem.W.codeIn K cd_Step___eq__ "Step.__eq__" = true)
    (hk_Step___eq__ : PySem.W.keepIn K (.ref v_Step___eq__) = true)
    (hl_Bare___init__ : K.lookup v_Bare___init__ = some ⟨oc_Bare___init__, od_Bare___init__, .func (PySem.W.fnOf "__init__" "Bare.__init__" (defArgs s_Bare___init__) (defBody s_Bare___init__) (defScope s_Bare___init__) .none kV_Bare___init__ dc_Bare___init__ pm_Bare___init__ an_Bare___init__ cd_Bare___init__ ct_Bare___init__), sl_Bare___init__⟩)
    (hc_Bare___init__ : PySem.W.codeIn K cd_Bare___init__ "Bare.__init__" = true)
    (hk_Bare___init__ : PySem.W.keepIn K (.ref v_Bare___init__) = true)
    (hl_Bare___len__ : K.lookup v_Bare___len__ = some ⟨oc_Bare___len__, od_Bare___len__, .func (PySem.W.fnOf "__len__" "Bare.__len__" (defArgs s_Bare___len__) (defBody s_Bare___len__) (defScope s_Bare___len__) .none kV_Bare___len__ dc_Bare___len__ pm_Bare___len__ an_Bare___len__ cd_Bare___len__ ct_Bare___len__), sl_Bare___len__⟩)
    (hc_Bare___len__ : PySem.W.codeIn K cd_Bare___len__ "Bare.__len__" = true)
    (hk_Bare___len__ : PySem.W.keepIn K (.ref v_Bare___len__) = true)
    (hl_Bare___eq__ : K.lookup v_Bare___eq__ = some ⟨oc_Bare___eq__, od_Bare___eq__, .func (PySem.W.fnOf "__eq__" "Bare.__eq__" (defArgs s_Bare___eq__) (defBody s_Bare___eq__) (defScope s_Bare___eq__) .none kV_Bare___eq__ dc_Bare___eq__ pm_Bare___eq__ an_Bare___eq__ cd_Bare___eq__ ct_Bare___eq__), sl_Bare___eq__⟩)
    (hc_Bare___eq__ : PySem.W.codeIn K cd_Bare___eq__ "Bare.__eq__" = true)
    (hk_Bare___eq__ : PySem.W.keepIn K (.ref v_Bare___eq__) = true)
    (hl_Web___init__ : K.lookup v_Web___init__ = some ⟨oc_Web___init__, od_Web___init__, .func (PySem.W.fnOf "__init__" "Web.__init__" (defArgs s_Web___init__) (defBody s_Web___init__) (defScope s_Web___init__) .none kV_Web___init__ dc_Web___init__ pm_Web___init__ an_Web___init__ cd_Web___init__ ct_Web___init__), sl_Web___init__⟩)
    (hc_Web___init__ : PySem.W.codeIn K cd_Web___init__ "Web.__init__" = true)
    (hk_Web___init__ : PySem.W.keepIn K (.ref v_Web___init__) = true)
    (hl_Web___len__ : K.lookup v_Web___len__ = some ⟨oc_Web___len__, od_Web___len__, .func (PySem.W.fnOf "__len__" "Web.__len__" (defArgs s_Web___len__) (defBody s_Web___len__) (defScope s_Web___len__) .none kV_Web___len__ dc_Web___len__ pm_Web___len__ an_Web___len__ cd_Web___len__ ct_Web___len__), sl_Web___len__⟩)
    (hc_Web___len__ : PySem.W.codeIn K cd_Web___len__ "Web.__len__" = true)
    (hk_Web___len__ : PySem.W.keepIn K (.ref v_Web___len__) = true)
    (hl_Web___iter__ : K.lookup v_Web___iter__ = some ⟨oc_Web___iter__, od_Web___iter__, .func (PySem.W.fnOf "__iter__" "Web.__iter__" (defArgs s_Web___iter__) (defBody s_Web___iter__) (defScope s_Web___iter__) .none kV_Web___iter__ dc_Web___iter__ pm_Web___iter__ an_Web___iter__ cd_Web___iter__ ct_Web___iter__), sl_Web___iter__⟩)
    (hc_Web___iter__ : PySem.W.codeIn K cd_Web___iter__ "Web.__iter__" = true)
    (hk_Web___iter__ : PySem.W.keepIn K (.ref v_Web___iter__) = true)
    (hl_Web___eq__ : K.lookup v_Web___eq__ = some ⟨oc_Web___eq__, od_Web___eq__, .func (PySem.W.fnOf "__eq__" "Web.__eq__" (defArgs s_Web___eq__) (defBody s_Web___eq__) (defScope s_Web___eq__) .none kV_Web___eq__ dc_Web___eq__ pm_Web___eq__ an_Web___eq__ cd_Web___eq__ ct_Web___eq__), sl_Web___eq__⟩)
    (hc_Web___eq__ : PySem.W.codeIn K cd_Web___eq__ "Web.__eq__" = true)
    (hk_Web___eq__ : PySem.W.keepIn K (.ref v_Web___eq__) = true)
    (hm_MOST_WIDTH : PySem.W.nsIn K mainGlobals "MOST_WIDTH" = some (some (.int 12 t_MOST_WIDTH)))
    (hm_MOST_NUMBER : PySem.W.nsIn K mainGlobals "MOST_NUMBER" = some (some (.int 4095 t_MOST_NUMBER)))
    (hm_TABLE_SIZES : PySem.W.nsIn K mainGlobals "TABLE_SIZES" = some (some (.ref p_TABLE_SIZES)))
    (tl_TABLE_SIZES : K.lookup p_TABLE_SIZES = some ⟨.type "tuple", d_TABLE_SIZES, .seq i_TABLE_SIZES n_TABLE_SIZES, s_TABLE_SIZES⟩)
    (ti_TABLE_SIZES : valsB [.int 1, .int 2, .int 4, .int 8, .int 16] i_TABLE_SIZES.toList = true)
    (tz_TABLE_SIZES : decide (i_TABLE_SIZES.size ≤ 1000) = true)
    (hm_PAIR_SIGNS : PySem.W.nsIn K mainGlobals "PAIR_SIGNS" = some (some (.ref p_PAIR_SIGNS)))
    (tl_PAIR_SIGNS : K.lookup p_PAIR_SIGNS = some ⟨.type "tuple", d_PAIR_SIGNS, .seq i_PAIR_SIGNS n_PAIR_SIGNS, s_PAIR_SIGNS⟩)
    (ti_PAIR_SIGNS : valsB [.str "+", .str "-", .str "*", .str "&", .str "|", .str "^", .str "==", .str "<"] i_PAIR_SIGNS.toList = true)
    (tz_PAIR_SIGNS : decide (i_PAIR_SIGNS.size ≤ 1000) = true)
    (hm_SHIFT_SIGNS : PySem.W.nsIn K mainGlobals "SHIFT_SIGNS" = some (some (.ref p_SHIFT_SIGNS)))
    (tl_SHIFT_SIGNS : K.lookup p_SHIFT_SIGNS = some ⟨.type "tuple", d_SHIFT_SIGNS, .seq i_SHIFT_SIGNS n_SHIFT_SIGNS, s_SHIFT_SIGNS⟩)
    (ti_SHIFT_SIGNS : valsB [.str "<<", .str ">>"] i_SHIFT_SIGNS.toList = true)
    (tz_SHIFT_SIGNS : decide (i_SHIFT_SIGNS.size ≤ 1000) = true)
    (hm_MOST_PLACES : PySem.W.nsIn K mainGlobals "MOST_PLACES" = some (some (.int 200 t_MOST_PLACES)))
    (hm_MOST_GIVEN : PySem.W.nsIn K mainGlobals "MOST_GIVEN" = some (some (.int 6 t_MOST_GIVEN)))
    (hm_OPERAND_ENDS : PySem.W.nsIn K mainGlobals "OPERAND_ENDS" = some (some (.ref p_OPERAND_ENDS)))
    (dl_OPERAND_ENDS : K.lookup p_OPERAND_ENDS = some ⟨.type "dict", none, .dict des_OPERAND_ENDS dn_OPERAND_ENDS, #[]⟩)
    (hz_ValueError : PySem.W.nsIn K mainGlobals "ValueError" = some none)
    (hz_abs : PySem.W.nsIn K mainGlobals "abs" = some none)
    (hz_all : PySem.W.nsIn K mainGlobals "all" = some none)
    (hz_any : PySem.W.nsIn K mainGlobals "any" = some none)
    (hz_bool : PySem.W.nsIn K mainGlobals "bool" = some none)
    (hz_enumerate : PySem.W.nsIn K mainGlobals "enumerate" = some none)
    (hz_int : PySem.W.nsIn K mainGlobals "int" = some none)
    (hz_isinstance : PySem.W.nsIn K mainGlobals "isinstance" = some none)
    (hz_iter : PySem.W.nsIn K mainGlobals "iter" = some none)
    (hz_len : PySem.W.nsIn K mainGlobals "len" = some none)
    (hz_list : PySem.W.nsIn K mainGlobals "list" = some none)
    (hz_range : PySem.W.nsIn K mainGlobals "range" = some none)
    (hz_set : PySem.W.nsIn K mainGlobals "set" = some none)
    (hz_sorted : PySem.W.nsIn K mainGlobals "sorted" = some none)
    (hz_str : PySem.W.nsIn K mainGlobals "str" = some none)
    (hz_tuple : PySem.W.nsIn K mainGlobals "tuple" = some none)
    (hm_UndoError : PySem.W.nsIn K mainGlobals "UndoError" = some (some (.ref u_c_UndoError)))
    (yc_mk_Step : PySem.W.makesIn K w_Step = true)
    (yc_fn_Step : PySem.W.isFn K (.ref v_Step___init__) = true)
    (yc_kp_Step : PySem.W.keepIn K (.ref w_Step) = true)
    (yc_pg_Step : PySem.W.plainGet K w_Step Str.empty = true)
    (yc_hd_Step : PySem.W.hasDictIn K w_Step = true)
    (yc_po_Step : PySem.W.plainOver K w_Step = true)
    (yc_sa_Step : PySem.W.findIn K (.ref w_Step) "__setattr__" = some (some (.builtin "object.__setattr__")))
    (yc_ha_Step : PySem.W.findIn K (.ref w_Step) "__class__" = some (some (.builtin "object.__class__")))
    (yc_hm_Step : PySem.W.mroIn K w_Step (.type "object") = some true)
    (yc_me_Step : PySem.W.kitOne K (.ref w_Step) (.ref w_Step) = some true)
    (yc_mk_Bare : PySem.W.makesIn K w_Bare = true)
    (yc_fn_Bare : PySem.W.isFn K (.ref v_Bare___init__) = true)
    (yc_kp_Bare : PySem.W.keepIn K (.ref w_Bare) = true)
    (yc_pg_Bare : PySem.W.plainGet K w_Bare Str.empty = true)
    (yc_hd_Bare : PySem.W.hasDictIn K w_Bare = true)
    (yc_po_Bare : PySem.W.plainOver K w_Bare = true)
    (yc_sa_Bare : PySem.W.findIn K (.ref w_Bare) "__setattr__" = some (some (.builtin "object.__setattr__")))
    (yc_ha_Bare : PySem.W.findIn K (.ref w_Bare) "__class__" = some (some (.builtin "object.__class__")))
    (yc_hm_Bare : PySem.W.mroIn K w_Bare (.type "object") = some true)
    (yc_me_Bare : PySem.W.kitOne K (.ref w_Bare) (.ref w_Bare) = some true)
    (yc_mk_Web : PySem.W.makesIn K w_Web = true)
    (yc_fn_Web : PySem.W.isFn K (.ref v_Web___init__) = true)
    (yc_kp_Web : PySem.W.keepIn K (.ref w_Web) = true)
    (yc_pg_Web : PySem.W.plainGet K w_Web Str.empty = true)
    (yc_hd_Web : PySem.W.hasDictIn K w_Web = true)
    (yc_po_Web : PySem.W.plainOver K w_Web = true)
    (yc_sa_Web : PySem.W.findIn K (.ref w_Web) "__setattr__" = some (some (.builtin "object.__setattr__")))
    (yc_ha_Web : PySem.W.findIn K (.ref w_Web) "__class__" = some (some (.builtin "object.__class__")))
    (yc_hm_Web : PySem.W.mroIn K w_Web (.type "object") = some true)
    (yc_me_Web : PySem.W.kitOne K (.ref w_Web) (.ref w_Web) = some true)
    (yc_hn : PySem.W.specialIn K (.builtin "object.__class__") "__get__" = some (some (.builtin "getset_descriptor.__get__")))
    (yc_ht : PySem.W.takesIn K (.builtin "object.__class__") = some true)
    (hfn_Step___eq__ : PySem.W.isFn K (.ref v_Step___eq__) = true)
    (hne_Step : PySem.W.findIn K (.ref w_Step) "__ne__" = some (some (.builtin "object.__ne__")))
    (hna_Step_kind : PySem.W.findIn K (.ref w_Step) "kind" = some none)
    (hna_Step_operands : PySem.W.findIn K (.ref w_Step) "operands" = some none)
    (hna_Step_befores : PySem.W.findIn K (.ref w_Step) "befores" = some none)
    (hfn_Bare___len__ : PySem.W.isFn K (.ref v_Bare___len__) = true)
    (hfn_Bare___eq__ : PySem.W.isFn K (.ref v_Bare___eq__) = true)
    (hne_Bare : PySem.W.findIn K (.ref w_Bare) "__ne__" = some (some (.builtin "object.__ne__")))
    (hna_Bare_befores : PySem.W.findIn K (.ref w_Bare) "befores" = some none)
    (hna_Bare_end : PySem.W.findIn K (.ref w_Bare) "end" = some none)
    (hna_Bare_afters : PySem.W.findIn K (.ref w_Bare) "afters" = some none)
    (hna_Bare_ordered : PySem.W.findIn K (.ref w_Bare) "ordered" = some none)
    (hna_Bare_needs : PySem.W.findIn K (.ref w_Bare) "needs" = some none)
    (hfn_Web___len__ : PySem.W.isFn K (.ref v_Web___len__) = true)
    (hfn_Web___iter__ : PySem.W.isFn K (.ref v_Web___iter__) = true)
    (hfn_Web___eq__ : PySem.W.isFn K (.ref v_Web___eq__) = true)
    (hne_Web : PySem.W.findIn K (.ref w_Web) "__ne__" = some (some (.builtin "object.__ne__")))
    (hna_Web_width : PySem.W.findIn K (.ref w_Web) "width" = some none)
    (hna_Web_many : PySem.W.findIn K (.ref w_Web) "many" = some none)
    (hna_Web_steps : PySem.W.findIn K (.ref w_Web) "steps" = some none)
    (hna_Web_end : PySem.W.findIn K (.ref w_Web) "end" = some none)
    (hna_Web_bare : PySem.W.findIn K (.ref w_Web) "bare" = some none)
    (ve_g : PySem.W.findIn K (.ref w_BadStep) "__getattribute__" = some (some (.builtin "BaseException.__getattribute__")))
    (ve_k : PySem.W.findIn K (.ref w_BadStep) "__getattr__" = some none)
    (ve_d : PySem.W.hasDictIn K w_BadStep = true)
    (ve_a : PySem.W.findIn K (.ref w_BadStep) "__class__" = some (some (.builtin "object.__class__")))
    (ve_m : PySem.W.mroIn K w_BadStep (.type "object") = some true)
    (vk_u : PySem.W.kitOne K (.ref w_BadStep) (.ref u_c_UndoError) = some true)
    (vk_v : PySem.W.kitOne K (.ref w_BadStep) (.type "ValueError") = some true)
    (vk_w : PySem.W.kitOne K (.ref w_BadStep) (.ref w_BadWeb) = some false)
    (vi_n : PySem.W.kitOne K (.type "NoneType") (.ref w_Step) = some false)
    (vi_i : PySem.W.kitOne K (.type "int") (.ref w_Step) = some false)
    (vi_s : PySem.W.kitOne K (.type "str") (.ref w_Step) = some false)
    (dt_reached_along : K.lookup T_reached_along = some ⟨.type "tuple", e_reached_along, .seq j_reached_along n_reached_along, r_reached_along⟩)
    (dh_0 : PySem.W.nsIn K p_OPERAND_ENDS "place" = some (some (.int 199 tk_0)))
    (dh_1 : PySem.W.nsIn K p_OPERAND_ENDS "given" = some (some (.int 5 tk_1)))
    (dh_2 : PySem.W.nsIn K p_OPERAND_ENDS "number" = some (some (.int 4095 tk_2)))
    (dh_3 : PySem.W.nsIn K p_OPERAND_ENDS "word" = some none)
    (ti_reached_along : valsB [V.int 0] j_reached_along.toList = true)
    (dk_OPERAND_ENDS : PySem.W.KeysLit w.params des_OPERAND_ENDS.toList)
    (do_OPERAND_ENDS : (p_OPERAND_ENDS == sysModules) = false) :
    ∃ fd : FuncData, (∀ (s : Shared) (u : Value), BindsTo s fd ⟨[u], []⟩ [("_law_script", u)]) ∧ ∀ base : Heap, K.In base → base.Ns mainGlobals mg → FnOk P w K mg base CX0 13 fa fd ["_law_script"] (spLaw K) := by
  have e := hfa.symm.trans (PySem.W.mg_of X G hm_law)
  cases e
  have F_is_whole := fun_mk (st := s_is_whole) hl_is_whole hc_is_whole hk_is_whole
  have b_is_whole := F_is_whole.binds (ps := ["thing"]) fun _ _ _ _ _ _ us hl => match us, hl with | [_], _ => rfl
  have F_is_within := fun_mk (st := s_is_within) hl_is_within hc_is_within hk_is_within
  have b_is_within := F_is_within.binds (ps := ["thing", "least", "most"]) fun _ _ _ _ _ _ us hl => match us, hl with | [_, _, _], _ => rfl
  have F_is_sequence := fun_mk (st := s_is_sequence) hl_is_sequence hc_is_sequence hk_is_sequence
  have b_is_sequence := F_is_sequence.binds (ps := ["thing"]) fun _ _ _ _ _ _ us hl => match us, hl with | [_], _ => rfl
  have F_mask_of := fun_mk (st := s_mask_of) hl_mask_of hc_mask_of hk_mask_of
  have b_mask_of := F_mask_of.binds (ps := ["places"]) fun _ _ _ _ _ _ us hl => match us, hl with | [_], _ => rfl
  have F_check_inputs := fun_mk (st := s_check_inputs) hl_check_inputs hc_check_inputs hk_check_inputs
  have b_check_inputs := F_check_inputs.binds (ps := ["inputs", "many", "width"]) fun _ _ _ _ _ _ us hl => match us, hl with | [_, _, _], _ => rfl
  have F_is_number := fun_mk (st := s_is_number) hl_is_number hc_is_number hk_is_number
  have b_is_number := F_is_number.binds (ps := ["thing"]) fun _ _ _ _ _ _ us hl => match us, hl with | [_], _ => rfl
  have F_is_table := fun_mk (st := s_is_table) hl_is_table hc_is_table hk_is_table
  have b_is_table := F_is_table.binds (ps := ["numbers"]) fun _ _ _ _ _ _ us hl => match us, hl with | [_], _ => rfl
  have F_check_kind := fun_mk (st := s_check_kind) hl_check_kind hc_check_kind hk_check_kind
  have b_check_kind := F_check_kind.binds (ps := ["kind"]) fun _ _ _ _ _ _ us hl => match us, hl with | [_], _ => rfl
  have F_operand_count := fun_mk (st := s_operand_count) hl_operand_count hc_operand_count hk_operand_count
  have b_operand_count := F_operand_count.binds (ps := ["kind"]) fun _ _ _ _ _ _ us hl => match us, hl with | [_], _ => rfl
  have F_step_word := fun_mk (st := s_step_word) hl_step_word hc_step_word hk_step_word
  have b_step_word := F_step_word.binds (ps := ["kind", "words", "width"]) fun _ _ _ _ _ _ us hl => match us, hl with | [_, _, _], _ => rfl
  have F_pair_word := fun_mk (st := s_pair_word) hl_pair_word hc_pair_word hk_pair_word
  have b_pair_word := F_pair_word.binds (ps := ["sign", "one", "other"]) fun _ _ _ _ _ _ us hl => match us, hl with | [_, _, _], _ => rfl
  have F_single_word := fun_mk (st := s_single_word) hl_single_word hc_single_word hk_single_word
  have b_single_word := F_single_word.binds (ps := ["kind", "word"]) fun _ _ _ _ _ _ us hl => match us, hl with | [_, _], _ => rfl
  have F_is_operand := fun_mk (st := s_is_operand) hl_is_operand hc_is_operand hk_is_operand
  have b_is_operand := F_is_operand.binds (ps := ["thing"]) fun _ _ _ _ _ _ us hl => match us, hl with | [_], _ => rfl
  have F_checked_kind := fun_mk (st := s_checked_kind) hl_checked_kind hc_checked_kind hk_checked_kind
  have b_checked_kind := F_checked_kind.binds (ps := ["kind"]) fun _ _ _ _ _ _ us hl => match us, hl with | [_], _ => rfl
  have F_checked_operands := fun_mk (st := s_checked_operands) hl_checked_operands hc_checked_operands hk_checked_operands
  have b_checked_operands := F_checked_operands.binds (ps := ["kind", "operands"]) fun _ _ _ _ _ _ us hl => match us, hl with | [_, _], _ => rfl
  have F_is_place := fun_mk (st := s_is_place) hl_is_place hc_is_place hk_is_place
  have b_is_place := F_is_place.binds (ps := ["bare", "thing"]) fun _ _ _ _ _ _ us hl => match us, hl with | [_, _], _ => rfl
  have F_is_before_list := fun_mk (st := s_is_before_list) hl_is_before_list hc_is_before_list hk_is_before_list
  have b_is_before_list := F_is_before_list.binds (ps := ["thing", "place", "many"]) fun _ _ _ _ _ _ us hl => match us, hl with | [_, _, _], _ => rfl
  have F_checked_befores := fun_mk (st := s_checked_befores) hl_checked_befores hc_checked_befores hk_checked_befores
  have b_checked_befores := F_checked_befores.binds (ps := ["befores"]) fun _ _ _ _ _ _ us hl => match us, hl with | [_], _ => rfl
  have F_afters_of := fun_mk (st := s_afters_of) hl_afters_of hc_afters_of hk_afters_of
  have b_afters_of := F_afters_of.binds (ps := ["befores"]) fun _ _ _ _ _ _ us hl => match us, hl with | [_], _ => rfl
  have F_ordered_of := fun_mk (st := s_ordered_of) hl_ordered_of hc_ordered_of hk_ordered_of
  have b_ordered_of := F_ordered_of.binds (ps := ["befores", "afters"]) fun _ _ _ _ _ _ us hl => match us, hl with | [_, _], _ => rfl
  have F_reached_along : FunD K "reached_along" "reached_along" (defArgs s_reached_along) (defBody s_reached_along) (defScope s_reached_along) [V.int 0] [] v_reached_along (PySem.W.fnOf "reached_along" "reached_along" (defArgs s_reached_along) (defBody s_reached_along) (defScope s_reached_along) (.ref T_reached_along) kV_reached_along dc_reached_along pm_reached_along an_reached_along cd_reached_along ct_reached_along) := ⟨⟨_, _, _, _, _, _, _, _, _, _, rfl, hl_reached_along, hc_reached_along, .inr ⟨by simp, T_reached_along, _, j_reached_along.toList, n_reached_along, rfl, dt_reached_along, by simp, valsB_ok ti_reached_along⟩, .inl rfl⟩, hk_reached_along⟩
  have b_reached_along : ∃ ds, Vals [V.int 0] ds ∧ Binds K (PySem.W.fnOf "reached_along" "reached_along" (defArgs s_reached_along) (defBody s_reached_along) (defScope s_reached_along) (.ref T_reached_along) kV_reached_along dc_reached_along pm_reached_along an_reached_along cd_reached_along ct_reached_along) ["arrows", "place", "barred"] ds := FunD.binds1 (ps := ["arrows", "place", "barred"]) F_reached_along 2 0 (by simp) rfl fun T kV doc pm an cdv ct us its h1 h2 => match us, its, h1, h2 with | [_, _], [_], _, _ => ⟨_, rfl, rfl⟩
  have F_check_rings := fun_mk (st := s_check_rings) hl_check_rings hc_check_rings hk_check_rings
  have b_check_rings := F_check_rings.binds (ps := ["befores"]) fun _ _ _ _ _ _ us hl => match us, hl with | [_], _ => rfl
  have F_check_roads := fun_mk (st := s_check_roads) hl_check_roads hc_check_roads hk_check_roads
  have b_check_roads := F_check_roads.binds (ps := ["befores", "end"]) fun _ _ _ _ _ _ us hl => match us, hl with | [_, _], _ => rfl
  have F_check_shape := fun_mk (st := s_check_shape) hl_check_shape hc_check_shape hk_check_shape
  have b_check_shape := F_check_shape.binds (ps := ["width", "many", "steps"]) fun _ _ _ _ _ _ us hl => match us, hl with | [_, _, _], _ => rfl
  have F_check_steps := fun_mk (st := s_check_steps) hl_check_steps hc_check_steps hk_check_steps
  have b_check_steps := F_check_steps.binds (ps := ["steps", "many"]) fun _ _ _ _ _ _ us hl => match us, hl with | [_, _], _ => rfl
  have F_check_idle := fun_mk (st := s_check_idle) hl_check_idle hc_check_idle hk_check_idle
  have b_check_idle := F_check_idle.binds (ps := ["steps"]) fun _ _ _ _ _ _ us hl => match us, hl with | [_], _ => rfl
  have F_operand_word := fun_mk (st := s_operand_word) hl_operand_word hc_operand_word hk_operand_word
  have b_operand_word := F_operand_word.binds (ps := ["operand", "words", "inputs", "width"]) fun _ _ _ _ _ _ us hl => match us, hl with | [_, _, _, _], _ => rfl
  have F_word_over := fun_mk (st := s_word_over) hl_word_over hc_word_over hk_word_over
  have b_word_over := F_word_over.binds (ps := ["step", "words", "inputs", "width"]) fun _ _ _ _ _ _ us hl => match us, hl with | [_, _, _, _], _ => rfl
  have F_web_worths := fun_mk (st := s_web_worths) hl_web_worths hc_web_worths hk_web_worths
  have b_web_worths := F_web_worths.binds (ps := ["web", "inputs"]) fun _ _ _ _ _ _ us hl => match us, hl with | [_, _], _ => rfl
  have F_web_worth := fun_mk (st := s_web_worth) hl_web_worth hc_web_worth hk_web_worth
  have b_web_worth := F_web_worth.binds (ps := ["web", "inputs"]) fun _ _ _ _ _ _ us hl => match us, hl with | [_, _], _ => rfl
  have F_law_hand := fun_mk (st := s_law_hand) hl_law_hand hc_law_hand hk_law_hand
  have b_law_hand := F_law_hand.binds (ps := ["_law_script"]) fun _ _ _ _ _ _ us hl => match us, hl with | [_], _ => rfl
  have F_law_mixed := fun_mk (st := s_law_mixed) hl_law_mixed hc_law_mixed hk_law_mixed
  have b_law_mixed := F_law_mixed.binds (ps := ["_law_number", "_law_turn"]) fun _ _ _ _ _ _ us hl => match us, hl with | [_, _], _ => rfl
  have F_law_take := fun_mk (st := s_law_take) hl_law_take hc_law_take hk_law_take
  have b_law_take := F_law_take.binds (ps := ["_law_hand_here", "_law_many"]) fun _ _ _ _ _ _ us hl => match us, hl with | [_, _], _ => rfl
  have F_law_whole := fun_mk (st := s_law_whole) hl_law_whole hc_law_whole hk_law_whole
  have b_law_whole := F_law_whole.binds (ps := ["_law_thing"]) fun _ _ _ _ _ _ us hl => match us, hl with | [_], _ => rfl
  have F_law_two := fun_mk (st := s_law_two) hl_law_two hc_law_two hk_law_two
  have b_law_two := F_law_two.binds (ps := ["_law_n"]) fun _ _ _ _ _ _ us hl => match us, hl with | [_], _ => rfl
  have F_law_kind := fun_mk (st := s_law_kind) hl_law_kind hc_law_kind hk_law_kind
  have b_law_kind := F_law_kind.binds (ps := ["_law_hand_here"]) fun _ _ _ _ _ _ us hl => match us, hl with | [_], _ => rfl
  have F_law_operands := fun_mk (st := s_law_operands) hl_law_operands hc_law_operands hk_law_operands
  have b_law_operands := F_law_operands.binds (ps := ["_law_kind_here"]) fun _ _ _ _ _ _ us hl => match us, hl with | [_], _ => rfl
  have F_law_bits := fun_mk (st := s_law_bits) hl_law_bits hc_law_bits hk_law_bits
  have b_law_bits := F_law_bits.binds (ps := ["_law_one", "_law_other", "_law_sign"]) fun _ _ _ _ _ _ us hl => match us, hl with | [_, _, _], _ => rfl
  have F_law_step_word := fun_mk (st := s_law_step_word) hl_law_step_word hc_law_step_word hk_law_step_word
  have b_law_step_word := F_law_step_word.binds (ps := ["_law_kind_here", "_law_words_here", "_law_width"]) fun _ _ _ _ _ _ us hl => match us, hl with | [_, _, _], _ => rfl
  have F_law_under := fun_mk (st := s_law_under) hl_law_under hc_law_under hk_law_under
  have b_law_under := F_law_under.binds (ps := ["_law_befores", "_law_place"]) fun _ _ _ _ _ _ us hl => match us, hl with | [_, _], _ => rfl
  have F_law_operand := fun_mk (st := s_law_operand) hl_law_operand hc_law_operand hk_law_operand
  have b_law_operand := F_law_operand.binds (ps := ["_law_hand_here", "_law_place", "_law_many"]) fun _ _ _ _ _ _ us hl => match us, hl with | [_, _, _], _ => rfl
  have F_law_web_words := fun_mk (st := s_law_web_words) hl_law_web_words hc_law_web_words hk_law_web_words
  have b_law_web_words := F_law_web_words.binds (ps := ["_law_steps", "_law_width", "_law_inputs"]) fun _ _ _ _ _ _ us hl => match us, hl with | [_, _, _], _ => rfl
  have F_law_web_befores := fun_mk (st := s_law_web_befores) hl_law_web_befores hc_law_web_befores hk_law_web_befores
  have b_law_web_befores := F_law_web_befores.binds (ps := ["_law_steps"]) fun _ _ _ _ _ _ us hl => match us, hl with | [_], _ => rfl
  have F_law_words := fun_mk (st := s_law_words) hl_law_words hc_law_words hk_law_words
  have b_law_words := F_law_words.binds (ps := ["_law_hand_here", "_law_many", "_law_width"]) fun _ _ _ _ _ _ us hl => match us, hl with | [_, _, _], _ => rfl
  have F_law_either := fun_mk (st := s_law_either) hl_law_either hc_law_either hk_law_either
  have b_law_either := F_law_either.binds (ps := ["_law_hand_here", "_law_things"]) fun _ _ _ _ _ _ us hl => match us, hl with | [_, _], _ => rfl
  have F_law_pick := fun_mk (st := s_law_pick) hl_law_pick hc_law_pick hk_law_pick
  have b_law_pick := F_law_pick.binds (ps := ["_law_hand_here", "_law_menu"]) fun _ _ _ _ _ _ us hl => match us, hl with | [_, _], _ => rfl
  have F_law_tuples := fun_mk (st := s_law_tuples) hl_law_tuples hc_law_tuples hk_law_tuples
  have b_law_tuples := F_law_tuples.binds (ps := ["_law_rows"]) fun _ _ _ _ _ _ us hl => match us, hl with | [_], _ => rfl
  have F_law_full_web := fun_mk (st := s_law_full_web) hl_law_full_web hc_law_full_web hk_law_full_web
  have b_law_full_web := F_law_full_web.binds (ps := ["_law_hand_here", "_law_many", "_law_steps"]) fun _ _ _ _ _ _ us hl => match us, hl with | [_, _, _], _ => rfl
  have F_law_alive := fun_mk (st := s_law_alive) hl_law_alive hc_law_alive hk_law_alive
  have b_law_alive := F_law_alive.binds (ps := ["_law_rows"]) fun _ _ _ _ _ _ us hl => match us, hl with | [_], _ => rfl
  have F_law_chain_steps := fun_mk (st := s_law_chain_steps) hl_law_chain_steps hc_law_chain_steps hk_law_chain_steps
  have b_law_chain_steps := F_law_chain_steps.binds (ps := ["_law_hand_here", "_law_many", "_law_steps"]) fun _ _ _ _ _ _ us hl => match us, hl with | [_, _, _], _ => rfl
  have F_law_drawn_steps := fun_mk (st := s_law_drawn_steps) hl_law_drawn_steps hc_law_drawn_steps hk_law_drawn_steps
  have b_law_drawn_steps := F_law_drawn_steps.binds (ps := ["_law_hand_here", "_law_many"]) fun _ _ _ _ _ _ us hl => match us, hl with | [_, _], _ => rfl
  have F_law_step_right := fun_mk (st := s_law_step_right) hl_law_step_right hc_law_step_right hk_law_step_right
  have b_law_step_right := F_law_step_right.binds (ps := ["_law_step", "_law_kind_here", "_law_operands_here"]) fun _ _ _ _ _ _ us hl => match us, hl with | [_, _, _], _ => rfl
  have F_law_step_refused := fun_mk (st := s_law_step_refused) hl_law_step_refused hc_law_step_refused hk_law_step_refused
  have b_law_step_refused := F_law_step_refused.binds (ps := ["_law_kind_here", "_law_operands_here"]) fun _ _ _ _ _ _ us hl => match us, hl with | [_, _], _ => rfl
  have F_law_odd_kind := fun_mk (st := s_law_odd_kind) hl_law_odd_kind hc_law_odd_kind hk_law_odd_kind
  have b_law_odd_kind := F_law_odd_kind.binds (ps := ["_law_hand_here"]) fun _ _ _ _ _ _ us hl => match us, hl with | [_], _ => rfl
  have F_law_odd_operand := fun_mk (st := s_law_odd_operand) hl_law_odd_operand hc_law_odd_operand hk_law_odd_operand
  have b_law_odd_operand := F_law_odd_operand.binds (ps := ["_law_hand_here"]) fun _ _ _ _ _ _ us hl => match us, hl with | [_], _ => rfl
  have F_law_odd_steps := fun_mk (st := s_law_odd_steps) hl_law_odd_steps hc_law_odd_steps hk_law_odd_steps
  have b_law_odd_steps := F_law_odd_steps.binds (ps := ["_law_hand_here", "_law_kind_here", "_law_operands_here"]) fun _ _ _ _ _ _ us hl => match us, hl with | [_, _, _], _ => rfl
  have F_law_web_due := fun_mk (st := s_law_web_due) hl_law_web_due hc_law_web_due hk_law_web_due
  have b_law_web_due := F_law_web_due.binds (ps := ["_law_width", "_law_many", "_law_rows"]) fun _ _ _ _ _ _ us hl => match us, hl with | [_, _, _], _ => rfl
  have F_law_spoilt_rows := fun_mk (st := s_law_spoilt_rows) hl_law_spoilt_rows hc_law_spoilt_rows hk_law_spoilt_rows
  have b_law_spoilt_rows := F_law_spoilt_rows.binds (ps := ["_law_hand_here", "_law_rows"]) fun _ _ _ _ _ _ us hl => match us, hl with | [_, _], _ => rfl
  have F_law_web_told := fun_mk (st := s_law_web_told) hl_law_web_told hc_law_web_told hk_law_web_told
  have b_law_web_told := F_law_web_told.binds (ps := ["_law_hand_here", "_law_width", "_law_many", "_law_rows"]) fun _ _ _ _ _ _ us hl => match us, hl with | [_, _, _, _], _ => rfl
  have F_law_web_right := fun_mk (st := s_law_web_right) hl_law_web_right hc_law_web_right hk_law_web_right
  have b_law_web_right := F_law_web_right.binds (ps := ["_law_made", "_law_width", "_law_many", "_law_rows"]) fun _ _ _ _ _ _ us hl => match us, hl with | [_, _, _, _], _ => rfl
  have F_law_inputs_told := fun_mk (st := s_law_inputs_told) hl_law_inputs_told hc_law_inputs_told hk_law_inputs_told
  have b_law_inputs_told := F_law_inputs_told.binds (ps := ["_law_made", "_law_inputs"]) fun _ _ _ _ _ _ us hl => match us, hl with | [_, _], _ => rfl
  have F_law_inputs_right := fun_mk (st := s_law_inputs_right) hl_law_inputs_right hc_law_inputs_right hk_law_inputs_right
  have b_law_inputs_right := F_law_inputs_right.binds (ps := ["_law_hand_here", "_law_made", "_law_width", "_law_many", "_law_rows"]) fun _ _ _ _ _ _ us hl => match us, hl with | [_, _, _, _, _], _ => rfl
  have F_law_case := fun_mk (st := s_law_case) hl_law_case hc_law_case hk_law_case
  have b_law_case := F_law_case.binds (ps := ["_law_hand_here"]) fun _ _ _ _ _ _ us hl => match us, hl with | [_], _ => rfl
  have F_law := fun_mk (st := s_law) hl_law hc_law hk_law
  have b_law := F_law.binds (ps := ["_law_script"]) fun _ _ _ _ _ _ us hl => match us, hl with | [_], _ => rfl
  have F_BadInputs___init__ := fun_mk (st := s_BadInputs___init__) hl_BadInputs___init__ hc_BadInputs___init__ hk_BadInputs___init__
  have b_BadInputs___init__ := F_BadInputs___init__.binds (ps := ["self", "index", "what"]) fun _ _ _ _ _ _ us hl => match us, hl with | [_, _, _], _ => rfl
  have F_BadWeb___init__ := fun_mk (st := s_BadWeb___init__) hl_BadWeb___init__ hc_BadWeb___init__ hk_BadWeb___init__
  have b_BadWeb___init__ := F_BadWeb___init__.binds (ps := ["self", "place", "what"]) fun _ _ _ _ _ _ us hl => match us, hl with | [_, _, _], _ => rfl
  have F_BadBare___init__ := fun_mk (st := s_BadBare___init__) hl_BadBare___init__ hc_BadBare___init__ hk_BadBare___init__
  have b_BadBare___init__ := F_BadBare___init__.binds (ps := ["self", "place", "what"]) fun _ _ _ _ _ _ us hl => match us, hl with | [_, _, _], _ => rfl
  have F_Step___init__ := fun_mk (st := s_Step___init__) hl_Step___init__ hc_Step___init__ hk_Step___init__
  have b_Step___init__ := F_Step___init__.binds (ps := ["self", "kind", "operands"]) fun _ _ _ _ _ _ us hl => match us, hl with | [_, _, _], _ => rfl
  have F_Step___eq__ := fun_mk (st := s_Step___eq__) hl_Step___eq__ hc_Step___eq__ hk_Step___eq__
  have b_Step___eq__ := F_Step___eq__.binds (ps := ["self", "other"]) fun _ _ _ _ _ _ us hl => match us, hl with | [_, _], _ => rfl
  have F_Bare___init__ := fun_mk (st := s_Bare___init__) hl_Bare___init__ hc_Bare___init__ hk_Bare___init__
  have b_Bare___init__ := F_Bare___init__.binds (ps := ["self", "befores", "end"]) fun _ _ _ _ _ _ us hl => match us, hl with | [_, _, _], _ => rfl
  have F_Bare___len__ := fun_mk (st := s_Bare___len__) hl_Bare___len__ hc_Bare___len__ hk_Bare___len__
  have b_Bare___len__ := F_Bare___len__.binds (ps := ["self"]) fun _ _ _ _ _ _ us hl => match us, hl with | [_], _ => rfl
  have F_Bare___eq__ := fun_mk (st := s_Bare___eq__) hl_Bare___eq__ hc_Bare___eq__ hk_Bare___eq__
  have b_Bare___eq__ := F_Bare___eq__.binds (ps := ["self", "other"]) fun _ _ _ _ _ _ us hl => match us, hl with | [_, _], _ => rfl
  have F_Web___init__ := fun_mk (st := s_Web___init__) hl_Web___init__ hc_Web___init__ hk_Web___init__
  have b_Web___init__ := F_Web___init__.binds (ps := ["self", "width", "many", "steps"]) fun _ _ _ _ _ _ us hl => match us, hl with | [_, _, _, _], _ => rfl
  have F_Web___len__ := fun_mk (st := s_Web___len__) hl_Web___len__ hc_Web___len__ hk_Web___len__
  have b_Web___len__ := F_Web___len__.binds (ps := ["self"]) fun _ _ _ _ _ _ us hl => match us, hl with | [_], _ => rfl
  have F_Web___iter__ := fun_mk (st := s_Web___iter__) hl_Web___iter__ hc_Web___iter__ hk_Web___iter__
  have b_Web___iter__ := F_Web___iter__.binds (ps := ["self"]) fun _ _ _ _ _ _ us hl => match us, hl with | [_], _ => rfl
  have F_Web___eq__ := fun_mk (st := s_Web___eq__) hl_Web___eq__ hc_Web___eq__ hk_Web___eq__
  have b_Web___eq__ := F_Web___eq__.binds (ps := ["self", "other"]) fun _ _ _ _ _ _ us hl => match us, hl with | [_, _], _ => rfl
  have T : Txt K mg ⟨v_is_whole, (PySem.W.fnOf "is_whole" "is_whole" (defArgs s_is_whole) (defBody s_is_whole) (defScope s_is_whole) .none kV_is_whole dc_is_whole pm_is_whole an_is_whole cd_is_whole ct_is_whole), v_is_within, (PySem.W.fnOf "is_within" "is_within" (defArgs s_is_within) (defBody s_is_within) (defScope s_is_within) .none kV_is_within dc_is_within pm_is_within an_is_within cd_is_within ct_is_within), v_is_sequence, (PySem.W.fnOf "is_sequence" "is_sequence" (defArgs s_is_sequence) (defBody s_is_sequence) (defScope s_is_sequence) .none kV_is_sequence dc_is_sequence pm_is_sequence an_is_sequence cd_is_sequence ct_is_sequence), v_mask_of, (PySem.W.fnOf "mask_of" "mask_of" (defArgs s_mask_of) (defBody s_mask_of) (defScope s_mask_of) .none kV_mask_of dc_mask_of pm_mask_of an_mask_of cd_mask_of ct_mask_of), v_check_inputs, (PySem.W.fnOf "check_inputs" "check_inputs" (defArgs s_check_inputs) (defBody s_check_inputs) (defScope s_check_inputs) .none kV_check_inputs dc_check_inputs pm_check_inputs an_check_inputs cd_check_inputs ct_check_inputs), v_is_number, (PySem.W.fnOf "is_number" "is_number" (defArgs s_is_number) (defBody s_is_number) (defScope s_is_number) .none kV_is_number dc_is_number pm_is_number an_is_number cd_is_number ct_is_number), v_is_table, (PySem.W.fnOf "is_table" "is_table" (defArgs s_is_table) (defBody s_is_table) (defScope s_is_table) .none kV_is_table dc_is_table pm_is_table an_is_table cd_is_table ct_is_table), v_check_kind, (PySem.W.fnOf "check_kind" "check_kind" (defArgs s_check_kind) (defBody s_check_kind) (defScope s_check_kind) .none kV_check_kind dc_check_kind pm_check_kind an_check_kind cd_check_kind ct_check_kind), v_operand_count, (PySem.W.fnOf "operand_count" "operand_count" (defArgs s_operand_count) (defBody s_operand_count) (defScope s_operand_count) .none kV_operand_count dc_operand_count pm_operand_count an_operand_count cd_operand_count ct_operand_count), v_step_word, (PySem.W.fnOf "step_word" "step_word" (defArgs s_step_word) (defBody s_step_word) (defScope s_step_word) .none kV_step_word dc_step_word pm_step_word an_step_word cd_step_word ct_step_word), v_pair_word, (PySem.W.fnOf "pair_word" "pair_word" (defArgs s_pair_word) (defBody s_pair_word) (defScope s_pair_word) .none kV_pair_word dc_pair_word pm_pair_word an_pair_word cd_pair_word ct_pair_word), v_single_word, (PySem.W.fnOf "single_word" "single_word" (defArgs s_single_word) (defBody s_single_word) (defScope s_single_word) .none kV_single_word dc_single_word pm_single_word an_single_word cd_single_word ct_single_word), v_is_operand, (PySem.W.fnOf "is_operand" "is_operand" (defArgs s_is_operand) (defBody s_is_operand) (defScope s_is_operand) .none kV_is_operand dc_is_operand pm_is_operand an_is_operand cd_is_operand ct_is_operand), v_checked_kind, (PySem.W.fnOf "checked_kind" "checked_kind" (defArgs s_checked_kind) (defBody s_checked_kind) (defScope s_checked_kind) .none kV_checked_kind dc_checked_kind pm_checked_kind an_checked_kind cd_checked_kind ct_checked_kind), v_checked_operands, (PySem.W.fnOf "checked_operands" "checked_operands" (defArgs s_checked_operands) (defBody s_checked_operands) (defScope s_checked_operands) .none kV_checked_operands dc_checked_operands pm_checked_operands an_checked_operands cd_checked_operands ct_checked_operands), v_is_place, (PySem.W.fnOf "is_place" "is_place" (defArgs s_is_place) (defBody s_is_place) (defScope s_is_place) .none kV_is_place dc_is_place pm_is_place an_is_place cd_is_place ct_is_place), v_is_before_list, (PySem.W.fnOf "is_before_list" "is_before_list" (defArgs s_is_before_list) (defBody s_is_before_list) (defScope s_is_before_list) .none kV_is_before_list dc_is_before_list pm_is_before_list an_is_before_list cd_is_before_list ct_is_before_list), v_checked_befores, (PySem.W.fnOf "checked_befores" "checked_befores" (defArgs s_checked_befores) (defBody s_checked_befores) (defScope s_checked_befores) .none kV_checked_befores dc_checked_befores pm_checked_befores an_checked_befores cd_checked_befores ct_checked_befores), v_afters_of, (PySem.W.fnOf "afters_of" "afters_of" (defArgs s_afters_of) (defBody s_afters_of) (defScope s_afters_of) .none kV_afters_of dc_afters_of pm_afters_of an_afters_of cd_afters_of ct_afters_of), v_ordered_of, (PySem.W.fnOf "ordered_of" "ordered_of" (defArgs s_ordered_of) (defBody s_ordered_of) (defScope s_ordered_of) .none kV_ordered_of dc_ordered_of pm_ordered_of an_ordered_of cd_ordered_of ct_ordered_of), v_reached_along, (PySem.W.fnOf "reached_along" "reached_along" (defArgs s_reached_along) (defBody s_reached_along) (defScope s_reached_along) (.ref T_reached_along) kV_reached_along dc_reached_along pm_reached_along an_reached_along cd_reached_along ct_reached_along), v_check_rings, (PySem.W.fnOf "check_rings" "check_rings" (defArgs s_check_rings) (defBody s_check_rings) (defScope s_check_rings) .none kV_check_rings dc_check_rings pm_check_rings an_check_rings cd_check_rings ct_check_rings), v_check_roads, (PySem.W.fnOf "check_roads" "check_roads" (defArgs s_check_roads) (defBody s_check_roads) (defScope s_check_roads) .none kV_check_roads dc_check_roads pm_check_roads an_check_roads cd_check_roads ct_check_roads), v_check_shape, (PySem.W.fnOf "check_shape" "check_shape" (defArgs s_check_shape) (defBody s_check_shape) (defScope s_check_shape) .none kV_check_shape dc_check_shape pm_check_shape an_check_shape cd_check_shape ct_check_shape), v_check_steps, (PySem.W.fnOf "check_steps" "check_steps" (defArgs s_check_steps) (defBody s_check_steps) (defScope s_check_steps) .none kV_check_steps dc_check_steps pm_check_steps an_check_steps cd_check_steps ct_check_steps), v_check_idle, (PySem.W.fnOf "check_idle" "check_idle" (defArgs s_check_idle) (defBody s_check_idle) (defScope s_check_idle) .none kV_check_idle dc_check_idle pm_check_idle an_check_idle cd_check_idle ct_check_idle), v_operand_word, (PySem.W.fnOf "operand_word" "operand_word" (defArgs s_operand_word) (defBody s_operand_word) (defScope s_operand_word) .none kV_operand_word dc_operand_word pm_operand_word an_operand_word cd_operand_word ct_operand_word), v_word_over, (PySem.W.fnOf "word_over" "word_over" (defArgs s_word_over) (defBody s_word_over) (defScope s_word_over) .none kV_word_over dc_word_over pm_word_over an_word_over cd_word_over ct_word_over), v_web_worths, (PySem.W.fnOf "web_worths" "web_worths" (defArgs s_web_worths) (defBody s_web_worths) (defScope s_web_worths) .none kV_web_worths dc_web_worths pm_web_worths an_web_worths cd_web_worths ct_web_worths), v_web_worth, (PySem.W.fnOf "web_worth" "web_worth" (defArgs s_web_worth) (defBody s_web_worth) (defScope s_web_worth) .none kV_web_worth dc_web_worth pm_web_worth an_web_worth cd_web_worth ct_web_worth), v_law_hand, (PySem.W.fnOf "_law_hand" "_law_hand" (defArgs s_law_hand) (defBody s_law_hand) (defScope s_law_hand) .none kV_law_hand dc_law_hand pm_law_hand an_law_hand cd_law_hand ct_law_hand), v_law_mixed, (PySem.W.fnOf "_law_mixed" "_law_mixed" (defArgs s_law_mixed) (defBody s_law_mixed) (defScope s_law_mixed) .none kV_law_mixed dc_law_mixed pm_law_mixed an_law_mixed cd_law_mixed ct_law_mixed), v_law_take, (PySem.W.fnOf "_law_take" "_law_take" (defArgs s_law_take) (defBody s_law_take) (defScope s_law_take) .none kV_law_take dc_law_take pm_law_take an_law_take cd_law_take ct_law_take), v_law_whole, (PySem.W.fnOf "_law_whole" "_law_whole" (defArgs s_law_whole) (defBody s_law_whole) (defScope s_law_whole) .none kV_law_whole dc_law_whole pm_law_whole an_law_whole cd_law_whole ct_law_whole), v_law_two, (PySem.W.fnOf "_law_two" "_law_two" (defArgs s_law_two) (defBody s_law_two) (defScope s_law_two) .none kV_law_two dc_law_two pm_law_two an_law_two cd_law_two ct_law_two), v_law_kind, (PySem.W.fnOf "_law_kind" "_law_kind" (defArgs s_law_kind) (defBody s_law_kind) (defScope s_law_kind) .none kV_law_kind dc_law_kind pm_law_kind an_law_kind cd_law_kind ct_law_kind), v_law_operands, (PySem.W.fnOf "_law_operands" "_law_operands" (defArgs s_law_operands) (defBody s_law_operands) (defScope s_law_operands) .none kV_law_operands dc_law_operands pm_law_operands an_law_operands cd_law_operands ct_law_operands), v_law_bits, (PySem.W.fnOf "_law_bits" "_law_bits" (defArgs s_law_bits) (defBody s_law_bits) (defScope s_law_bits) .none kV_law_bits dc_law_bits pm_law_bits an_law_bits cd_law_bits ct_law_bits), v_law_step_word, (PySem.W.fnOf "_law_step_word" "_law_step_word" (defArgs s_law_step_word) (defBody s_law_step_word) (defScope s_law_step_word) .none kV_law_step_word dc_law_step_word pm_law_step_word an_law_step_word cd_law_step_word ct_law_step_word), v_law_under, (PySem.W.fnOf "_law_under" "_law_under" (defArgs s_law_under) (defBody s_law_under) (defScope s_law_under) .none kV_law_under dc_law_under pm_law_under an_law_under cd_law_under ct_law_under), v_law_operand, (PySem.W.fnOf "_law_operand" "_law_operand" (defArgs s_law_operand) (defBody s_law_operand) (defScope s_law_operand) .none kV_law_operand dc_law_operand pm_law_operand an_law_operand cd_law_operand ct_law_operand), v_law_web_words, (PySem.W.fnOf "_law_web_words" "_law_web_words" (defArgs s_law_web_words) (defBody s_law_web_words) (defScope s_law_web_words) .none kV_law_web_words dc_law_web_words pm_law_web_words an_law_web_words cd_law_web_words ct_law_web_words), v_law_web_befores, (PySem.W.fnOf "_law_web_befores" "_law_web_befores" (defArgs s_law_web_befores) (defBody s_law_web_befores) (defScope s_law_web_befores) .none kV_law_web_befores dc_law_web_befores pm_law_web_befores an_law_web_befores cd_law_web_befores ct_law_web_befores), v_law_words, (PySem.W.fnOf "_law_words" "_law_words" (defArgs s_law_words) (defBody s_law_words) (defScope s_law_words) .none kV_law_words dc_law_words pm_law_words an_law_words cd_law_words ct_law_words), v_law_either, (PySem.W.fnOf "_law_either" "_law_either" (defArgs s_law_either) (defBody s_law_either) (defScope s_law_either) .none kV_law_either dc_law_either pm_law_either an_law_either cd_law_either ct_law_either), v_law_pick, (PySem.W.fnOf "_law_pick" "_law_pick" (defArgs s_law_pick) (defBody s_law_pick) (defScope s_law_pick) .none kV_law_pick dc_law_pick pm_law_pick an_law_pick cd_law_pick ct_law_pick), v_law_tuples, (PySem.W.fnOf "_law_tuples" "_law_tuples" (defArgs s_law_tuples) (defBody s_law_tuples) (defScope s_law_tuples) .none kV_law_tuples dc_law_tuples pm_law_tuples an_law_tuples cd_law_tuples ct_law_tuples), v_law_full_web, (PySem.W.fnOf "_law_full_web" "_law_full_web" (defArgs s_law_full_web) (defBody s_law_full_web) (defScope s_law_full_web) .none kV_law_full_web dc_law_full_web pm_law_full_web an_law_full_web cd_law_full_web ct_law_full_web), v_law_alive, (PySem.W.fnOf "_law_alive" "_law_alive" (defArgs s_law_alive) (defBody s_law_alive) (defScope s_law_alive) .none kV_law_alive dc_law_alive pm_law_alive an_law_alive cd_law_alive ct_law_alive), v_law_chain_steps, (PySem.W.fnOf "_law_chain_steps" "_law_chain_steps" (defArgs s_law_chain_steps) (defBody s_law_chain_steps) (defScope s_law_chain_steps) .none kV_law_chain_steps dc_law_chain_steps pm_law_chain_steps an_law_chain_steps cd_law_chain_steps ct_law_chain_steps), v_law_drawn_steps, (PySem.W.fnOf "_law_drawn_steps" "_law_drawn_steps" (defArgs s_law_drawn_steps) (defBody s_law_drawn_steps) (defScope s_law_drawn_steps) .none kV_law_drawn_steps dc_law_drawn_steps pm_law_drawn_steps an_law_drawn_steps cd_law_drawn_steps ct_law_drawn_steps), v_law_step_right, (PySem.W.fnOf "_law_step_right" "_law_step_right" (defArgs s_law_step_right) (defBody s_law_step_right) (defScope s_law_step_right) .none kV_law_step_right dc_law_step_right pm_law_step_right an_law_step_right cd_law_step_right ct_law_step_right), v_law_step_refused, (PySem.W.fnOf "_law_step_refused" "_law_step_refused" (defArgs s_law_step_refused) (defBody s_law_step_refused) (defScope s_law_step_refused) .none kV_law_step_refused dc_law_step_refused pm_law_step_refused an_law_step_refused cd_law_step_refused ct_law_step_refused), v_law_odd_kind, (PySem.W.fnOf "_law_odd_kind" "_law_odd_kind" (defArgs s_law_odd_kind) (defBody s_law_odd_kind) (defScope s_law_odd_kind) .none kV_law_odd_kind dc_law_odd_kind pm_law_odd_kind an_law_odd_kind cd_law_odd_kind ct_law_odd_kind), v_law_odd_operand, (PySem.W.fnOf "_law_odd_operand" "_law_odd_operand" (defArgs s_law_odd_operand) (defBody s_law_odd_operand) (defScope s_law_odd_operand) .none kV_law_odd_operand dc_law_odd_operand pm_law_odd_operand an_law_odd_operand cd_law_odd_operand ct_law_odd_operand), v_law_odd_steps, (PySem.W.fnOf "_law_odd_steps" "_law_odd_steps" (defArgs s_law_odd_steps) (defBody s_law_odd_steps) (defScope s_law_odd_steps) .none kV_law_odd_steps dc_law_odd_steps pm_law_odd_steps an_law_odd_steps cd_law_odd_steps ct_law_odd_steps), v_law_web_due, (PySem.W.fnOf "_law_web_due" "_law_web_due" (defArgs s_law_web_due) (defBody s_law_web_due) (defScope s_law_web_due) .none kV_law_web_due dc_law_web_due pm_law_web_due an_law_web_due cd_law_web_due ct_law_web_due), v_law_spoilt_rows, (PySem.W.fnOf "_law_spoilt_rows" "_law_spoilt_rows" (defArgs s_law_spoilt_rows) (defBody s_law_spoilt_rows) (defScope s_law_spoilt_rows) .none kV_law_spoilt_rows dc_law_spoilt_rows pm_law_spoilt_rows an_law_spoilt_rows cd_law_spoilt_rows ct_law_spoilt_rows), v_law_web_told, (PySem.W.fnOf "_law_web_told" "_law_web_told" (defArgs s_law_web_told) (defBody s_law_web_told) (defScope s_law_web_told) .none kV_law_web_told dc_law_web_told pm_law_web_told an_law_web_told cd_law_web_told ct_law_web_told), v_law_web_right, (PySem.W.fnOf "_law_web_right" "_law_web_right" (defArgs s_law_web_right) (defBody s_law_web_right) (defScope s_law_web_right) .none kV_law_web_right dc_law_web_right pm_law_web_right an_law_web_right cd_law_web_right ct_law_web_right), v_law_inputs_told, (PySem.W.fnOf "_law_inputs_told" "_law_inputs_told" (defArgs s_law_inputs_told) (defBody s_law_inputs_told) (defScope s_law_inputs_told) .none kV_law_inputs_told dc_law_inputs_told pm_law_inputs_told an_law_inputs_told cd_law_inputs_told ct_law_inputs_told), v_law_inputs_right, (PySem.W.fnOf "_law_inputs_right" "_law_inputs_right" (defArgs s_law_inputs_right) (defBody s_law_inputs_right) (defScope s_law_inputs_right) .none kV_law_inputs_right dc_law_inputs_right pm_law_inputs_right an_law_inputs_right cd_law_inputs_right ct_law_inputs_right), v_law_case, (PySem.W.fnOf "_law_case" "_law_case" (defArgs s_law_case) (defBody s_law_case) (defScope s_law_case) .none kV_law_case dc_law_case pm_law_case an_law_case cd_law_case ct_law_case), fa, (PySem.W.fnOf "law" "law" (defArgs s_law) (defBody s_law) (defScope s_law) .none kV_law dc_law pm_law an_law cd_law ct_law), u_c_UndoError, w_BadInputs, w_BadKind, w_BadStep, w_BadWeb, w_BadBare, w_Step, w_Bare, w_Web, v_BadInputs___init__, (PySem.W.fnOf "__init__" "BadInputs.__init__" (defArgs s_BadInputs___init__) (defBody s_BadInputs___init__) (defScope s_BadInputs___init__) .none kV_BadInputs___init__ dc_BadInputs___init__ pm_BadInputs___init__ an_BadInputs___init__ cd_BadInputs___init__ ct_BadInputs___init__), v_BadWeb___init__, (PySem.W.fnOf "__init__" "BadWeb.__init__" (defArgs s_BadWeb___init__) (defBody s_BadWeb___init__) (defScope s_BadWeb___init__) .none kV_BadWeb___init__ dc_BadWeb___init__ pm_BadWeb___init__ an_BadWeb___init__ cd_BadWeb___init__ ct_BadWeb___init__), v_BadBare___init__, (PySem.W.fnOf "__init__" "BadBare.__init__" (defArgs s_BadBare___init__) (defBody s_BadBare___init__) (defScope s_BadBare___init__) .none kV_BadBare___init__ dc_BadBare___init__ pm_BadBare___init__ an_BadBare___init__ cd_BadBare___init__ ct_BadBare___init__), v_Step___init__, (PySem.W.fnOf "__init__" "Step.__init__" (defArgs s_Step___init__) (defBody s_Step___init__) (defScope s_Step___init__) .none kV_Step___init__ dc_Step___init__ pm_Step___init__ an_Step___init__ cd_Step___init__ ct_Step___init__), v_Step___eq__, (PySem.W.fnOf "__eq__" "Step.__eq__" (defArgs s_Step___eq__) (defBody s_Step___eq__) (defScope s_Step___eq__) .none kV_Step___eq__ dc_Step___eq__ pm_Step___eq__ an_Step___eq__ cd_Step___eq__ ct_Step___eq__), v_Bare___init__, (PySem.W.fnOf "__init__" "Bare.__init__" (defArgs s_Bare___init__) (defBody s_Bare___init__) (defScope s_Bare___init__) .none kV_Bare___init__ dc_Bare___init__ pm_Bare___init__ an_Bare___init__ cd_Bare___init__ ct_Bare___init__), v_Bare___len__, (PySem.W.fnOf "__len__" "Bare.__len__" (defArgs s_Bare___len__) (defBody s_Bare___len__) (defScope s_Bare___len__) .none kV_Bare___len__ dc_Bare___len__ pm_Bare___len__ an_Bare___len__ cd_Bare___len__ ct_Bare___len__), v_Bare___eq__, (PySem.W.fnOf "__eq__" "Bare.__eq__" (defArgs s_Bare___eq__) (defBody s_Bare___eq__) (defScope s_Bare___eq__) .none kV_Bare___eq__ dc_Bare___eq__ pm_Bare___eq__ an_Bare___eq__ cd_Bare___eq__ ct_Bare___eq__), v_Web___init__, (PySem.W.fnOf "__init__" "Web.__init__" (defArgs s_Web___init__) (defBody s_Web___init__) (defScope s_Web___init__) .none kV_Web___init__ dc_Web___init__ pm_Web___init__ an_Web___init__ cd_Web___init__ ct_Web___init__), v_Web___len__, (PySem.W.fnOf "__len__" "Web.__len__" (defArgs s_Web___len__) (defBody s_Web___len__) (defScope s_Web___len__) .none kV_Web___len__ dc_Web___len__ pm_Web___len__ an_Web___len__ cd_Web___len__ ct_Web___len__), v_Web___iter__, (PySem.W.fnOf "__iter__" "Web.__iter__" (defArgs s_Web___iter__) (defBody s_Web___iter__) (defScope s_Web___iter__) .none kV_Web___iter__ dc_Web___iter__ pm_Web___iter__ an_Web___iter__ cd_Web___iter__ ct_Web___iter__), v_Web___eq__, (PySem.W.fnOf "__eq__" "Web.__eq__" (defArgs s_Web___eq__) (defBody s_Web___eq__) (defScope s_Web___eq__) .none kV_Web___eq__ dc_Web___eq__ pm_Web___eq__ an_Web___eq__ cd_Web___eq__ ct_Web___eq__), p_TABLE_SIZES, p_PAIR_SIGNS, p_SHIFT_SIGNS, p_OPERAND_ENDS⟩ := ⟨PySem.W.mg_of X G hm_is_whole, F_is_whole, b_is_whole, PySem.W.mg_of X G hm_is_within, F_is_within, b_is_within, PySem.W.mg_of X G hm_is_sequence, F_is_sequence, b_is_sequence, PySem.W.mg_of X G hm_mask_of, F_mask_of, b_mask_of, PySem.W.mg_of X G hm_check_inputs, F_check_inputs, b_check_inputs, PySem.W.mg_of X G hm_is_number, F_is_number, b_is_number, PySem.W.mg_of X G hm_is_table, F_is_table, b_is_table, PySem.W.mg_of X G hm_check_kind, F_check_kind, b_check_kind, PySem.W.mg_of X G hm_operand_count, F_operand_count, b_operand_count, PySem.W.mg_of X G hm_step_word, F_step_word, b_step_word, PySem.W.mg_of X G hm_pair_word, F_pair_word, b_pair_word, PySem.W.mg_of X G hm_single_word, F_single_word, b_single_word, PySem.W.mg_of X G hm_is_operand, F_is_operand, b_is_operand, PySem.W.mg_of X G hm_checked_kind, F_checked_kind, b_checked_kind, PySem.W.mg_of X G hm_checked_operands, F_checked_operands, b_checked_operands, PySem.W.mg_of X G hm_is_place, F_is_place, b_is_place, PySem.W.mg_of X G hm_is_before_list, F_is_before_list, b_is_before_list, PySem.W.mg_of X G hm_checked_befores, F_checked_befores, b_checked_befores, PySem.W.mg_of X G hm_afters_of, F_afters_of, b_afters_of, PySem.W.mg_of X G hm_ordered_of, F_ordered_of, b_ordered_of, PySem.W.mg_of X G hm_reached_along, F_reached_along, b_reached_along, PySem.W.mg_of X G hm_check_rings, F_check_rings, b_check_rings, PySem.W.mg_of X G hm_check_roads, F_check_roads, b_check_roads, PySem.W.mg_of X G hm_check_shape, F_check_shape, b_check_shape, PySem.W.mg_of X G hm_check_steps, F_check_steps, b_check_steps, PySem.W.mg_of X G hm_check_idle, F_check_idle, b_check_idle, PySem.W.mg_of X G hm_operand_word, F_operand_word, b_operand_word, PySem.W.mg_of X G hm_word_over, F_word_over, b_word_over, PySem.W.mg_of X G hm_web_worths, F_web_worths, b_web_worths, PySem.W.mg_of X G hm_web_worth, F_web_worth, b_web_worth, PySem.W.mg_of X G hm_law_hand, F_law_hand, b_law_hand, PySem.W.mg_of X G hm_law_mixed, F_law_mixed, b_law_mixed, PySem.W.mg_of X G hm_law_take, F_law_take, b_law_take, PySem.W.mg_of X G hm_law_whole, F_law_whole, b_law_whole, PySem.W.mg_of X G hm_law_two, F_law_two, b_law_two, PySem.W.mg_of X G hm_law_kind, F_law_kind, b_law_kind, PySem.W.mg_of X G hm_law_operands, F_law_operands, b_law_operands, PySem.W.mg_of X G hm_law_bits, F_law_bits, b_law_bits, PySem.W.mg_of X G hm_law_step_word, F_law_step_word, b_law_step_word, PySem.W.mg_of X G hm_law_under, F_law_under, b_law_under, PySem.W.mg_of X G hm_law_operand, F_law_operand, b_law_operand, PySem.W.mg_of X G hm_law_web_words, F_law_web_words, b_law_web_words, PySem.W.mg_of X G hm_law_web_befores, F_law_web_befores, b_law_web_befores, PySem.W.mg_of X G hm_law_words, F_law_words, b_law_words, PySem.W.mg_of X G hm_law_either, F_law_either, b_law_either, PySem.W.mg_of X G hm_law_pick, F_law_pick, b_law_pick, PySem.W.mg_of X G hm_law_tuples, F_law_tuples, b_law_tuples, PySem.W.mg_of X G hm_law_full_web, F_law_full_web, b_law_full_web, PySem.W.mg_of X G hm_law_alive, F_law_alive, b_law_alive, PySem.W.mg_of X G hm_law_chain_steps, F_law_chain_steps, b_law_chain_steps, PySem.W.mg_of X G hm_law_drawn_steps, F_law_drawn_steps, b_law_drawn_steps, PySem.W.mg_of X G hm_law_step_right, F_law_step_right, b_law_step_right, PySem.W.mg_of X G hm_law_step_refused, F_law_step_refused, b_law_step_refused, PySem.W.mg_of X G hm_law_odd_kind, F_law_odd_kind, b_law_odd_kind, PySem.W.mg_of X G hm_law_odd_operand, F_law_odd_operand, b_law_odd_operand, PySem.W.mg_of X G hm_law_odd_steps, F_law_odd_steps, b_law_odd_steps, PySem.W.mg_of X G hm_law_web_due, F_law_web_due, b_law_web_due, PySem.W.mg_of X G hm_law_spoilt_rows, F_law_spoilt_rows, b_law_spoilt_rows, PySem.W.mg_of X G hm_law_web_told, F_law_web_told, b_law_web_told, PySem.W.mg_of X G hm_law_web_right, F_law_web_right, b_law_web_right, PySem.W.mg_of X G hm_law_inputs_told, F_law_inputs_told, b_law_inputs_told, PySem.W.mg_of X G hm_law_inputs_right, F_law_inputs_right, b_law_inputs_right, PySem.W.mg_of X G hm_law_case, F_law_case, b_law_case, PySem.W.mg_of X G hm_law, F_law, b_law, PySem.W.mg_of X G hm_BadInputs, ⟨⟨_, _, _, _, _, _, _, _, _, _, _, _, _, _, _, xl_BadInputs, xv_BadInputs⟩, xs_BadInputs, xb_BadInputs, xy_BadInputs, xk_BadInputs⟩, ⟨xg_BadInputs, xh_BadInputs, xb_BadInputs, xd_BadInputs⟩, hxi_BadInputs, hxt_BadInputs, exm_self xb_BadInputs xc_BadInputs xy_BadInputs xz_BadInputs, hxn_BadInputs_index, hxn_BadInputs_what, F_BadInputs___init__, b_BadInputs___init__, PySem.W.mg_of X G hm_BadWeb, ⟨⟨_, _, _, _, _, _, _, _, _, _, _, _, _, _, _, xl_BadWeb, xv_BadWeb⟩, xs_BadWeb, xb_BadWeb, xy_BadWeb, xk_BadWeb⟩, ⟨xg_BadWeb, xh_BadWeb, xb_BadWeb, xd_BadWeb⟩, hxi_BadWeb, hxt_BadWeb, exm_self xb_BadWeb xc_BadWeb xy_BadWeb xz_BadWeb, hxn_BadWeb_place, hxn_BadWeb_what, F_BadWeb___init__, b_BadWeb___init__, PySem.W.mg_of X G hm_BadBare, ⟨⟨_, _, _, _, _, _, _, _, _, _, _, _, _, _, _, xl_BadBare, xv_BadBare⟩, xs_BadBare, xb_BadBare, xy_BadBare, xk_BadBare⟩, ⟨xg_BadBare, xh_BadBare, xb_BadBare, xd_BadBare⟩, hxi_BadBare, hxt_BadBare, exm_self xb_BadBare xc_BadBare xy_BadBare xz_BadBare, hxn_BadBare_place, hxn_BadBare_what, F_BadBare___init__, b_BadBare___init__, PySem.W.mg_of X G hm_Step, F_Step___init__, b_Step___init__, F_Step___eq__, b_Step___eq__, hat_Step___eq__, hfn_Step___eq__, ⟨yc_mk_Step, ya_Step, yc_fn_Step, yc_kp_Step⟩, ⟨⟨yc_pg_Step, yc_hd_Step, yc_po_Step, yc_sa_Step⟩, yc_ha_Step, yc_hn, yc_ht, yc_hm_Step, yc_me_Step⟩, hne_Step, hna_Step_kind, hna_Step_operands, hna_Step_befores, PySem.W.mg_of X G hm_Bare, F_Bare___init__, b_Bare___init__, F_Bare___len__, b_Bare___len__, hat_Bare___len__, hfn_Bare___len__, F_Bare___eq__, b_Bare___eq__, hat_Bare___eq__, hfn_Bare___eq__, ⟨yc_mk_Bare, ya_Bare, yc_fn_Bare, yc_kp_Bare⟩, ⟨⟨yc_pg_Bare, yc_hd_Bare, yc_po_Bare, yc_sa_Bare⟩, yc_ha_Bare, yc_hn, yc_ht, yc_hm_Bare, yc_me_Bare⟩, hne_Bare, hna_Bare_befores, hna_Bare_end, hna_Bare_afters, hna_Bare_ordered, hna_Bare_needs, PySem.W.mg_of X G hm_Web, F_Web___init__, b_Web___init__, F_Web___len__, b_Web___len__, hat_Web___len__, hfn_Web___len__, F_Web___iter__, b_Web___iter__, hat_Web___iter__, hfn_Web___iter__, F_Web___eq__, b_Web___eq__, hat_Web___eq__, hfn_Web___eq__, ⟨yc_mk_Web, ya_Web, yc_fn_Web, yc_kp_Web⟩, ⟨⟨yc_pg_Web, yc_hd_Web, yc_po_Web, yc_sa_Web⟩, yc_ha_Web, yc_hn, yc_ht, yc_hm_Web, yc_me_Web⟩, hne_Web, hna_Web_width, hna_Web_many, hna_Web_steps, hna_Web_end, hna_Web_bare, PySem.W.mg_of X G hm_BadKind, xq_BadKind, xk_BadKind, xb_BadKind, xy_BadKind, exm_self xb_BadKind xc_BadKind xy_BadKind xz_BadKind, PySem.W.mg_of X G hm_BadStep, xq_BadStep, xk_BadStep, xb_BadStep, xy_BadStep, exm_self xb_BadStep xc_BadStep xy_BadStep xz_BadStep, ⟨_, PySem.W.mg_of X G hm_MOST_WIDTH, ⟨_, rfl⟩⟩, ⟨_, PySem.W.mg_of X G hm_MOST_NUMBER, ⟨_, rfl⟩⟩, ⟨_, PySem.W.mg_of X G hm_TABLE_SIZES, rfl⟩, fun H => sqT_mk tl_TABLE_SIZES ti_TABLE_SIZES tz_TABLE_SIZES, ⟨_, PySem.W.mg_of X G hm_PAIR_SIGNS, rfl⟩, fun H => sqT_mk tl_PAIR_SIGNS ti_PAIR_SIGNS tz_PAIR_SIGNS, ⟨_, PySem.W.mg_of X G hm_SHIFT_SIGNS, rfl⟩, fun H => sqT_mk tl_SHIFT_SIGNS ti_SHIFT_SIGNS tz_SHIFT_SIGNS, ⟨_, PySem.W.mg_of X G hm_MOST_PLACES, ⟨_, rfl⟩⟩, ⟨_, PySem.W.mg_of X G hm_MOST_GIVEN, ⟨_, rfl⟩⟩, ⟨_, PySem.W.mg_of X G hm_OPERAND_ENDS, rfl⟩, PySem.W.mg_none_of X G hz_ValueError, PySem.W.mg_none_of X G hz_abs, PySem.W.mg_none_of X G hz_all, PySem.W.mg_none_of X G hz_any, PySem.W.mg_none_of X G hz_bool, PySem.W.mg_none_of X G hz_enumerate, PySem.W.mg_none_of X G hz_int, PySem.W.mg_none_of X G hz_isinstance, PySem.W.mg_none_of X G hz_iter, PySem.W.mg_none_of X G hz_len, PySem.W.mg_none_of X G hz_list, PySem.W.mg_none_of X G hz_range, PySem.W.mg_none_of X G hz_set, PySem.W.mg_none_of X G hz_sorted, PySem.W.mg_none_of X G hz_str, PySem.W.mg_none_of X G hz_tuple⟩
  have D : Txo w K ⟨v_is_whole, (PySem.W.fnOf "is_whole" "is_whole" (defArgs s_is_whole) (defBody s_is_whole) (defScope s_is_whole) .none kV_is_whole dc_is_whole pm_is_whole an_is_whole cd_is_whole ct_is_whole), v_is_within, (PySem.W.fnOf "is_within" "is_within" (defArgs s_is_within) (defBody s_is_within) (defScope s_is_within) .none kV_is_within dc_is_within pm_is_within an_is_within cd_is_within ct_is_within), v_is_sequence, (PySem.W.fnOf "is_sequence" "is_sequence" (defArgs s_is_sequence) (defBody s_is_sequence) (defScope s_is_sequence) .none kV_is_sequence dc_is_sequence pm_is_sequence an_is_sequence cd_is_sequence ct_is_sequence), v_mask_of, (PySem.W.fnOf "mask_of" "mask_of" (defArgs s_mask_of) (defBody s_mask_of) (defScope s_mask_of) .none kV_mask_of dc_mask_of pm_mask_of an_mask_of cd_mask_of ct_mask_of), v_check_inputs, (PySem.W.fnOf "check_inputs" "check_inputs" (defArgs s_check_inputs) (defBody s_check_inputs) (defScope s_check_inputs) .none kV_check_inputs dc_check_inputs pm_check_inputs an_check_inputs cd_check_inputs ct_check_inputs), v_is_number, (PySem.W.fnOf "is_number" "is_number" (defArgs s_is_number) (defBody s_is_number) (defScope s_is_number) .none kV_is_number dc_is_number pm_is_number an_is_number cd_is_number ct_is_number), v_is_table, (PySem.W.fnOf "is_table" "is_table" (defArgs s_is_table) (defBody s_is_table) (defScope s_is_table) .none kV_is_table dc_is_table pm_is_table an_is_table cd_is_table ct_is_table), v_check_kind, (PySem.W.fnOf "check_kind" "check_kind" (defArgs s_check_kind) (defBody s_check_kind) (defScope s_check_kind) .none kV_check_kind dc_check_kind pm_check_kind an_check_kind cd_check_kind ct_check_kind), v_operand_count, (PySem.W.fnOf "operand_count" "operand_count" (defArgs s_operand_count) (defBody s_operand_count) (defScope s_operand_count) .none kV_operand_count dc_operand_count pm_operand_count an_operand_count cd_operand_count ct_operand_count), v_step_word, (PySem.W.fnOf "step_word" "step_word" (defArgs s_step_word) (defBody s_step_word) (defScope s_step_word) .none kV_step_word dc_step_word pm_step_word an_step_word cd_step_word ct_step_word), v_pair_word, (PySem.W.fnOf "pair_word" "pair_word" (defArgs s_pair_word) (defBody s_pair_word) (defScope s_pair_word) .none kV_pair_word dc_pair_word pm_pair_word an_pair_word cd_pair_word ct_pair_word), v_single_word, (PySem.W.fnOf "single_word" "single_word" (defArgs s_single_word) (defBody s_single_word) (defScope s_single_word) .none kV_single_word dc_single_word pm_single_word an_single_word cd_single_word ct_single_word), v_is_operand, (PySem.W.fnOf "is_operand" "is_operand" (defArgs s_is_operand) (defBody s_is_operand) (defScope s_is_operand) .none kV_is_operand dc_is_operand pm_is_operand an_is_operand cd_is_operand ct_is_operand), v_checked_kind, (PySem.W.fnOf "checked_kind" "checked_kind" (defArgs s_checked_kind) (defBody s_checked_kind) (defScope s_checked_kind) .none kV_checked_kind dc_checked_kind pm_checked_kind an_checked_kind cd_checked_kind ct_checked_kind), v_checked_operands, (PySem.W.fnOf "checked_operands" "checked_operands" (defArgs s_checked_operands) (defBody s_checked_operands) (defScope s_checked_operands) .none kV_checked_operands dc_checked_operands pm_checked_operands an_checked_operands cd_checked_operands ct_checked_operands), v_is_place, (PySem.W.fnOf "is_place" "is_place" (defArgs s_is_place) (defBody s_is_place) (defScope s_is_place) .none kV_is_place dc_is_place pm_is_place an_is_place cd_is_place ct_is_place), v_is_before_list, (PySem.W.fnOf "is_before_list" "is_before_list" (defArgs s_is_before_list) (defBody s_is_before_list) (defScope s_is_before_list) .none kV_is_before_list dc_is_before_list pm_is_before_list an_is_before_list cd_is_before_list ct_is_before_list), v_checked_befores, (PySem.W.fnOf "checked_befores" "checked_befores" (defArgs s_checked_befores) (defBody s_checked_befores) (defScope s_checked_befores) .none kV_checked_befores dc_checked_befores pm_checked_befores an_checked_befores cd_checked_befores ct_checked_befores), v_afters_of, (PySem.W.fnOf "afters_of" "afters_of" (defArgs s_afters_of) (defBody s_afters_of) (defScope s_afters_of) .none kV_afters_of dc_afters_of pm_afters_of an_afters_of cd_afters_of ct_afters_of), v_ordered_of, (PySem.W.fnOf "ordered_of" "ordered_of" (defArgs s_ordered_of) (defBody s_ordered_of) (defScope s_ordered_of) .none kV_ordered_of dc_ordered_of pm_ordered_of an_ordered_of cd_ordered_of ct_ordered_of), v_reached_along, (PySem.W.fnOf "reached_along" "reached_along" (defArgs s_reached_along) (defBody s_reached_along) (defScope s_reached_along) (.ref T_reached_along) kV_reached_along dc_reached_along pm_reached_along an_reached_along cd_reached_along ct_reached_along), v_check_rings, (PySem.W.fnOf "check_rings" "check_rings" (defArgs s_check_rings) (defBody s_check_rings) (defScope s_check_rings) .none kV_check_rings dc_check_rings pm_check_rings an_check_rings cd_check_rings ct_check_rings), v_check_roads, (PySem.W.fnOf "check_roads" "check_roads" (defArgs s_check_roads) (defBody s_check_roads) (defScope s_check_roads) .none kV_check_roads dc_check_roads pm_check_roads an_check_roads cd_check_roads ct_check_roads), v_check_shape, (PySem.W.fnOf "check_shape" "check_shape" (defArgs s_check_shape) (defBody s_check_shape) (defScope s_check_shape) .none kV_check_shape dc_check_shape pm_check_shape an_check_shape cd_check_shape ct_check_shape), v_check_steps, (PySem.W.fnOf "check_steps" "check_steps" (defArgs s_check_steps) (defBody s_check_steps) (defScope s_check_steps) .none kV_check_steps dc_check_steps pm_check_steps an_check_steps cd_check_steps ct_check_steps), v_check_idle, (PySem.W.fnOf "check_idle" "check_idle" (defArgs s_check_idle) (defBody s_check_idle) (defScope s_check_idle) .none kV_check_idle dc_check_idle pm_check_idle an_check_idle cd_check_idle ct_check_idle), v_operand_word, (PySem.W.fnOf "operand_word" "operand_word" (defArgs s_operand_word) (defBody s_operand_word) (defScope s_operand_word) .none kV_operand_word dc_operand_word pm_operand_word an_operand_word cd_operand_word ct_operand_word), v_word_over, (PySem.W.fnOf "word_over" "word_over" (defArgs s_word_over) (defBody s_word_over) (defScope s_word_over) .none kV_word_over dc_word_over pm_word_over an_word_over cd_word_over ct_word_over), v_web_worths, (PySem.W.fnOf "web_worths" "web_worths" (defArgs s_web_worths) (defBody s_web_worths) (defScope s_web_worths) .none kV_web_worths dc_web_worths pm_web_worths an_web_worths cd_web_worths ct_web_worths), v_web_worth, (PySem.W.fnOf "web_worth" "web_worth" (defArgs s_web_worth) (defBody s_web_worth) (defScope s_web_worth) .none kV_web_worth dc_web_worth pm_web_worth an_web_worth cd_web_worth ct_web_worth), v_law_hand, (PySem.W.fnOf "_law_hand" "_law_hand" (defArgs s_law_hand) (defBody s_law_hand) (defScope s_law_hand) .none kV_law_hand dc_law_hand pm_law_hand an_law_hand cd_law_hand ct_law_hand), v_law_mixed, (PySem.W.fnOf "_law_mixed" "_law_mixed" (defArgs s_law_mixed) (defBody s_law_mixed) (defScope s_law_mixed) .none kV_law_mixed dc_law_mixed pm_law_mixed an_law_mixed cd_law_mixed ct_law_mixed), v_law_take, (PySem.W.fnOf "_law_take" "_law_take" (defArgs s_law_take) (defBody s_law_take) (defScope s_law_take) .none kV_law_take dc_law_take pm_law_take an_law_take cd_law_take ct_law_take), v_law_whole, (PySem.W.fnOf "_law_whole" "_law_whole" (defArgs s_law_whole) (defBody s_law_whole) (defScope s_law_whole) .none kV_law_whole dc_law_whole pm_law_whole an_law_whole cd_law_whole ct_law_whole), v_law_two, (PySem.W.fnOf "_law_two" "_law_two" (defArgs s_law_two) (defBody s_law_two) (defScope s_law_two) .none kV_law_two dc_law_two pm_law_two an_law_two cd_law_two ct_law_two), v_law_kind, (PySem.W.fnOf "_law_kind" "_law_kind" (defArgs s_law_kind) (defBody s_law_kind) (defScope s_law_kind) .none kV_law_kind dc_law_kind pm_law_kind an_law_kind cd_law_kind ct_law_kind), v_law_operands, (PySem.W.fnOf "_law_operands" "_law_operands" (defArgs s_law_operands) (defBody s_law_operands) (defScope s_law_operands) .none kV_law_operands dc_law_operands pm_law_operands an_law_operands cd_law_operands ct_law_operands), v_law_bits, (PySem.W.fnOf "_law_bits" "_law_bits" (defArgs s_law_bits) (defBody s_law_bits) (defScope s_law_bits) .none kV_law_bits dc_law_bits pm_law_bits an_law_bits cd_law_bits ct_law_bits), v_law_step_word, (PySem.W.fnOf "_law_step_word" "_law_step_word" (defArgs s_law_step_word) (defBody s_law_step_word) (defScope s_law_step_word) .none kV_law_step_word dc_law_step_word pm_law_step_word an_law_step_word cd_law_step_word ct_law_step_word), v_law_under, (PySem.W.fnOf "_law_under" "_law_under" (defArgs s_law_under) (defBody s_law_under) (defScope s_law_under) .none kV_law_under dc_law_under pm_law_under an_law_under cd_law_under ct_law_under), v_law_operand, (PySem.W.fnOf "_law_operand" "_law_operand" (defArgs s_law_operand) (defBody s_law_operand) (defScope s_law_operand) .none kV_law_operand dc_law_operand pm_law_operand an_law_operand cd_law_operand ct_law_operand), v_law_web_words, (PySem.W.fnOf "_law_web_words" "_law_web_words" (defArgs s_law_web_words) (defBody s_law_web_words) (defScope s_law_web_words) .none kV_law_web_words dc_law_web_words pm_law_web_words an_law_web_words cd_law_web_words ct_law_web_words), v_law_web_befores, (PySem.W.fnOf "_law_web_befores" "_law_web_befores" (defArgs s_law_web_befores) (defBody s_law_web_befores) (defScope s_law_web_befores) .none kV_law_web_befores dc_law_web_befores pm_law_web_befores an_law_web_befores cd_law_web_befores ct_law_web_befores), v_law_words, (PySem.W.fnOf "_law_words" "_law_words" (defArgs s_law_words) (defBody s_law_words) (defScope s_law_words) .none kV_law_words dc_law_words pm_law_words an_law_words cd_law_words ct_law_words), v_law_either, (PySem.W.fnOf "_law_either" "_law_either" (defArgs s_law_either) (defBody s_law_either) (defScope s_law_either) .none kV_law_either dc_law_either pm_law_either an_law_either cd_law_either ct_law_either), v_law_pick, (PySem.W.fnOf "_law_pick" "_law_pick" (defArgs s_law_pick) (defBody s_law_pick) (defScope s_law_pick) .none kV_law_pick dc_law_pick pm_law_pick an_law_pick cd_law_pick ct_law_pick), v_law_tuples, (PySem.W.fnOf "_law_tuples" "_law_tuples" (defArgs s_law_tuples) (defBody s_law_tuples) (defScope s_law_tuples) .none kV_law_tuples dc_law_tuples pm_law_tuples an_law_tuples cd_law_tuples ct_law_tuples), v_law_full_web, (PySem.W.fnOf "_law_full_web" "_law_full_web" (defArgs s_law_full_web) (defBody s_law_full_web) (defScope s_law_full_web) .none kV_law_full_web dc_law_full_web pm_law_full_web an_law_full_web cd_law_full_web ct_law_full_web), v_law_alive, (PySem.W.fnOf "_law_alive" "_law_alive" (defArgs s_law_alive) (defBody s_law_alive) (defScope s_law_alive) .none kV_law_alive dc_law_alive pm_law_alive an_law_alive cd_law_alive ct_law_alive), v_law_chain_steps, (PySem.W.fnOf "_law_chain_steps" "_law_chain_steps" (defArgs s_law_chain_steps) (defBody s_law_chain_steps) (defScope s_law_chain_steps) .none kV_law_chain_steps dc_law_chain_steps pm_law_chain_steps an_law_chain_steps cd_law_chain_steps ct_law_chain_steps), v_law_drawn_steps, (PySem.W.fnOf "_law_drawn_steps" "_law_drawn_steps" (defArgs s_law_drawn_steps) (defBody s_law_drawn_steps) (defScope s_law_drawn_steps) .none kV_law_drawn_steps dc_law_drawn_steps pm_law_drawn_steps an_law_drawn_steps cd_law_drawn_steps ct_law_drawn_steps), v_law_step_right, (PySem.W.fnOf "_law_step_right" "_law_step_right" (defArgs s_law_step_right) (defBody s_law_step_right) (defScope s_law_step_right) .none kV_law_step_right dc_law_step_right pm_law_step_right an_law_step_right cd_law_step_right ct_law_step_right), v_law_step_refused, (PySem.W.fnOf "_law_step_refused" "_law_step_refused" (defArgs s_law_step_refused) (defBody s_law_step_refused) (defScope s_law_step_refused) .none kV_law_step_refused dc_law_step_refused pm_law_step_refused an_law_step_refused cd_law_step_refused ct_law_step_refused), v_law_odd_kind, (PySem.W.fnOf "_law_odd_kind" "_law_odd_kind" (defArgs s_law_odd_kind) (defBody s_law_odd_kind) (defScope s_law_odd_kind) .none kV_law_odd_kind dc_law_odd_kind pm_law_odd_kind an_law_odd_kind cd_law_odd_kind ct_law_odd_kind), v_law_odd_operand, (PySem.W.fnOf "_law_odd_operand" "_law_odd_operand" (defArgs s_law_odd_operand) (defBody s_law_odd_operand) (defScope s_law_odd_operand) .none kV_law_odd_operand dc_law_odd_operand pm_law_odd_operand an_law_odd_operand cd_law_odd_operand ct_law_odd_operand), v_law_odd_steps, (PySem.W.fnOf "_law_odd_steps" "_law_odd_steps" (defArgs s_law_odd_steps) (defBody s_law_odd_steps) (defScope s_law_odd_steps) .none kV_law_odd_steps dc_law_odd_steps pm_law_odd_steps an_law_odd_steps cd_law_odd_steps ct_law_odd_steps), v_law_web_due, (PySem.W.fnOf "_law_web_due" "_law_web_due" (defArgs s_law_web_due) (defBody s_law_web_due) (defScope s_law_web_due) .none kV_law_web_due dc_law_web_due pm_law_web_due an_law_web_due cd_law_web_due ct_law_web_due), v_law_spoilt_rows, (PySem.W.fnOf "_law_spoilt_rows" "_law_spoilt_rows" (defArgs s_law_spoilt_rows) (defBody s_law_spoilt_rows) (defScope s_law_spoilt_rows) .none kV_law_spoilt_rows dc_law_spoilt_rows pm_law_spoilt_rows an_law_spoilt_rows cd_law_spoilt_rows ct_law_spoilt_rows), v_law_web_told, (PySem.W.fnOf "_law_web_told" "_law_web_told" (defArgs s_law_web_told) (defBody s_law_web_told) (defScope s_law_web_told) .none kV_law_web_told dc_law_web_told pm_law_web_told an_law_web_told cd_law_web_told ct_law_web_told), v_law_web_right, (PySem.W.fnOf "_law_web_right" "_law_web_right" (defArgs s_law_web_right) (defBody s_law_web_right) (defScope s_law_web_right) .none kV_law_web_right dc_law_web_right pm_law_web_right an_law_web_right cd_law_web_right ct_law_web_right), v_law_inputs_told, (PySem.W.fnOf "_law_inputs_told" "_law_inputs_told" (defArgs s_law_inputs_told) (defBody s_law_inputs_told) (defScope s_law_inputs_told) .none kV_law_inputs_told dc_law_inputs_told pm_law_inputs_told an_law_inputs_told cd_law_inputs_told ct_law_inputs_told), v_law_inputs_right, (PySem.W.fnOf "_law_inputs_right" "_law_inputs_right" (defArgs s_law_inputs_right) (defBody s_law_inputs_right) (defScope s_law_inputs_right) .none kV_law_inputs_right dc_law_inputs_right pm_law_inputs_right an_law_inputs_right cd_law_inputs_right ct_law_inputs_right), v_law_case, (PySem.W.fnOf "_law_case" "_law_case" (defArgs s_law_case) (defBody s_law_case) (defScope s_law_case) .none kV_law_case dc_law_case pm_law_case an_law_case cd_law_case ct_law_case), fa, (PySem.W.fnOf "law" "law" (defArgs s_law) (defBody s_law) (defScope s_law) .none kV_law dc_law pm_law an_law cd_law ct_law), u_c_UndoError, w_BadInputs, w_BadKind, w_BadStep, w_BadWeb, w_BadBare, w_Step, w_Bare, w_Web, v_BadInputs___init__, (PySem.W.fnOf "__init__" "BadInputs.__init__" (defArgs s_BadInputs___init__) (defBody s_BadInputs___init__) (defScope s_BadInputs___init__) .none kV_BadInputs___init__ dc_BadInputs___init__ pm_BadInputs___init__ an_BadInputs___init__ cd_BadInputs___init__ ct_BadInputs___init__), v_BadWeb___init__, (PySem.W.fnOf "__init__" "BadWeb.__init__" (defArgs s_BadWeb___init__) (defBody s_BadWeb___init__) (defScope s_BadWeb___init__) .none kV_BadWeb___init__ dc_BadWeb___init__ pm_BadWeb___init__ an_BadWeb___init__ cd_BadWeb___init__ ct_BadWeb___init__), v_BadBare___init__, (PySem.W.fnOf "__init__" "BadBare.__init__" (defArgs s_BadBare___init__) (defBody s_BadBare___init__) (defScope s_BadBare___init__) .none kV_BadBare___init__ dc_BadBare___init__ pm_BadBare___init__ an_BadBare___init__ cd_BadBare___init__ ct_BadBare___init__), v_Step___init__, (PySem.W.fnOf "__init__" "Step.__init__" (defArgs s_Step___init__) (defBody s_Step___init__) (defScope s_Step___init__) .none kV_Step___init__ dc_Step___init__ pm_Step___init__ an_Step___init__ cd_Step___init__ ct_Step___init__), v_Step___eq__, (PySem.W.fnOf "__eq__" "Step.__eq__" (defArgs s_Step___eq__) (defBody s_Step___eq__) (defScope s_Step___eq__) .none kV_Step___eq__ dc_Step___eq__ pm_Step___eq__ an_Step___eq__ cd_Step___eq__ ct_Step___eq__), v_Bare___init__, (PySem.W.fnOf "__init__" "Bare.__init__" (defArgs s_Bare___init__) (defBody s_Bare___init__) (defScope s_Bare___init__) .none kV_Bare___init__ dc_Bare___init__ pm_Bare___init__ an_Bare___init__ cd_Bare___init__ ct_Bare___init__), v_Bare___len__, (PySem.W.fnOf "__len__" "Bare.__len__" (defArgs s_Bare___len__) (defBody s_Bare___len__) (defScope s_Bare___len__) .none kV_Bare___len__ dc_Bare___len__ pm_Bare___len__ an_Bare___len__ cd_Bare___len__ ct_Bare___len__), v_Bare___eq__, (PySem.W.fnOf "__eq__" "Bare.__eq__" (defArgs s_Bare___eq__) (defBody s_Bare___eq__) (defScope s_Bare___eq__) .none kV_Bare___eq__ dc_Bare___eq__ pm_Bare___eq__ an_Bare___eq__ cd_Bare___eq__ ct_Bare___eq__), v_Web___init__, (PySem.W.fnOf "__init__" "Web.__init__" (defArgs s_Web___init__) (defBody s_Web___init__) (defScope s_Web___init__) .none kV_Web___init__ dc_Web___init__ pm_Web___init__ an_Web___init__ cd_Web___init__ ct_Web___init__), v_Web___len__, (PySem.W.fnOf "__len__" "Web.__len__" (defArgs s_Web___len__) (defBody s_Web___len__) (defScope s_Web___len__) .none kV_Web___len__ dc_Web___len__ pm_Web___len__ an_Web___len__ cd_Web___len__ ct_Web___len__), v_Web___iter__, (PySem.W.fnOf "__iter__" "Web.__iter__" (defArgs s_Web___iter__) (defBody s_Web___iter__) (defScope s_Web___iter__) .none kV_Web___iter__ dc_Web___iter__ pm_Web___iter__ an_Web___iter__ cd_Web___iter__ ct_Web___iter__), v_Web___eq__, (PySem.W.fnOf "__eq__" "Web.__eq__" (defArgs s_Web___eq__) (defBody s_Web___eq__) (defScope s_Web___eq__) .none kV_Web___eq__ dc_Web___eq__ pm_Web___eq__ an_Web___eq__ cd_Web___eq__ ct_Web___eq__), p_TABLE_SIZES, p_PAIR_SIGNS, p_SHIFT_SIGNS, p_OPERAND_ENDS⟩ := ⟨⟨_, _, dl_OPERAND_ENDS, dk_OPERAND_ENDS⟩, do_OPERAND_ENDS, ⟨_, dh_0, ⟨_, rfl⟩⟩, ⟨_, dh_1, ⟨_, rfl⟩⟩, ⟨_, dh_2, ⟨_, rfl⟩⟩, dh_3⟩
  have I : Txi K ⟨v_is_whole, (PySem.W.fnOf "is_whole" "is_whole" (defArgs s_is_whole) (defBody s_is_whole) (defScope s_is_whole) .none kV_is_whole dc_is_whole pm_is_whole an_is_whole cd_is_whole ct_is_whole), v_is_within, (PySem.W.fnOf "is_within" "is_within" (defArgs s_is_within) (defBody s_is_within) (defScope s_is_within) .none kV_is_within dc_is_within pm_is_within an_is_within cd_is_within ct_is_within), v_is_sequence, (PySem.W.fnOf "is_sequence" "is_sequence" (defArgs s_is_sequence) (defBody s_is_sequence) (defScope s_is_sequence) .none kV_is_sequence dc_is_sequence pm_is_sequence an_is_sequence cd_is_sequence ct_is_sequence), v_mask_of, (PySem.W.fnOf "mask_of" "mask_of" (defArgs s_mask_of) (defBody s_mask_of) (defScope s_mask_of) .none kV_mask_of dc_mask_of pm_mask_of an_mask_of cd_mask_of ct_mask_of), v_check_inputs, (PySem.W.fnOf "check_inputs" "check_inputs" (defArgs s_check_inputs) (defBody s_check_inputs) (defScope s_check_inputs) .none kV_check_inputs dc_check_inputs pm_check_inputs an_check_inputs cd_check_inputs ct_check_inputs), v_is_number, (PySem.W.fnOf "is_number" "is_number" (defArgs s_is_number) (defBody s_is_number) (defScope s_is_number) .none kV_is_number dc_is_number pm_is_number an_is_number cd_is_number ct_is_number), v_is_table, (PySem.W.fnOf "is_table" "is_table" (defArgs s_is_table) (defBody s_is_table) (defScope s_is_table) .none kV_is_table dc_is_table pm_is_table an_is_table cd_is_table ct_is_table), v_check_kind, (PySem.W.fnOf "check_kind" "check_kind" (defArgs s_check_kind) (defBody s_check_kind) (defScope s_check_kind) .none kV_check_kind dc_check_kind pm_check_kind an_check_kind cd_check_kind ct_check_kind), v_operand_count, (PySem.W.fnOf "operand_count" "operand_count" (defArgs s_operand_count) (defBody s_operand_count) (defScope s_operand_count) .none kV_operand_count dc_operand_count pm_operand_count an_operand_count cd_operand_count ct_operand_count), v_step_word, (PySem.W.fnOf "step_word" "step_word" (defArgs s_step_word) (defBody s_step_word) (defScope s_step_word) .none kV_step_word dc_step_word pm_step_word an_step_word cd_step_word ct_step_word), v_pair_word, (PySem.W.fnOf "pair_word" "pair_word" (defArgs s_pair_word) (defBody s_pair_word) (defScope s_pair_word) .none kV_pair_word dc_pair_word pm_pair_word an_pair_word cd_pair_word ct_pair_word), v_single_word, (PySem.W.fnOf "single_word" "single_word" (defArgs s_single_word) (defBody s_single_word) (defScope s_single_word) .none kV_single_word dc_single_word pm_single_word an_single_word cd_single_word ct_single_word), v_is_operand, (PySem.W.fnOf "is_operand" "is_operand" (defArgs s_is_operand) (defBody s_is_operand) (defScope s_is_operand) .none kV_is_operand dc_is_operand pm_is_operand an_is_operand cd_is_operand ct_is_operand), v_checked_kind, (PySem.W.fnOf "checked_kind" "checked_kind" (defArgs s_checked_kind) (defBody s_checked_kind) (defScope s_checked_kind) .none kV_checked_kind dc_checked_kind pm_checked_kind an_checked_kind cd_checked_kind ct_checked_kind), v_checked_operands, (PySem.W.fnOf "checked_operands" "checked_operands" (defArgs s_checked_operands) (defBody s_checked_operands) (defScope s_checked_operands) .none kV_checked_operands dc_checked_operands pm_checked_operands an_checked_operands cd_checked_operands ct_checked_operands), v_is_place, (PySem.W.fnOf "is_place" "is_place" (defArgs s_is_place) (defBody s_is_place) (defScope s_is_place) .none kV_is_place dc_is_place pm_is_place an_is_place cd_is_place ct_is_place), v_is_before_list, (PySem.W.fnOf "is_before_list" "is_before_list" (defArgs s_is_before_list) (defBody s_is_before_list) (defScope s_is_before_list) .none kV_is_before_list dc_is_before_list pm_is_before_list an_is_before_list cd_is_before_list ct_is_before_list), v_checked_befores, (PySem.W.fnOf "checked_befores" "checked_befores" (defArgs s_checked_befores) (defBody s_checked_befores) (defScope s_checked_befores) .none kV_checked_befores dc_checked_befores pm_checked_befores an_checked_befores cd_checked_befores ct_checked_befores), v_afters_of, (PySem.W.fnOf "afters_of" "afters_of" (defArgs s_afters_of) (defBody s_afters_of) (defScope s_afters_of) .none kV_afters_of dc_afters_of pm_afters_of an_afters_of cd_afters_of ct_afters_of), v_ordered_of, (PySem.W.fnOf "ordered_of" "ordered_of" (defArgs s_ordered_of) (defBody s_ordered_of) (defScope s_ordered_of) .none kV_ordered_of dc_ordered_of pm_ordered_of an_ordered_of cd_ordered_of ct_ordered_of), v_reached_along, (PySem.W.fnOf "reached_along" "reached_along" (defArgs s_reached_along) (defBody s_reached_along) (defScope s_reached_along) (.ref T_reached_along) kV_reached_along dc_reached_along pm_reached_along an_reached_along cd_reached_along ct_reached_along), v_check_rings, (PySem.W.fnOf "check_rings" "check_rings" (defArgs s_check_rings) (defBody s_check_rings) (defScope s_check_rings) .none kV_check_rings dc_check_rings pm_check_rings an_check_rings cd_check_rings ct_check_rings), v_check_roads, (PySem.W.fnOf "check_roads" "check_roads" (defArgs s_check_roads) (defBody s_check_roads) (defScope s_check_roads) .none kV_check_roads dc_check_roads pm_check_roads an_check_roads cd_check_roads ct_check_roads), v_check_shape, (PySem.W.fnOf "check_shape" "check_shape" (defArgs s_check_shape) (defBody s_check_shape) (defScope s_check_shape) .none kV_check_shape dc_check_shape pm_check_shape an_check_shape cd_check_shape ct_check_shape), v_check_steps, (PySem.W.fnOf "check_steps" "check_steps" (defArgs s_check_steps) (defBody s_check_steps) (defScope s_check_steps) .none kV_check_steps dc_check_steps pm_check_steps an_check_steps cd_check_steps ct_check_steps), v_check_idle, (PySem.W.fnOf "check_idle" "check_idle" (defArgs s_check_idle) (defBody s_check_idle) (defScope s_check_idle) .none kV_check_idle dc_check_idle pm_check_idle an_check_idle cd_check_idle ct_check_idle), v_operand_word, (PySem.W.fnOf "operand_word" "operand_word" (defArgs s_operand_word) (defBody s_operand_word) (defScope s_operand_word) .none kV_operand_word dc_operand_word pm_operand_word an_operand_word cd_operand_word ct_operand_word), v_word_over, (PySem.W.fnOf "word_over" "word_over" (defArgs s_word_over) (defBody s_word_over) (defScope s_word_over) .none kV_word_over dc_word_over pm_word_over an_word_over cd_word_over ct_word_over), v_web_worths, (PySem.W.fnOf "web_worths" "web_worths" (defArgs s_web_worths) (defBody s_web_worths) (defScope s_web_worths) .none kV_web_worths dc_web_worths pm_web_worths an_web_worths cd_web_worths ct_web_worths), v_web_worth, (PySem.W.fnOf "web_worth" "web_worth" (defArgs s_web_worth) (defBody s_web_worth) (defScope s_web_worth) .none kV_web_worth dc_web_worth pm_web_worth an_web_worth cd_web_worth ct_web_worth), v_law_hand, (PySem.W.fnOf "_law_hand" "_law_hand" (defArgs s_law_hand) (defBody s_law_hand) (defScope s_law_hand) .none kV_law_hand dc_law_hand pm_law_hand an_law_hand cd_law_hand ct_law_hand), v_law_mixed, (PySem.W.fnOf "_law_mixed" "_law_mixed" (defArgs s_law_mixed) (defBody s_law_mixed) (defScope s_law_mixed) .none kV_law_mixed dc_law_mixed pm_law_mixed an_law_mixed cd_law_mixed ct_law_mixed), v_law_take, (PySem.W.fnOf "_law_take" "_law_take" (defArgs s_law_take) (defBody s_law_take) (defScope s_law_take) .none kV_law_take dc_law_take pm_law_take an_law_take cd_law_take ct_law_take), v_law_whole, (PySem.W.fnOf "_law_whole" "_law_whole" (defArgs s_law_whole) (defBody s_law_whole) (defScope s_law_whole) .none kV_law_whole dc_law_whole pm_law_whole an_law_whole cd_law_whole ct_law_whole), v_law_two, (PySem.W.fnOf "_law_two" "_law_two" (defArgs s_law_two) (defBody s_law_two) (defScope s_law_two) .none kV_law_two dc_law_two pm_law_two an_law_two cd_law_two ct_law_two), v_law_kind, (PySem.W.fnOf "_law_kind" "_law_kind" (defArgs s_law_kind) (defBody s_law_kind) (defScope s_law_kind) .none kV_law_kind dc_law_kind pm_law_kind an_law_kind cd_law_kind ct_law_kind), v_law_operands, (PySem.W.fnOf "_law_operands" "_law_operands" (defArgs s_law_operands) (defBody s_law_operands) (defScope s_law_operands) .none kV_law_operands dc_law_operands pm_law_operands an_law_operands cd_law_operands ct_law_operands), v_law_bits, (PySem.W.fnOf "_law_bits" "_law_bits" (defArgs s_law_bits) (defBody s_law_bits) (defScope s_law_bits) .none kV_law_bits dc_law_bits pm_law_bits an_law_bits cd_law_bits ct_law_bits), v_law_step_word, (PySem.W.fnOf "_law_step_word" "_law_step_word" (defArgs s_law_step_word) (defBody s_law_step_word) (defScope s_law_step_word) .none kV_law_step_word dc_law_step_word pm_law_step_word an_law_step_word cd_law_step_word ct_law_step_word), v_law_under, (PySem.W.fnOf "_law_under" "_law_under" (defArgs s_law_under) (defBody s_law_under) (defScope s_law_under) .none kV_law_under dc_law_under pm_law_under an_law_under cd_law_under ct_law_under), v_law_operand, (PySem.W.fnOf "_law_operand" "_law_operand" (defArgs s_law_operand) (defBody s_law_operand) (defScope s_law_operand) .none kV_law_operand dc_law_operand pm_law_operand an_law_operand cd_law_operand ct_law_operand), v_law_web_words, (PySem.W.fnOf "_law_web_words" "_law_web_words" (defArgs s_law_web_words) (defBody s_law_web_words) (defScope s_law_web_words) .none kV_law_web_words dc_law_web_words pm_law_web_words an_law_web_words cd_law_web_words ct_law_web_words), v_law_web_befores, (PySem.W.fnOf "_law_web_befores" "_law_web_befores" (defArgs s_law_web_befores) (defBody s_law_web_befores) (defScope s_law_web_befores) .none kV_law_web_befores dc_law_web_befores pm_law_web_befores an_law_web_befores cd_law_web_befores ct_law_web_befores), v_law_words, (PySem.W.fnOf "_law_words" "_law_words" (defArgs s_law_words) (defBody s_law_words) (defScope s_law_words) .none kV_law_words dc_law_words pm_law_words an_law_words cd_law_words ct_law_words), v_law_either, (PySem.W.fnOf "_law_either" "_law_either" (defArgs s_law_either) (defBody s_law_either) (defScope s_law_either) .none kV_law_either dc_law_either pm_law_either an_law_either cd_law_either ct_law_either), v_law_pick, (PySem.W.fnOf "_law_pick" "_law_pick" (defArgs s_law_pick) (defBody s_law_pick) (defScope s_law_pick) .none kV_law_pick dc_law_pick pm_law_pick an_law_pick cd_law_pick ct_law_pick), v_law_tuples, (PySem.W.fnOf "_law_tuples" "_law_tuples" (defArgs s_law_tuples) (defBody s_law_tuples) (defScope s_law_tuples) .none kV_law_tuples dc_law_tuples pm_law_tuples an_law_tuples cd_law_tuples ct_law_tuples), v_law_full_web, (PySem.W.fnOf "_law_full_web" "_law_full_web" (defArgs s_law_full_web) (defBody s_law_full_web) (defScope s_law_full_web) .none kV_law_full_web dc_law_full_web pm_law_full_web an_law_full_web cd_law_full_web ct_law_full_web), v_law_alive, (PySem.W.fnOf "_law_alive" "_law_alive" (defArgs s_law_alive) (defBody s_law_alive) (defScope s_law_alive) .none kV_law_alive dc_law_alive pm_law_alive an_law_alive cd_law_alive ct_law_alive), v_law_chain_steps, (PySem.W.fnOf "_law_chain_steps" "_law_chain_steps" (defArgs s_law_chain_steps) (defBody s_law_chain_steps) (defScope s_law_chain_steps) .none kV_law_chain_steps dc_law_chain_steps pm_law_chain_steps an_law_chain_steps cd_law_chain_steps ct_law_chain_steps), v_law_drawn_steps, (PySem.W.fnOf "_law_drawn_steps" "_law_drawn_steps" (defArgs s_law_drawn_steps) (defBody s_law_drawn_steps) (defScope s_law_drawn_steps) .none kV_law_drawn_steps dc_law_drawn_steps pm_law_drawn_steps an_law_drawn_steps cd_law_drawn_steps ct_law_drawn_steps), v_law_step_right, (PySem.W.fnOf "_law_step_right" "_law_step_right" (defArgs s_law_step_right) (defBody s_law_step_right) (defScope s_law_step_right) .none kV_law_step_right dc_law_step_right pm_law_step_right an_law_step_right cd_law_step_right ct_law_step_right), v_law_step_refused, (PySem.W.fnOf "_law_step_refused" "_law_step_refused" (defArgs s_law_step_refused) (defBody s_law_step_refused) (defScope s_law_step_refused) .none kV_law_step_refused dc_law_step_refused pm_law_step_refused an_law_step_refused cd_law_step_refused ct_law_step_refused), v_law_odd_kind, (PySem.W.fnOf "_law_odd_kind" "_law_odd_kind" (defArgs s_law_odd_kind) (defBody s_law_odd_kind) (defScope s_law_odd_kind) .none kV_law_odd_kind dc_law_odd_kind pm_law_odd_kind an_law_odd_kind cd_law_odd_kind ct_law_odd_kind), v_law_odd_operand, (PySem.W.fnOf "_law_odd_operand" "_law_odd_operand" (defArgs s_law_odd_operand) (defBody s_law_odd_operand) (defScope s_law_odd_operand) .none kV_law_odd_operand dc_law_odd_operand pm_law_odd_operand an_law_odd_operand cd_law_odd_operand ct_law_odd_operand), v_law_odd_steps, (PySem.W.fnOf "_law_odd_steps" "_law_odd_steps" (defArgs s_law_odd_steps) (defBody s_law_odd_steps) (defScope s_law_odd_steps) .none kV_law_odd_steps dc_law_odd_steps pm_law_odd_steps an_law_odd_steps cd_law_odd_steps ct_law_odd_steps), v_law_web_due, (PySem.W.fnOf "_law_web_due" "_law_web_due" (defArgs s_law_web_due) (defBody s_law_web_due) (defScope s_law_web_due) .none kV_law_web_due dc_law_web_due pm_law_web_due an_law_web_due cd_law_web_due ct_law_web_due), v_law_spoilt_rows, (PySem.W.fnOf "_law_spoilt_rows" "_law_spoilt_rows" (defArgs s_law_spoilt_rows) (defBody s_law_spoilt_rows) (defScope s_law_spoilt_rows) .none kV_law_spoilt_rows dc_law_spoilt_rows pm_law_spoilt_rows an_law_spoilt_rows cd_law_spoilt_rows ct_law_spoilt_rows), v_law_web_told, (PySem.W.fnOf "_law_web_told" "_law_web_told" (defArgs s_law_web_told) (defBody s_law_web_told) (defScope s_law_web_told) .none kV_law_web_told dc_law_web_told pm_law_web_told an_law_web_told cd_law_web_told ct_law_web_told), v_law_web_right, (PySem.W.fnOf "_law_web_right" "_law_web_right" (defArgs s_law_web_right) (defBody s_law_web_right) (defScope s_law_web_right) .none kV_law_web_right dc_law_web_right pm_law_web_right an_law_web_right cd_law_web_right ct_law_web_right), v_law_inputs_told, (PySem.W.fnOf "_law_inputs_told" "_law_inputs_told" (defArgs s_law_inputs_told) (defBody s_law_inputs_told) (defScope s_law_inputs_told) .none kV_law_inputs_told dc_law_inputs_told pm_law_inputs_told an_law_inputs_told cd_law_inputs_told ct_law_inputs_told), v_law_inputs_right, (PySem.W.fnOf "_law_inputs_right" "_law_inputs_right" (defArgs s_law_inputs_right) (defBody s_law_inputs_right) (defScope s_law_inputs_right) .none kV_law_inputs_right dc_law_inputs_right pm_law_inputs_right an_law_inputs_right cd_law_inputs_right ct_law_inputs_right), v_law_case, (PySem.W.fnOf "_law_case" "_law_case" (defArgs s_law_case) (defBody s_law_case) (defScope s_law_case) .none kV_law_case dc_law_case pm_law_case an_law_case cd_law_case ct_law_case), fa, (PySem.W.fnOf "law" "law" (defArgs s_law) (defBody s_law) (defScope s_law) .none kV_law dc_law pm_law an_law cd_law ct_law), u_c_UndoError, w_BadInputs, w_BadKind, w_BadStep, w_BadWeb, w_BadBare, w_Step, w_Bare, w_Web, v_BadInputs___init__, (PySem.W.fnOf "__init__" "BadInputs.__init__" (defArgs s_BadInputs___init__) (defBody s_BadInputs___init__) (defScope s_BadInputs___init__) .none kV_BadInputs___init__ dc_BadInputs___init__ pm_BadInputs___init__ an_BadInputs___init__ cd_BadInputs___init__ ct_BadInputs___init__), v_BadWeb___init__, (PySem.W.fnOf "__init__" "BadWeb.__init__" (defArgs s_BadWeb___init__) (defBody s_BadWeb___init__) (defScope s_BadWeb___init__) .none kV_BadWeb___init__ dc_BadWeb___init__ pm_BadWeb___init__ an_BadWeb___init__ cd_BadWeb___init__ ct_BadWeb___init__), v_BadBare___init__, (PySem.W.fnOf "__init__" "BadBare.__init__" (defArgs s_BadBare___init__) (defBody s_BadBare___init__) (defScope s_BadBare___init__) .none kV_BadBare___init__ dc_BadBare___init__ pm_BadBare___init__ an_BadBare___init__ cd_BadBare___init__ ct_BadBare___init__), v_Step___init__, (PySem.W.fnOf "__init__" "Step.__init__" (defArgs s_Step___init__) (defBody s_Step___init__) (defScope s_Step___init__) .none kV_Step___init__ dc_Step___init__ pm_Step___init__ an_Step___init__ cd_Step___init__ ct_Step___init__), v_Step___eq__, (PySem.W.fnOf "__eq__" "Step.__eq__" (defArgs s_Step___eq__) (defBody s_Step___eq__) (defScope s_Step___eq__) .none kV_Step___eq__ dc_Step___eq__ pm_Step___eq__ an_Step___eq__ cd_Step___eq__ ct_Step___eq__), v_Bare___init__, (PySem.W.fnOf "__init__" "Bare.__init__" (defArgs s_Bare___init__) (defBody s_Bare___init__) (defScope s_Bare___init__) .none kV_Bare___init__ dc_Bare___init__ pm_Bare___init__ an_Bare___init__ cd_Bare___init__ ct_Bare___init__), v_Bare___len__, (PySem.W.fnOf "__len__" "Bare.__len__" (defArgs s_Bare___len__) (defBody s_Bare___len__) (defScope s_Bare___len__) .none kV_Bare___len__ dc_Bare___len__ pm_Bare___len__ an_Bare___len__ cd_Bare___len__ ct_Bare___len__), v_Bare___eq__, (PySem.W.fnOf "__eq__" "Bare.__eq__" (defArgs s_Bare___eq__) (defBody s_Bare___eq__) (defScope s_Bare___eq__) .none kV_Bare___eq__ dc_Bare___eq__ pm_Bare___eq__ an_Bare___eq__ cd_Bare___eq__ ct_Bare___eq__), v_Web___init__, (PySem.W.fnOf "__init__" "Web.__init__" (defArgs s_Web___init__) (defBody s_Web___init__) (defScope s_Web___init__) .none kV_Web___init__ dc_Web___init__ pm_Web___init__ an_Web___init__ cd_Web___init__ ct_Web___init__), v_Web___len__, (PySem.W.fnOf "__len__" "Web.__len__" (defArgs s_Web___len__) (defBody s_Web___len__) (defScope s_Web___len__) .none kV_Web___len__ dc_Web___len__ pm_Web___len__ an_Web___len__ cd_Web___len__ ct_Web___len__), v_Web___iter__, (PySem.W.fnOf "__iter__" "Web.__iter__" (defArgs s_Web___iter__) (defBody s_Web___iter__) (defScope s_Web___iter__) .none kV_Web___iter__ dc_Web___iter__ pm_Web___iter__ an_Web___iter__ cd_Web___iter__ ct_Web___iter__), v_Web___eq__, (PySem.W.fnOf "__eq__" "Web.__eq__" (defArgs s_Web___eq__) (defBody s_Web___eq__) (defScope s_Web___eq__) .none kV_Web___eq__ dc_Web___eq__ pm_Web___eq__ an_Web___eq__ cd_Web___eq__ ct_Web___eq__), p_TABLE_SIZES, p_PAIR_SIGNS, p_SHIFT_SIGNS, p_OPERAND_ENDS⟩ := ⟨vi_n, vi_i, vi_s⟩
  have Y : Txv K mg ⟨v_is_whole, (PySem.W.fnOf "is_whole" "is_whole" (defArgs s_is_whole) (defBody s_is_whole) (defScope s_is_whole) .none kV_is_whole dc_is_whole pm_is_whole an_is_whole cd_is_whole ct_is_whole), v_is_within, (PySem.W.fnOf "is_within" "is_within" (defArgs s_is_within) (defBody s_is_within) (defScope s_is_within) .none kV_is_within dc_is_within pm_is_within an_is_within cd_is_within ct_is_within), v_is_sequence, (PySem.W.fnOf "is_sequence" "is_sequence" (defArgs s_is_sequence) (defBody s_is_sequence) (defScope s_is_sequence) .none kV_is_sequence dc_is_sequence pm_is_sequence an_is_sequence cd_is_sequence ct_is_sequence), v_mask_of, (PySem.W.fnOf "mask_of" "mask_of" (defArgs s_mask_of) (defBody s_mask_of) (defScope s_mask_of) .none kV_mask_of dc_mask_of pm_mask_of an_mask_of cd_mask_of ct_mask_of), v_check_inputs, (PySem.W.fnOf "check_inputs" "check_inputs" (defArgs s_check_inputs) (defBody s_check_inputs) (defScope s_check_inputs) .none kV_check_inputs dc_check_inputs pm_check_inputs an_check_inputs cd_check_inputs ct_check_inputs), v_is_number, (PySem.W.fnOf "is_number" "is_number" (defArgs s_is_number) (defBody s_is_number) (defScope s_is_number) .none kV_is_number dc_is_number pm_is_number an_is_number cd_is_number ct_is_number), v_is_table, (PySem.W.fnOf "is_table" "is_table" (defArgs s_is_table) (defBody s_is_table) (defScope s_is_table) .none kV_is_table dc_is_table pm_is_table an_is_table cd_is_table ct_is_table), v_check_kind, (PySem.W.fnOf "check_kind" "check_kind" (defArgs s_check_kind) (defBody s_check_kind) (defScope s_check_kind) .none kV_check_kind dc_check_kind pm_check_kind an_check_kind cd_check_kind ct_check_kind), v_operand_count, (PySem.W.fnOf "operand_count" "operand_count" (defArgs s_operand_count) (defBody s_operand_count) (defScope s_operand_count) .none kV_operand_count dc_operand_count pm_operand_count an_operand_count cd_operand_count ct_operand_count), v_step_word, (PySem.W.fnOf "step_word" "step_word" (defArgs s_step_word) (defBody s_step_word) (defScope s_step_word) .none kV_step_word dc_step_word pm_step_word an_step_word cd_step_word ct_step_word), v_pair_word, (PySem.W.fnOf "pair_word" "pair_word" (defArgs s_pair_word) (defBody s_pair_word) (defScope s_pair_word) .none kV_pair_word dc_pair_word pm_pair_word an_pair_word cd_pair_word ct_pair_word), v_single_word, (PySem.W.fnOf "single_word" "single_word" (defArgs s_single_word) (defBody s_single_word) (defScope s_single_word) .none kV_single_word dc_single_word pm_single_word an_single_word cd_single_word ct_single_word), v_is_operand, (PySem.W.fnOf "is_operand" "is_operand" (defArgs s_is_operand) (defBody s_is_operand) (defScope s_is_operand) .none kV_is_operand dc_is_operand pm_is_operand an_is_operand cd_is_operand ct_is_operand), v_checked_kind, (PySem.W.fnOf "checked_kind" "checked_kind" (defArgs s_checked_kind) (defBody s_checked_kind) (defScope s_checked_kind) .none kV_checked_kind dc_checked_kind pm_checked_kind an_checked_kind cd_checked_kind ct_checked_kind), v_checked_operands, (PySem.W.fnOf "checked_operands" "checked_operands" (defArgs s_checked_operands) (defBody s_checked_operands) (defScope s_checked_operands) .none kV_checked_operands dc_checked_operands pm_checked_operands an_checked_operands cd_checked_operands ct_checked_operands), v_is_place, (PySem.W.fnOf "is_place" "is_place" (defArgs s_is_place) (defBody s_is_place) (defScope s_is_place) .none kV_is_place dc_is_place pm_is_place an_is_place cd_is_place ct_is_place), v_is_before_list, (PySem.W.fnOf "is_before_list" "is_before_list" (defArgs s_is_before_list) (defBody s_is_before_list) (defScope s_is_before_list) .none kV_is_before_list dc_is_before_list pm_is_before_list an_is_before_list cd_is_before_list ct_is_before_list), v_checked_befores, (PySem.W.fnOf "checked_befores" "checked_befores" (defArgs s_checked_befores) (defBody s_checked_befores) (defScope s_checked_befores) .none kV_checked_befores dc_checked_befores pm_checked_befores an_checked_befores cd_checked_befores ct_checked_befores), v_afters_of, (PySem.W.fnOf "afters_of" "afters_of" (defArgs s_afters_of) (defBody s_afters_of) (defScope s_afters_of) .none kV_afters_of dc_afters_of pm_afters_of an_afters_of cd_afters_of ct_afters_of), v_ordered_of, (PySem.W.fnOf "ordered_of" "ordered_of" (defArgs s_ordered_of) (defBody s_ordered_of) (defScope s_ordered_of) .none kV_ordered_of dc_ordered_of pm_ordered_of an_ordered_of cd_ordered_of ct_ordered_of), v_reached_along, (PySem.W.fnOf "reached_along" "reached_along" (defArgs s_reached_along) (defBody s_reached_along) (defScope s_reached_along) (.ref T_reached_along) kV_reached_along dc_reached_along pm_reached_along an_reached_along cd_reached_along ct_reached_along), v_check_rings, (PySem.W.fnOf "check_rings" "check_rings" (defArgs s_check_rings) (defBody s_check_rings) (defScope s_check_rings) .none kV_check_rings dc_check_rings pm_check_rings an_check_rings cd_check_rings ct_check_rings), v_check_roads, (PySem.W.fnOf "check_roads" "check_roads" (defArgs s_check_roads) (defBody s_check_roads) (defScope s_check_roads) .none kV_check_roads dc_check_roads pm_check_roads an_check_roads cd_check_roads ct_check_roads), v_check_shape, (PySem.W.fnOf "check_shape" "check_shape" (defArgs s_check_shape) (defBody s_check_shape) (defScope s_check_shape) .none kV_check_shape dc_check_shape pm_check_shape an_check_shape cd_check_shape ct_check_shape), v_check_steps, (PySem.W.fnOf "check_steps" "check_steps" (defArgs s_check_steps) (defBody s_check_steps) (defScope s_check_steps) .none kV_check_steps dc_check_steps pm_check_steps an_check_steps cd_check_steps ct_check_steps), v_check_idle, (PySem.W.fnOf "check_idle" "check_idle" (defArgs s_check_idle) (defBody s_check_idle) (defScope s_check_idle) .none kV_check_idle dc_check_idle pm_check_idle an_check_idle cd_check_idle ct_check_idle), v_operand_word, (PySem.W.fnOf "operand_word" "operand_word" (defArgs s_operand_word) (defBody s_operand_word) (defScope s_operand_word) .none kV_operand_word dc_operand_word pm_operand_word an_operand_word cd_operand_word ct_operand_word), v_word_over, (PySem.W.fnOf "word_over" "word_over" (defArgs s_word_over) (defBody s_word_over) (defScope s_word_over) .none kV_word_over dc_word_over pm_word_over an_word_over cd_word_over ct_word_over), v_web_worths, (PySem.W.fnOf "web_worths" "web_worths" (defArgs s_web_worths) (defBody s_web_worths) (defScope s_web_worths) .none kV_web_worths dc_web_worths pm_web_worths an_web_worths cd_web_worths ct_web_worths), v_web_worth, (PySem.W.fnOf "web_worth" "web_worth" (defArgs s_web_worth) (defBody s_web_worth) (defScope s_web_worth) .none kV_web_worth dc_web_worth pm_web_worth an_web_worth cd_web_worth ct_web_worth), v_law_hand, (PySem.W.fnOf "_law_hand" "_law_hand" (defArgs s_law_hand) (defBody s_law_hand) (defScope s_law_hand) .none kV_law_hand dc_law_hand pm_law_hand an_law_hand cd_law_hand ct_law_hand), v_law_mixed, (PySem.W.fnOf "_law_mixed" "_law_mixed" (defArgs s_law_mixed) (defBody s_law_mixed) (defScope s_law_mixed) .none kV_law_mixed dc_law_mixed pm_law_mixed an_law_mixed cd_law_mixed ct_law_mixed), v_law_take, (PySem.W.fnOf "_law_take" "_law_take" (defArgs s_law_take) (defBody s_law_take) (defScope s_law_take) .none kV_law_take dc_law_take pm_law_take an_law_take cd_law_take ct_law_take), v_law_whole, (PySem.W.fnOf "_law_whole" "_law_whole" (defArgs s_law_whole) (defBody s_law_whole) (defScope s_law_whole) .none kV_law_whole dc_law_whole pm_law_whole an_law_whole cd_law_whole ct_law_whole), v_law_two, (PySem.W.fnOf "_law_two" "_law_two" (defArgs s_law_two) (defBody s_law_two) (defScope s_law_two) .none kV_law_two dc_law_two pm_law_two an_law_two cd_law_two ct_law_two), v_law_kind, (PySem.W.fnOf "_law_kind" "_law_kind" (defArgs s_law_kind) (defBody s_law_kind) (defScope s_law_kind) .none kV_law_kind dc_law_kind pm_law_kind an_law_kind cd_law_kind ct_law_kind), v_law_operands, (PySem.W.fnOf "_law_operands" "_law_operands" (defArgs s_law_operands) (defBody s_law_operands) (defScope s_law_operands) .none kV_law_operands dc_law_operands pm_law_operands an_law_operands cd_law_operands ct_law_operands), v_law_bits, (PySem.W.fnOf "_law_bits" "_law_bits" (defArgs s_law_bits) (defBody s_law_bits) (defScope s_law_bits) .none kV_law_bits dc_law_bits pm_law_bits an_law_bits cd_law_bits ct_law_bits), v_law_step_word, (PySem.W.fnOf "_law_step_word" "_law_step_word" (defArgs s_law_step_word) (defBody s_law_step_word) (defScope s_law_step_word) .none kV_law_step_word dc_law_step_word pm_law_step_word an_law_step_word cd_law_step_word ct_law_step_word), v_law_under, (PySem.W.fnOf "_law_under" "_law_under" (defArgs s_law_under) (defBody s_law_under) (defScope s_law_under) .none kV_law_under dc_law_under pm_law_under an_law_under cd_law_under ct_law_under), v_law_operand, (PySem.W.fnOf "_law_operand" "_law_operand" (defArgs s_law_operand) (defBody s_law_operand) (defScope s_law_operand) .none kV_law_operand dc_law_operand pm_law_operand an_law_operand cd_law_operand ct_law_operand), v_law_web_words, (PySem.W.fnOf "_law_web_words" "_law_web_words" (defArgs s_law_web_words) (defBody s_law_web_words) (defScope s_law_web_words) .none kV_law_web_words dc_law_web_words pm_law_web_words an_law_web_words cd_law_web_words ct_law_web_words), v_law_web_befores, (PySem.W.fnOf "_law_web_befores" "_law_web_befores" (defArgs s_law_web_befores) (defBody s_law_web_befores) (defScope s_law_web_befores) .none kV_law_web_befores dc_law_web_befores pm_law_web_befores an_law_web_befores cd_law_web_befores ct_law_web_befores), v_law_words, (PySem.W.fnOf "_law_words" "_law_words" (defArgs s_law_words) (defBody s_law_words) (defScope s_law_words) .none kV_law_words dc_law_words pm_law_words an_law_words cd_law_words ct_law_words), v_law_either, (PySem.W.fnOf "_law_either" "_law_either" (defArgs s_law_either) (defBody s_law_either) (defScope s_law_either) .none kV_law_either dc_law_either pm_law_either an_law_either cd_law_either ct_law_either), v_law_pick, (PySem.W.fnOf "_law_pick" "_law_pick" (defArgs s_law_pick) (defBody s_law_pick) (defScope s_law_pick) .none kV_law_pick dc_law_pick pm_law_pick an_law_pick cd_law_pick ct_law_pick), v_law_tuples, (PySem.W.fnOf "_law_tuples" "_law_tuples" (defArgs s_law_tuples) (defBody s_law_tuples) (defScope s_law_tuples) .none kV_law_tuples dc_law_tuples pm_law_tuples an_law_tuples cd_law_tuples ct_law_tuples), v_law_full_web, (PySem.W.fnOf "_law_full_web" "_law_full_web" (defArgs s_law_full_web) (defBody s_law_full_web) (defScope s_law_full_web) .none kV_law_full_web dc_law_full_web pm_law_full_web an_law_full_web cd_law_full_web ct_law_full_web), v_law_alive, (PySem.W.fnOf "_law_alive" "_law_alive" (defArgs s_law_alive) (defBody s_law_alive) (defScope s_law_alive) .none kV_law_alive dc_law_alive pm_law_alive an_law_alive cd_law_alive ct_law_alive), v_law_chain_steps, (PySem.W.fnOf "_law_chain_steps" "_law_chain_steps" (defArgs s_law_chain_steps) (defBody s_law_chain_steps) (defScope s_law_chain_steps) .none kV_law_chain_steps dc_law_chain_steps pm_law_chain_steps an_law_chain_steps cd_law_chain_steps ct_law_chain_steps), v_law_drawn_steps, (PySem.W.fnOf "_law_drawn_steps" "_law_drawn_steps" (defArgs s_law_drawn_steps) (defBody s_law_drawn_steps) (defScope s_law_drawn_steps) .none kV_law_drawn_steps dc_law_drawn_steps pm_law_drawn_steps an_law_drawn_steps cd_law_drawn_steps ct_law_drawn_steps), v_law_step_right, (PySem.W.fnOf "_law_step_right" "_law_step_right" (defArgs s_law_step_right) (defBody s_law_step_right) (defScope s_law_step_right) .none kV_law_step_right dc_law_step_right pm_law_step_right an_law_step_right cd_law_step_right ct_law_step_right), v_law_step_refused, (PySem.W.fnOf "_law_step_refused" "_law_step_refused" (defArgs s_law_step_refused) (defBody s_law_step_refused) (defScope s_law_step_refused) .none kV_law_step_refused dc_law_step_refused pm_law_step_refused an_law_step_refused cd_law_step_refused ct_law_step_refused), v_law_odd_kind, (PySem.W.fnOf "_law_odd_kind" "_law_odd_kind" (defArgs s_law_odd_kind) (defBody s_law_odd_kind) (defScope s_law_odd_kind) .none kV_law_odd_kind dc_law_odd_kind pm_law_odd_kind an_law_odd_kind cd_law_odd_kind ct_law_odd_kind), v_law_odd_operand, (PySem.W.fnOf "_law_odd_operand" "_law_odd_operand" (defArgs s_law_odd_operand) (defBody s_law_odd_operand) (defScope s_law_odd_operand) .none kV_law_odd_operand dc_law_odd_operand pm_law_odd_operand an_law_odd_operand cd_law_odd_operand ct_law_odd_operand), v_law_odd_steps, (PySem.W.fnOf "_law_odd_steps" "_law_odd_steps" (defArgs s_law_odd_steps) (defBody s_law_odd_steps) (defScope s_law_odd_steps) .none kV_law_odd_steps dc_law_odd_steps pm_law_odd_steps an_law_odd_steps cd_law_odd_steps ct_law_odd_steps), v_law_web_due, (PySem.W.fnOf "_law_web_due" "_law_web_due" (defArgs s_law_web_due) (defBody s_law_web_due) (defScope s_law_web_due) .none kV_law_web_due dc_law_web_due pm_law_web_due an_law_web_due cd_law_web_due ct_law_web_due), v_law_spoilt_rows, (PySem.W.fnOf "_law_spoilt_rows" "_law_spoilt_rows" (defArgs s_law_spoilt_rows) (defBody s_law_spoilt_rows) (defScope s_law_spoilt_rows) .none kV_law_spoilt_rows dc_law_spoilt_rows pm_law_spoilt_rows an_law_spoilt_rows cd_law_spoilt_rows ct_law_spoilt_rows), v_law_web_told, (PySem.W.fnOf "_law_web_told" "_law_web_told" (defArgs s_law_web_told) (defBody s_law_web_told) (defScope s_law_web_told) .none kV_law_web_told dc_law_web_told pm_law_web_told an_law_web_told cd_law_web_told ct_law_web_told), v_law_web_right, (PySem.W.fnOf "_law_web_right" "_law_web_right" (defArgs s_law_web_right) (defBody s_law_web_right) (defScope s_law_web_right) .none kV_law_web_right dc_law_web_right pm_law_web_right an_law_web_right cd_law_web_right ct_law_web_right), v_law_inputs_told, (PySem.W.fnOf "_law_inputs_told" "_law_inputs_told" (defArgs s_law_inputs_told) (defBody s_law_inputs_told) (defScope s_law_inputs_told) .none kV_law_inputs_told dc_law_inputs_told pm_law_inputs_told an_law_inputs_told cd_law_inputs_told ct_law_inputs_told), v_law_inputs_right, (PySem.W.fnOf "_law_inputs_right" "_law_inputs_right" (defArgs s_law_inputs_right) (defBody s_law_inputs_right) (defScope s_law_inputs_right) .none kV_law_inputs_right dc_law_inputs_right pm_law_inputs_right an_law_inputs_right cd_law_inputs_right ct_law_inputs_right), v_law_case, (PySem.W.fnOf "_law_case" "_law_case" (defArgs s_law_case) (defBody s_law_case) (defScope s_law_case) .none kV_law_case dc_law_case pm_law_case an_law_case cd_law_case ct_law_case), fa, (PySem.W.fnOf "law" "law" (defArgs s_law) (defBody s_law) (defScope s_law) .none kV_law dc_law pm_law an_law cd_law ct_law), u_c_UndoError, w_BadInputs, w_BadKind, w_BadStep, w_BadWeb, w_BadBare, w_Step, w_Bare, w_Web, v_BadInputs___init__, (PySem.W.fnOf "__init__" "BadInputs.__init__" (defArgs s_BadInputs___init__) (defBody s_BadInputs___init__) (defScope s_BadInputs___init__) .none kV_BadInputs___init__ dc_BadInputs___init__ pm_BadInputs___init__ an_BadInputs___init__ cd_BadInputs___init__ ct_BadInputs___init__), v_BadWeb___init__, (PySem.W.fnOf "__init__" "BadWeb.__init__" (defArgs s_BadWeb___init__) (defBody s_BadWeb___init__) (defScope s_BadWeb___init__) .none kV_BadWeb___init__ dc_BadWeb___init__ pm_BadWeb___init__ an_BadWeb___init__ cd_BadWeb___init__ ct_BadWeb___init__), v_BadBare___init__, (PySem.W.fnOf "__init__" "BadBare.__init__" (defArgs s_BadBare___init__) (defBody s_BadBare___init__) (defScope s_BadBare___init__) .none kV_BadBare___init__ dc_BadBare___init__ pm_BadBare___init__ an_BadBare___init__ cd_BadBare___init__ ct_BadBare___init__), v_Step___init__, (PySem.W.fnOf "__init__" "Step.__init__" (defArgs s_Step___init__) (defBody s_Step___init__) (defScope s_Step___init__) .none kV_Step___init__ dc_Step___init__ pm_Step___init__ an_Step___init__ cd_Step___init__ ct_Step___init__), v_Step___eq__, (PySem.W.fnOf "__eq__" "Step.__eq__" (defArgs s_Step___eq__) (defBody s_Step___eq__) (defScope s_Step___eq__) .none kV_Step___eq__ dc_Step___eq__ pm_Step___eq__ an_Step___eq__ cd_Step___eq__ ct_Step___eq__), v_Bare___init__, (PySem.W.fnOf "__init__" "Bare.__init__" (defArgs s_Bare___init__) (defBody s_Bare___init__) (defScope s_Bare___init__) .none kV_Bare___init__ dc_Bare___init__ pm_Bare___init__ an_Bare___init__ cd_Bare___init__ ct_Bare___init__), v_Bare___len__, (PySem.W.fnOf "__len__" "Bare.__len__" (defArgs s_Bare___len__) (defBody s_Bare___len__) (defScope s_Bare___len__) .none kV_Bare___len__ dc_Bare___len__ pm_Bare___len__ an_Bare___len__ cd_Bare___len__ ct_Bare___len__), v_Bare___eq__, (PySem.W.fnOf "__eq__" "Bare.__eq__" (defArgs s_Bare___eq__) (defBody s_Bare___eq__) (defScope s_Bare___eq__) .none kV_Bare___eq__ dc_Bare___eq__ pm_Bare___eq__ an_Bare___eq__ cd_Bare___eq__ ct_Bare___eq__), v_Web___init__, (PySem.W.fnOf "__init__" "Web.__init__" (defArgs s_Web___init__) (defBody s_Web___init__) (defScope s_Web___init__) .none kV_Web___init__ dc_Web___init__ pm_Web___init__ an_Web___init__ cd_Web___init__ ct_Web___init__), v_Web___len__, (PySem.W.fnOf "__len__" "Web.__len__" (defArgs s_Web___len__) (defBody s_Web___len__) (defScope s_Web___len__) .none kV_Web___len__ dc_Web___len__ pm_Web___len__ an_Web___len__ cd_Web___len__ ct_Web___len__), v_Web___iter__, (PySem.W.fnOf "__iter__" "Web.__iter__" (defArgs s_Web___iter__) (defBody s_Web___iter__) (defScope s_Web___iter__) .none kV_Web___iter__ dc_Web___iter__ pm_Web___iter__ an_Web___iter__ cd_Web___iter__ ct_Web___iter__), v_Web___eq__, (PySem.W.fnOf "__eq__" "Web.__eq__" (defArgs s_Web___eq__) (defBody s_Web___eq__) (defScope s_Web___eq__) .none kV_Web___eq__ dc_Web___eq__ pm_Web___eq__ an_Web___eq__ cd_Web___eq__ ct_Web___eq__), p_TABLE_SIZES, p_PAIR_SIGNS, p_SHIFT_SIGNS, p_OPERAND_ENDS⟩ := ⟨PySem.W.mg_of X G hm_UndoError, ⟨ve_g, ve_k, xb_BadStep, ve_d, ve_a, yc_hn, yc_ht, ve_m⟩, vk_u, vk_v, vk_w⟩
  exact ⟨(PySem.W.fnOf "law" "law" (defArgs s_law) (defBody s_law) (defScope s_law) .none kV_law dc_law pm_law an_law cd_law ct_law), fun s u => .of_eq rfl, fun base _ _ => ok_law T D I Y⟩
theorem walk {l : PySem.W.OpenLaw} {q : Program} {loose : List Str} {XP : (Str → Option Value) → Heap → Prop} {YP : World → Heap → Prop} {d : DefRec} {K : Params → PySem.W.Frag} (hn : l.most = some 63) (hdf : d.params.defaults = [])
    (hY : ∀ (w : World) (h : Heap), YP w h → (K w.params).In h)
    (F : ∀ (w : World) (mg : Str → Option Value) (fa : Addr) (h : Heap), (K w.params).In h → h.Ns mainGlobals mg → mg d.name = some (.ref fa) →
      ∃ fd : FuncData, (∀ (s : Shared) (u : Value), BindsTo s fd ⟨[u], []⟩ [("_law_script", u)]) ∧ ∀ base : Heap, (K w.params).In base → base.Ns mainGlobals mg → FnOk l.prog w (K w.params) mg base CX0 13 fa fd ["_law_script"] (spLaw (K w.params))) :
    PySem.W.WalkO q loose XP YP l.row.toRowW d [] (fun f vs => PySem.call f vs) :=
  L2.walk_of (n := 63) (k := 13) (x := "_law_script") (CX := (fun _ => CX0)) (sp := fun w => spLaw (K w.params)) hn (by decide) hdf ⟨rfl, by decide, by decide⟩ hY F (fun _ _ a ns hl _ hS => ⟨a, ns, rfl, hS, hl, fun _ => rfl⟩) fun _ _ _ _ _ z => z
end My
open PySem PySem.W PyProof.Rows in
set_option maxRecDepth 100000 in
set_option maxHeartbeats 0 in
theorem PySem.Challenge.cw_undocells_k06_whole_steps_and_webs_made_holds : PySem.Challenge.rw_undocells_k06_whole_steps_and_webs_made.Holds := by
  w_on; o_law; k_head; (case hw => w_witness2)
  k_fill
  refine My.walk (l := PySem.Challenge.rw_undocells_k06_whole_steps_and_webs_made) rfl rfl (fun w h Y => PySem.W.kIn_of Y) ?F
  case F =>
    intro w mg fa h KX G hmg
    refine' My.all_mk KX G hmg ?hm_BadInputs ?hm_BadWeb ?hm_BadBare ?hm_BadKind ?hm_BadStep ?hm_Step ?hm_Bare ?hm_Web ?xl_BadInputs ?xv_BadInputs ?xs_BadInputs ?xg_BadInputs ?xh_BadInputs ?xk_BadInputs ?xb_BadInputs ?xy_BadInputs ?xd_BadInputs ?xc_BadInputs ?xz_BadInputs ?xl_BadWeb ?xv_BadWeb ?xs_BadWeb ?xg_BadWeb ?xh_BadWeb ?xk_BadWeb ?xb_BadWeb ?xy_BadWeb ?xd_BadWeb ?xc_BadWeb ?xz_BadWeb ?xl_BadBare ?xv_BadBare ?xs_BadBare ?xg_BadBare ?xh_BadBare ?xk_BadBare ?xb_BadBare ?xy_BadBare ?xd_BadBare ?xc_BadBare ?xz_BadBare ?xq_BadKind ?xk_BadKind ?xb_BadKind ?xy_BadKind ?xc_BadKind ?xz_BadKind ?xq_BadStep ?xk_BadStep ?xb_BadStep ?xy_BadStep ?xc_BadStep ?xz_BadStep ?ya_Step ?ya_Bare ?ya_Web ?hat_Step___eq__ ?hat_Bare___len__ ?hat_Bare___eq__ ?hat_Web___len__ ?hat_Web___iter__ ?hat_Web___eq__ ?hxi_BadInputs ?hxt_BadInputs ?hxn_BadInputs_index ?hxn_BadInputs_what ?hxi_BadWeb ?hxt_BadWeb ?hxn_BadWeb_place ?hxn_BadWeb_what ?hxi_BadBare ?hxt_BadBare ?hxn_BadBare_place ?hxn_BadBare_what ?hm_is_whole ?hl_is_whole ?hc_is_whole ?hk_is_whole ?hm_is_within ?hl_is_within ?hc_is_within ?hk_is_within ?hm_is_sequence ?hl_is_sequence ?hc_is_sequence ?hk_is_sequence ?hm_mask_of ?hl_mask_of ?hc_mask_of ?hk_mask_of ?hm_check_inputs ?hl_check_inputs ?hc_check_inputs ?hk_check_inputs ?hm_is_number ?hl_is_number ?hc_is_number ?hk_is_number ?hm_is_table ?hl_is_table ?hc_is_table ?hk_is_table ?hm_check_kind ?hl_check_kind ?hc_check_kind ?hk_check_kind ?hm_operand_count ?hl_operand_count ?hc_operand_count ?hk_operand_count ?hm_step_word ?hl_step_word ?hc_step_word ?hk_step_word ?hm_pair_word ?hl_pair_word ?hc_pair_word ?hk_pair_word ?hm_single_word ?hl_single_word ?hc_single_word ?hk_single_word ?hm_is_operand ?hl_is_operand ?hc_is_operand ?hk_is_operand ?hm_checked_kind ?hl_checked_kind ?hc_checked_kind ?hk_checked_kind ?hm_checked_operands ?hl_checked_operands ?hc_checked_operands ?hk_checked_operands ?hm_is_place ?hl_is_place ?hc_is_place ?hk_is_place ?hm_is_before_list ?hl_is_before_list ?hc_is_before_list ?hk_is_before_list ?hm_checked_befores ?hl_checked_befores ?hc_checked_befores ?hk_checked_befores ?hm_afters_of ?hl_afters_of ?hc_afters_of ?hk_afters_of ?hm_ordered_of ?hl_ordered_of ?hc_ordered_of ?hk_ordered_of ?hm_reached_along ?hl_reached_along ?hc_reached_along ?hk_reached_along ?hm_check_rings ?hl_check_rings ?hc_check_rings ?hk_check_rings ?hm_check_roads ?hl_check_roads ?hc_check_roads ?hk_check_roads ?hm_check_shape ?hl_check_shape ?hc_check_shape ?hk_check_shape ?hm_check_steps ?hl_check_steps ?hc_check_steps ?hk_check_steps ?hm_check_idle ?hl_check_idle ?hc_check_idle ?hk_check_idle ?hm_operand_word ?hl_operand_word ?hc_operand_word ?hk_operand_word ?hm_word_over ?hl_word_over ?hc_word_over ?hk_word_over ?hm_web_worths ?hl_web_worths ?hc_web_worths ?hk_web_worths ?hm_web_worth ?hl_web_worth ?hc_web_worth ?hk_web_worth ?hm_law_hand ?hl_law_hand ?hc_law_hand ?hk_law_hand ?hm_law_mixed ?hl_law_mixed ?hc_law_mixed ?hk_law_mixed ?hm_law_take ?hl_law_take ?hc_law_take ?hk_law_take ?hm_law_whole ?hl_law_whole ?hc_law_whole ?hk_law_whole ?hm_law_two ?hl_law_two ?hc_law_two ?hk_law_two ?hm_law_kind ?hl_law_kind ?hc_law_kind ?hk_law_kind ?hm_law_operands ?hl_law_operands ?hc_law_operands ?hk_law_operands ?hm_law_bits ?hl_law_bits ?hc_law_bits ?hk_law_bits ?hm_law_step_word ?hl_law_step_word ?hc_law_step_word ?hk_law_step_word ?hm_law_under ?hl_law_under ?hc_law_under ?hk_law_under ?hm_law_operand ?hl_law_operand ?hc_law_operand ?hk_law_operand ?hm_law_web_words ?hl_law_web_words ?hc_law_web_words ?hk_law_web_words ?hm_law_web_befores ?hl_law_web_befores ?hc_law_web_befores ?hk_law_web_befores ?hm_law_words ?hl_law_words ?hc_law_words ?hk_law_words ?hm_law_either ?hl_law_either ?hc_law_either ?hk_law_either ?hm_law_pick ?hl_law_pick ?hc_law_pick ?hk_law_pick ?hm_law_tuples ?hl_law_tuples ?hc_law_tuples ?hk_law_tuples ?hm_law_full_web ?hl_law_full_web ?hc_law_full_web ?hk_law_full_web ?hm_law_alive ?hl_law_alive ?hc_law_alive ?hk_law_alive ?hm_law_chain_steps ?hl_law_chain_steps ?hc_law_chain_steps ?hk_law_chain_steps ?hm_law_drawn_steps ?hl_law_drawn_steps ?hc_law_drawn_steps ?hk_law_drawn_steps ?hm_law_step_right ?hl_law_step_right ?hc_law_step_right ?hk_law_step_right ?hm_law_step_refused ?hl_law_step_refused ?hc_law_step_refused ?hk_law_step_refused ?hm_law_odd_kind ?hl_law_odd_kind ?hc_law_odd_kind ?hk_law_odd_kind ?hm_law_odd_operand ?hl_law_odd_operand ?hc_law_odd_operand ?hk_law_odd_operand ?hm_law_odd_steps ?hl_law_odd_steps ?hc_law_odd_steps ?hk_law_odd_steps ?hm_law_web_due ?hl_law_web_due ?hc_law_web_due ?hk_law_web_due ?hm_law_spoilt_rows ?hl_law_spoilt_rows ?hc_law_spoilt_rows ?hk_law_spoilt_rows ?hm_law_web_told ?hl_law_web_told ?hc_law_web_told ?hk_law_web_told ?hm_law_web_right ?hl_law_web_right ?hc_law_web_right ?hk_law_web_right ?hm_law_inputs_told ?hl_law_inputs_told ?hc_law_inputs_told ?hk_law_inputs_told ?hm_law_inputs_right ?hl_law_inputs_right ?hc_law_inputs_right ?hk_law_inputs_right ?hm_law_case ?hl_law_case ?hc_law_case ?hk_law_case ?hm_law ?hl_law ?hc_law ?hk_law ?hl_BadInputs___init__ ?hc_BadInputs___init__ ?hk_BadInputs___init__ ?hl_BadWeb___init__ ?hc_BadWeb___init__ ?hk_BadWeb___init__ ?hl_BadBare___init__ ?hc_BadBare___init__ ?hk_BadBare___init__ ?hl_Step___init__ ?hc_Step___init__ ?hk_Step___init__ ?hl_Step___eq__ ?hc_Step___eq__ ?hk_Step___eq__ ?hl_Bare___init__ ?hc_Bare___init__ ?hk_Bare___init__ ?hl_Bare___len__ ?hc_Bare___len__ ?hk_Bare___len__ ?hl_Bare___eq__ ?hc_Bare___eq__ ?hk_Bare___eq__ ?hl_Web___init__ ?hc_Web___init__ ?hk_Web___init__ ?hl_Web___len__ ?hc_Web___len__ ?hk_Web___len__ ?hl_Web___iter__ ?hc_Web___iter__ ?hk_Web___iter__ ?hl_Web___eq__ ?hc_Web___eq__ ?hk_Web___eq__ ?hm_MOST_WIDTH ?hm_MOST_NUMBER ?hm_TABLE_SIZES ?tl_TABLE_SIZES ?ti_TABLE_SIZES ?tz_TABLE_SIZES ?hm_PAIR_SIGNS ?tl_PAIR_SIGNS ?ti_PAIR_SIGNS ?tz_PAIR_SIGNS ?hm_SHIFT_SIGNS ?tl_SHIFT_SIGNS ?ti_SHIFT_SIGNS ?tz_SHIFT_SIGNS ?hm_MOST_PLACES ?hm_MOST_GIVEN ?hm_OPERAND_ENDS ?dl_OPERAND_ENDS ?hz_ValueError ?hz_abs ?hz_all ?hz_any ?hz_bool ?hz_enumerate ?hz_int ?hz_isinstance ?hz_iter ?hz_len ?hz_list ?hz_range ?hz_set ?hz_sorted ?hz_str ?hz_tuple ?hm_UndoError ?yc_mk_Step ?yc_fn_Step ?yc_kp_Step ?yc_pg_Step ?yc_hd_Step ?yc_po_Step ?yc_sa_Step ?yc_ha_Step ?yc_hm_Step ?yc_me_Step ?yc_mk_Bare ?yc_fn_Bare ?yc_kp_Bare ?yc_pg_Bare ?yc_hd_Bare ?yc_po_Bare ?yc_sa_Bare ?yc_ha_Bare ?yc_hm_Bare ?yc_me_Bare ?yc_mk_Web ?yc_fn_Web ?yc_kp_Web ?yc_pg_Web ?yc_hd_Web ?yc_po_Web ?yc_sa_Web ?yc_ha_Web ?yc_hm_Web ?yc_me_Web ?yc_hn ?yc_ht ?hfn_Step___eq__ ?hne_Step ?hna_Step_kind ?hna_Step_operands ?hna_Step_befores ?hfn_Bare___len__ ?hfn_Bare___eq__ ?hne_Bare ?hna_Bare_befores ?hna_Bare_end ?hna_Bare_afters ?hna_Bare_ordered ?hna_Bare_needs ?hfn_Web___len__ ?hfn_Web___iter__ ?hfn_Web___eq__ ?hne_Web ?hna_Web_width ?hna_Web_many ?hna_Web_steps ?hna_Web_end ?hna_Web_bare ?ve_g ?ve_k ?ve_d ?ve_a ?ve_m ?vk_u ?vk_v ?vk_w ?vi_n ?vi_i ?vi_s ?dt_reached_along ?dh_0 ?dh_1 ?dh_2 ?dh_3 ?ti_reached_along ?dk_OPERAND_ENDS ?do_OPERAND_ENDS
    (case hm_BadInputs => k_is)
    (case hm_BadWeb => k_is)
    (case hm_BadBare => k_is)
    (case hm_BadKind => k_is)
    (case hm_BadStep => k_is)
    (case hm_Step => k_is)
    (case hm_Bare => k_is)
    (case hm_Web => k_is)
    (case xl_BadInputs => k_is)
    (case xv_BadInputs => decide +kernel)
    (case xs_BadInputs => k_is)
    (case xg_BadInputs => k_is)
    (case xh_BadInputs => k_is)
    (case xk_BadInputs => k_is)
    (case xb_BadInputs => k_is)
    (case xy_BadInputs => k_is)
    (case xd_BadInputs => k_is)
    (case xc_BadInputs => k_is)
    (case xz_BadInputs => first | rfl | k_is)
    (case xl_BadWeb => k_is)
    (case xv_BadWeb => decide +kernel)
    (case xs_BadWeb => k_is)
    (case xg_BadWeb => k_is)
    (case xh_BadWeb => k_is)
    (case xk_BadWeb => k_is)
    (case xb_BadWeb => k_is)
    (case xy_BadWeb => k_is)
    (case xd_BadWeb => k_is)
    (case xc_BadWeb => k_is)
    (case xz_BadWeb => first | rfl | k_is)
    (case xl_BadBare => k_is)
    (case xv_BadBare => decide +kernel)
    (case xs_BadBare => k_is)
    (case xg_BadBare => k_is)
    (case xh_BadBare => k_is)
    (case xk_BadBare => k_is)
    (case xb_BadBare => k_is)
    (case xy_BadBare => k_is)
    (case xd_BadBare => k_is)
    (case xc_BadBare => k_is)
    (case xz_BadBare => first | rfl | k_is)
    (case xq_BadKind => k_exc)
    (case xk_BadKind => k_is)
    (case xb_BadKind => k_is)
    (case xy_BadKind => k_is)
    (case xc_BadKind => k_is)
    (case xz_BadKind => first | rfl | k_is)
    (case xq_BadStep => k_exc)
    (case xk_BadStep => k_is)
    (case xb_BadStep => k_is)
    (case xy_BadStep => k_is)
    (case xc_BadStep => k_is)
    (case xz_BadStep => first | rfl | k_is)
    (case ya_Step => k_is)
    (case ya_Bare => k_is)
    (case ya_Web => k_is)
    (case hat_Step___eq__ => k_is)
    (case hat_Bare___len__ => k_is)
    (case hat_Bare___eq__ => k_is)
    (case hat_Web___len__ => k_is)
    (case hat_Web___iter__ => k_is)
    (case hat_Web___eq__ => k_is)
    (case hxi_BadInputs => k_is)
    (case hxt_BadInputs => k_is)
    (case hxn_BadInputs_index => k_is)
    (case hxn_BadInputs_what => k_is)
    (case hxi_BadWeb => k_is)
    (case hxt_BadWeb => k_is)
    (case hxn_BadWeb_place => k_is)
    (case hxn_BadWeb_what => k_is)
    (case hxi_BadBare => k_is)
    (case hxt_BadBare => k_is)
    (case hxn_BadBare_place => k_is)
    (case hxn_BadBare_what => k_is)
    (case hm_is_whole => k_is)
    (case hl_is_whole => k_is)
    (case hc_is_whole => k_is)
    (case hk_is_whole => k_is)
    (case hm_is_within => k_is)
    (case hl_is_within => k_is)
    (case hc_is_within => k_is)
    (case hk_is_within => k_is)
    (case hm_is_sequence => k_is)
    (case hl_is_sequence => k_is)
    (case hc_is_sequence => k_is)
    (case hk_is_sequence => k_is)
    (case hm_mask_of => k_is)
    (case hl_mask_of => k_is)
    (case hc_mask_of => k_is)
    (case hk_mask_of => k_is)
    (case hm_check_inputs => k_is)
    (case hl_check_inputs => k_is)
    (case hc_check_inputs => k_is)
    (case hk_check_inputs => k_is)
    (case hm_is_number => k_is)
    (case hl_is_number => k_is)
    (case hc_is_number => k_is)
    (case hk_is_number => k_is)
    (case hm_is_table => k_is)
    (case hl_is_table => k_is)
    (case hc_is_table => k_is)
    (case hk_is_table => k_is)
    (case hm_check_kind => k_is)
    (case hl_check_kind => k_is)
    (case hc_check_kind => k_is)
    (case hk_check_kind => k_is)
    (case hm_operand_count => k_is)
    (case hl_operand_count => k_is)
    (case hc_operand_count => k_is)
    (case hk_operand_count => k_is)
    (case hm_step_word => k_is)
    (case hl_step_word => k_is)
    (case hc_step_word => k_is)
    (case hk_step_word => k_is)
    (case hm_pair_word => k_is)
    (case hl_pair_word => k_is)
    (case hc_pair_word => k_is)
    (case hk_pair_word => k_is)
    (case hm_single_word => k_is)
    (case hl_single_word => k_is)
    (case hc_single_word => k_is)
    (case hk_single_word => k_is)
    (case hm_is_operand => k_is)
    (case hl_is_operand => k_is)
    (case hc_is_operand => k_is)
    (case hk_is_operand => k_is)
    (case hm_checked_kind => k_is)
    (case hl_checked_kind => k_is)
    (case hc_checked_kind => k_is)
    (case hk_checked_kind => k_is)
    (case hm_checked_operands => k_is)
    (case hl_checked_operands => k_is)
    (case hc_checked_operands => k_is)
    (case hk_checked_operands => k_is)
    (case hm_is_place => k_is)
    (case hl_is_place => k_is)
    (case hc_is_place => k_is)
    (case hk_is_place => k_is)
    (case hm_is_before_list => k_is)
    (case hl_is_before_list => k_is)
    (case hc_is_before_list => k_is)
    (case hk_is_before_list => k_is)
    (case hm_checked_befores => k_is)
    (case hl_checked_befores => k_is)
    (case hc_checked_befores => k_is)
    (case hk_checked_befores => k_is)
    (case hm_afters_of => k_is)
    (case hl_afters_of => k_is)
    (case hc_afters_of => k_is)
    (case hk_afters_of => k_is)
    (case hm_ordered_of => k_is)
    (case hl_ordered_of => k_is)
    (case hc_ordered_of => k_is)
    (case hk_ordered_of => k_is)
    (case hm_reached_along => k_is)
    (case hl_reached_along => k_is)
    (case hc_reached_along => k_is)
    (case hk_reached_along => k_is)
    (case hm_check_rings => k_is)
    (case hl_check_rings => k_is)
    (case hc_check_rings => k_is)
    (case hk_check_rings => k_is)
    (case hm_check_roads => k_is)
    (case hl_check_roads => k_is)
    (case hc_check_roads => k_is)
    (case hk_check_roads => k_is)
    (case hm_check_shape => k_is)
    (case hl_check_shape => k_is)
    (case hc_check_shape => k_is)
    (case hk_check_shape => k_is)
    (case hm_check_steps => k_is)
    (case hl_check_steps => k_is)
    (case hc_check_steps => k_is)
    (case hk_check_steps => k_is)
    (case hm_check_idle => k_is)
    (case hl_check_idle => k_is)
    (case hc_check_idle => k_is)
    (case hk_check_idle => k_is)
    (case hm_operand_word => k_is)
    (case hl_operand_word => k_is)
    (case hc_operand_word => k_is)
    (case hk_operand_word => k_is)
    (case hm_word_over => k_is)
    (case hl_word_over => k_is)
    (case hc_word_over => k_is)
    (case hk_word_over => k_is)
    (case hm_web_worths => k_is)
    (case hl_web_worths => k_is)
    (case hc_web_worths => k_is)
    (case hk_web_worths => k_is)
    (case hm_web_worth => k_is)
    (case hl_web_worth => k_is)
    (case hc_web_worth => k_is)
    (case hk_web_worth => k_is)
    (case hm_law_hand => k_is)
    (case hl_law_hand => k_is)
    (case hc_law_hand => k_is)
    (case hk_law_hand => k_is)
    (case hm_law_mixed => k_is)
    (case hl_law_mixed => k_is)
    (case hc_law_mixed => k_is)
    (case hk_law_mixed => k_is)
    (case hm_law_take => k_is)
    (case hl_law_take => k_is)
    (case hc_law_take => k_is)
    (case hk_law_take => k_is)
    (case hm_law_whole => k_is)
    (case hl_law_whole => k_is)
    (case hc_law_whole => k_is)
    (case hk_law_whole => k_is)
    (case hm_law_two => k_is)
    (case hl_law_two => k_is)
    (case hc_law_two => k_is)
    (case hk_law_two => k_is)
    (case hm_law_kind => k_is)
    (case hl_law_kind => k_is)
    (case hc_law_kind => k_is)
    (case hk_law_kind => k_is)
    (case hm_law_operands => k_is)
    (case hl_law_operands => k_is)
    (case hc_law_operands => k_is)
    (case hk_law_operands => k_is)
    (case hm_law_bits => k_is)
    (case hl_law_bits => k_is)
    (case hc_law_bits => k_is)
    (case hk_law_bits => k_is)
    (case hm_law_step_word => k_is)
    (case hl_law_step_word => k_is)
    (case hc_law_step_word => k_is)
    (case hk_law_step_word => k_is)
    (case hm_law_under => k_is)
    (case hl_law_under => k_is)
    (case hc_law_under => k_is)
    (case hk_law_under => k_is)
    (case hm_law_operand => k_is)
    (case hl_law_operand => k_is)
    (case hc_law_operand => k_is)
    (case hk_law_operand => k_is)
    (case hm_law_web_words => k_is)
    (case hl_law_web_words => k_is)
    (case hc_law_web_words => k_is)
    (case hk_law_web_words => k_is)
    (case hm_law_web_befores => k_is)
    (case hl_law_web_befores => k_is)
    (case hc_law_web_befores => k_is)
    (case hk_law_web_befores => k_is)
    (case hm_law_words => k_is)
    (case hl_law_words => k_is)
    (case hc_law_words => k_is)
    (case hk_law_words => k_is)
    (case hm_law_either => k_is)
    (case hl_law_either => k_is)
    (case hc_law_either => k_is)
    (case hk_law_either => k_is)
    (case hm_law_pick => k_is)
    (case hl_law_pick => k_is)
    (case hc_law_pick => k_is)
    (case hk_law_pick => k_is)
    (case hm_law_tuples => k_is)
    (case hl_law_tuples => k_is)
    (case hc_law_tuples => k_is)
    (case hk_law_tuples => k_is)
    (case hm_law_full_web => k_is)
    (case hl_law_full_web => k_is)
    (case hc_law_full_web => k_is)
    (case hk_law_full_web => k_is)
    (case hm_law_alive => k_is)
    (case hl_law_alive => k_is)
    (case hc_law_alive => k_is)
    (case hk_law_alive => k_is)
    (case hm_law_chain_steps => k_is)
    (case hl_law_chain_steps => k_is)
    (case hc_law_chain_steps => k_is)
    (case hk_law_chain_steps => k_is)
    (case hm_law_drawn_steps => k_is)
    (case hl_law_drawn_steps => k_is)
    (case hc_law_drawn_steps => k_is)
    (case hk_law_drawn_steps => k_is)
    (case hm_law_step_right => k_is)
    (case hl_law_step_right => k_is)
    (case hc_law_step_right => k_is)
    (case hk_law_step_right => k_is)
    (case hm_law_step_refused => k_is)
    (case hl_law_step_refused => k_is)
    (case hc_law_step_refused => k_is)
    (case hk_law_step_refused => k_is)
    (case hm_law_odd_kind => k_is)
    (case hl_law_odd_kind => k_is)
    (case hc_law_odd_kind => k_is)
    (case hk_law_odd_kind => k_is)
    (case hm_law_odd_operand => k_is)
    (case hl_law_odd_operand => k_is)
    (case hc_law_odd_operand => k_is)
    (case hk_law_odd_operand => k_is)
    (case hm_law_odd_steps => k_is)
    (case hl_law_odd_steps => k_is)
    (case hc_law_odd_steps => k_is)
    (case hk_law_odd_steps => k_is)
    (case hm_law_web_due => k_is)
    (case hl_law_web_due => k_is)
    (case hc_law_web_due => k_is)
    (case hk_law_web_due => k_is)
    (case hm_law_spoilt_rows => k_is)
    (case hl_law_spoilt_rows => k_is)
    (case hc_law_spoilt_rows => k_is)
    (case hk_law_spoilt_rows => k_is)
    (case hm_law_web_told => k_is)
    (case hl_law_web_told => k_is)
    (case hc_law_web_told => k_is)
    (case hk_law_web_told => k_is)
    (case hm_law_web_right => k_is)
    (case hl_law_web_right => k_is)
    (case hc_law_web_right => k_is)
    (case hk_law_web_right => k_is)
    (case hm_law_inputs_told => k_is)
    (case hl_law_inputs_told => k_is)
    (case hc_law_inputs_told => k_is)
    (case hk_law_inputs_told => k_is)
    (case hm_law_inputs_right => k_is)
    (case hl_law_inputs_right => k_is)
    (case hc_law_inputs_right => k_is)
    (case hk_law_inputs_right => k_is)
    (case hm_law_case => k_is)
    (case hl_law_case => k_is)
    (case hc_law_case => k_is)
    (case hk_law_case => k_is)
    (case hm_law => k_is)
    (case hl_law => k_is)
    (case hc_law => k_is)
    (case hk_law => k_is)
    (case hl_BadInputs___init__ => k_is)
    (case hc_BadInputs___init__ => k_is)
    (case hk_BadInputs___init__ => k_is)
    (case hl_BadWeb___init__ => k_is)
    (case hc_BadWeb___init__ => k_is)
    (case hk_BadWeb___init__ => k_is)
    (case hl_BadBare___init__ => k_is)
    (case hc_BadBare___init__ => k_is)
    (case hk_BadBare___init__ => k_is)
    (case hl_Step___init__ => k_is)
    (case hc_Step___init__ => k_is)
    (case hk_Step___init__ => k_is)
    (case hl_Step___eq__ => k_is)
    (case hc_Step___eq__ => k_is)
    (case hk_Step___eq__ => k_is)
    (case hl_Bare___init__ => k_is)
    (case hc_Bare___init__ => k_is)
    (case hk_Bare___init__ => k_is)
    (case hl_Bare___len__ => k_is)
    (case hc_Bare___len__ => k_is)
    (case hk_Bare___len__ => k_is)
    (case hl_Bare___eq__ => k_is)
    (case hc_Bare___eq__ => k_is)
    (case hk_Bare___eq__ => k_is)
    (case hl_Web___init__ => k_is)
    (case hc_Web___init__ => k_is)
    (case hk_Web___init__ => k_is)
    (case hl_Web___len__ => k_is)
    (case hc_Web___len__ => k_is)
    (case hk_Web___len__ => k_is)
    (case hl_Web___iter__ => k_is)
    (case hc_Web___iter__ => k_is)
    (case hk_Web___iter__ => k_is)
    (case hl_Web___eq__ => k_is)
    (case hc_Web___eq__ => k_is)
    (case hk_Web___eq__ => k_is)
    (case hm_MOST_WIDTH => k_is)
    (case hm_MOST_NUMBER => k_is)
    (case hm_TABLE_SIZES => k_is)
    (case tl_TABLE_SIZES => k_is)
    (case ti_TABLE_SIZES => decide +kernel)
    (case tz_TABLE_SIZES => decide +kernel)
    (case hm_PAIR_SIGNS => k_is)
    (case tl_PAIR_SIGNS => k_is)
    (case ti_PAIR_SIGNS => decide +kernel)
    (case tz_PAIR_SIGNS => decide +kernel)
    (case hm_SHIFT_SIGNS => k_is)
    (case tl_SHIFT_SIGNS => k_is)
    (case ti_SHIFT_SIGNS => decide +kernel)
    (case tz_SHIFT_SIGNS => decide +kernel)
    (case hm_MOST_PLACES => k_is)
    (case hm_MOST_GIVEN => k_is)
    (case hm_OPERAND_ENDS => k_is)
    (case dl_OPERAND_ENDS => k_is)
    (case hz_ValueError => k_is)
    (case hz_abs => k_is)
    (case hz_all => k_is)
    (case hz_any => k_is)
    (case hz_bool => k_is)
    (case hz_enumerate => k_is)
    (case hz_int => k_is)
    (case hz_isinstance => k_is)
    (case hz_iter => k_is)
    (case hz_len => k_is)
    (case hz_list => k_is)
    (case hz_range => k_is)
    (case hz_set => k_is)
    (case hz_sorted => k_is)
    (case hz_str => k_is)
    (case hz_tuple => k_is)
    (case hm_UndoError => k_is)
    (case yc_mk_Step => first | k_is | rfl | decide)
    (case yc_fn_Step => first | k_is | rfl | decide)
    (case yc_kp_Step => first | k_is | rfl | decide)
    (case yc_pg_Step => first | k_is | rfl | decide)
    (case yc_hd_Step => first | k_is | rfl | decide)
    (case yc_po_Step => first | k_is | rfl | decide)
    (case yc_sa_Step => first | k_is | rfl | decide)
    (case yc_ha_Step => first | k_is | rfl | decide)
    (case yc_hm_Step => first | k_is | rfl | decide)
    (case yc_me_Step => first | k_is | rfl | decide)
    (case yc_mk_Bare => first | k_is | rfl | decide)
    (case yc_fn_Bare => first | k_is | rfl | decide)
    (case yc_kp_Bare => first | k_is | rfl | decide)
    (case yc_pg_Bare => first | k_is | rfl | decide)
    (case yc_hd_Bare => first | k_is | rfl | decide)
    (case yc_po_Bare => first | k_is | rfl | decide)
    (case yc_sa_Bare => first | k_is | rfl | decide)
    (case yc_ha_Bare => first | k_is | rfl | decide)
    (case yc_hm_Bare => first | k_is | rfl | decide)
    (case yc_me_Bare => first | k_is | rfl | decide)
    (case yc_mk_Web => first | k_is | rfl | decide)
    (case yc_fn_Web => first | k_is | rfl | decide)
    (case yc_kp_Web => first | k_is | rfl | decide)
    (case yc_pg_Web => first | k_is | rfl | decide)
    (case yc_hd_Web => first | k_is | rfl | decide)
    (case yc_po_Web => first | k_is | rfl | decide)
    (case yc_sa_Web => first | k_is | rfl | decide)
    (case yc_ha_Web => first | k_is | rfl | decide)
    (case yc_hm_Web => first | k_is | rfl | decide)
    (case yc_me_Web => first | k_is | rfl | decide)
    (case yc_hn => first | k_is | rfl | decide)
    (case yc_ht => first | k_is | rfl | decide)
    (case hfn_Step___eq__ => k_is)
    (case hne_Step => k_is)
    (case hna_Step_kind => k_is)
    (case hna_Step_operands => k_is)
    (case hna_Step_befores => k_is)
    (case hfn_Bare___len__ => k_is)
    (case hfn_Bare___eq__ => k_is)
    (case hne_Bare => k_is)
    (case hna_Bare_befores => k_is)
    (case hna_Bare_end => k_is)
    (case hna_Bare_afters => k_is)
    (case hna_Bare_ordered => k_is)
    (case hna_Bare_needs => k_is)
    (case hfn_Web___len__ => k_is)
    (case hfn_Web___iter__ => k_is)
    (case hfn_Web___eq__ => k_is)
    (case hne_Web => k_is)
    (case hna_Web_width => k_is)
    (case hna_Web_many => k_is)
    (case hna_Web_steps => k_is)
    (case hna_Web_end => k_is)
    (case hna_Web_bare => k_is)
    (case ve_g => first | k_is | rfl | decide)
    (case ve_k => first | k_is | rfl | decide)
    (case ve_d => first | k_is | rfl | decide)
    (case ve_a => first | k_is | rfl | decide)
    (case ve_m => first | k_is | rfl | decide)
    (case vk_u => first | k_is | rfl | decide)
    (case vk_v => first | k_is | rfl | decide)
    (case vk_w => first | k_is | rfl | decide)
    (case vi_n => first | k_is | rfl | decide)
    (case vi_i => first | k_is | rfl | decide)
    (case vi_s => first | k_is | rfl | decide)
    (case dt_reached_along => k_is)
    (case dh_0 => k_is)
    (case dh_1 => k_is)
    (case dh_2 => k_is)
    (case dh_3 => k_is)
    (case ti_reached_along => decide +kernel)
    (case dk_OPERAND_ENDS => repeat (first | exact trivial | refine ⟨⟨_, _, rfl, rfl⟩, ?_⟩))
    (case do_OPERAND_ENDS => first | rfl | decide | k_is)
#print axioms PySem.Challenge.cw_undocells_k06_whole_steps_and_webs_made_holds
