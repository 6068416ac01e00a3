import PyProof.Rows.All
import Wide.All
import OpenK.AllK
import Wide.FinOn
import HandS.ForMost
import HandS.Exc
import HandS.TryOnly
import HandS.ExcOwn
import HandS.WordsExc
import HandS.ExcInit
import HandS.ExcField
import HandS.IsInst
import HandS.Evl
import HandS.Deep
import HandS.WideBits
import HandS.Codes
import HandS.Conv
import HandS.Dict
import HandS.Small
import HandS.More
import HandS.Property
import HandS.OwnEq
import HandS.SetKeys
import HandS.Defaults
import HandS.RaiseFrom
import HandS.SuiteRaise
import HandS.Set
import HandS.SetIn
import HandS.Style
import HandS.OwnIter
import HandS.Iter
import HandS.IterVal
import HandS.TupMul
import HandS.Sort
import HandS.SortInts
import HandS.SortOrd
import KE.GoesEnum
import KE.GoesMore
import HandS.DictTup
import HandS.List
import PySem.Challenge.RW_undocells_k18_whole_namings_and_naming_p
import HandS.ExcCtx
import HandS.Hot
import HandS.HotCalls
import HandS.SetFor
import HandS.Strs
import PyProof.SetRoads
import HandS.Text
import PyProof.AutoSeq1
import HandS.ExcIs
set_option Elab.async false
set_option linter.all false
set_option maxRecDepth 100000
set_option maxHeartbeats 4000000
namespace My
open PySem PySem.Spec PyProof.Rows L2
def top (i : Nat) : Stmt := PySem.Challenge.pw_undocells_k18_whole_namings_and_naming_p.main.body.getD i (.Pass ⟨0, 0, 0, 0⟩)
abbrev s_is_whole : Stmt := top 1
theorem sc_is_whole : FnScope ["thing"] ["thing"] (defScope s_is_whole) := ⟨rfl, rfl, rfl, by decide +kernel, rfl, by decide +kernel, by decide +kernel⟩
abbrev s_is_within : Stmt := top 2
theorem sc_is_within : FnScope ["thing", "least", "most"] ["thing", "least", "most"] (defScope s_is_within) := ⟨rfl, rfl, rfl, by decide +kernel, rfl, by decide +kernel, by decide +kernel⟩
abbrev s_is_sequence : Stmt := top 3
theorem sc_is_sequence : FnScope ["thing"] ["thing"] (defScope s_is_sequence) := ⟨rfl, rfl, rfl, by decide +kernel, rfl, by decide +kernel, by decide +kernel⟩
abbrev s_mask_of : Stmt := top 4
theorem sc_mask_of : FnScope ["places", "mask", "place"] ["places"] (defScope s_mask_of) := ⟨rfl, rfl, rfl, by decide +kernel, rfl, by decide +kernel, by decide +kernel⟩
abbrev s_is_place : Stmt := top 12
theorem sc_is_place : FnScope ["bare", "thing"] ["bare", "thing"] (defScope s_is_place) := ⟨rfl, rfl, rfl, by decide +kernel, rfl, by decide +kernel, by decide +kernel⟩
abbrev s_is_before_list : Stmt := top 13
theorem sc_is_before_list : FnScope ["thing", "place", "many", "before"] ["thing", "place", "many"] (defScope s_is_before_list) := ⟨rfl, rfl, rfl, by decide +kernel, rfl, by decide +kernel, by decide +kernel⟩
abbrev s_checked_befores : Stmt := top 14
theorem sc_checked_befores : FnScope ["befores", "place", "listed"] ["befores"] (defScope s_checked_befores) := ⟨rfl, rfl, rfl, by decide +kernel, rfl, by decide +kernel, by decide +kernel⟩
abbrev s_afters_of : Stmt := top 15
theorem sc_afters_of : FnScope ["befores", "afters", "place", "listed", "before", "_"] ["befores"] (defScope s_afters_of) := ⟨rfl, rfl, rfl, by decide +kernel, rfl, by decide +kernel, by decide +kernel⟩
abbrev s_ordered_of : Stmt := top 16
theorem sc_ordered_of : FnScope ["befores", "afters", "missing", "ready", "ordered", "lowest", "place", "after", "listed", "many"] ["befores", "afters"] (defScope s_ordered_of) := ⟨rfl, rfl, rfl, by decide +kernel, rfl, by decide +kernel, by decide +kernel⟩
abbrev s_reached_along : Stmt := top 17
theorem sc_reached_along : FnScope ["arrows", "place", "barred", "reached", "waiting", "found"] ["arrows", "place", "barred"] (defScope s_reached_along) := ⟨rfl, rfl, rfl, by decide +kernel, rfl, by decide +kernel, by decide +kernel⟩
abbrev s_check_rings : Stmt := top 18
theorem sc_check_rings : FnScope ["befores", "place"] ["befores"] (defScope s_check_rings) := ⟨rfl, rfl, rfl, by decide +kernel, rfl, by decide +kernel, by decide +kernel⟩
abbrev s_check_roads : Stmt := top 19
theorem sc_check_roads : FnScope ["befores", "end", "reached", "place"] ["befores", "end"] (defScope s_check_roads) := ⟨rfl, rfl, rfl, by decide +kernel, rfl, by decide +kernel, by decide +kernel⟩
abbrev s_check_small : Stmt := top 23
theorem sc_check_small : FnScope ["bare"] ["bare"] (defScope s_check_small) := ⟨rfl, rfl, rfl, by decide +kernel, rfl, by decide +kernel, by decide +kernel⟩
abbrev s_is_unlike : Stmt := top 25
theorem sc_is_unlike : FnScope ["bare", "thing", "place"] ["bare", "thing"] (defScope s_is_unlike) := ⟨rfl, rfl, rfl, by decide +kernel, rfl, by decide +kernel, by decide +kernel⟩
abbrev s_check_painting : Stmt := top 26
theorem sc_check_painting : FnScope ["bare", "painting", "reds", "blues", "place"] ["bare", "painting"] (defScope s_check_painting) := ⟨rfl, rfl, rfl, by decide +kernel, rfl, by decide +kernel, by decide +kernel⟩
abbrev s_checked_hues : Stmt := top 27
theorem sc_checked_hues : FnScope ["bare", "painting", "reds", "blues"] ["bare", "painting"] (defScope s_checked_hues) := ⟨rfl, rfl, rfl, by decide +kernel, rfl, by decide +kernel, by decide +kernel⟩
abbrev s_first_hues : Stmt := top 28
theorem sc_first_hues : FnScope ["bare"] ["bare"] (defScope s_first_hues) := ⟨rfl, rfl, rfl, by decide +kernel, rfl, by decide +kernel, by decide +kernel⟩
abbrev s_is_painted_over : Stmt := top 29
theorem sc_is_painted_over : FnScope ["bare", "hues", "reds", "blues", "place", "need"] ["bare", "hues"] (defScope s_is_painted_over) := ⟨rfl, rfl, rfl, by decide +kernel, rfl, by decide +kernel, by decide +kernel⟩
abbrev s_unpainted : Stmt := top 30
theorem sc_unpainted : FnScope ["bare", "hues", "taken", "place"] ["bare", "hues"] (defScope s_unpainted) := ⟨rfl, rfl, rfl, by decide +kernel, rfl, by decide +kernel, by decide +kernel⟩
abbrev s_painted : Stmt := top 31
theorem sc_painted : FnScope ["hues", "place", "is_red", "reds", "blues"] ["hues", "place", "is_red"] (defScope s_painted) := ⟨rfl, rfl, rfl, by decide +kernel, rfl, by decide +kernel, by decide +kernel⟩
abbrev s_names_behind : Stmt := top 32
theorem sc_names_behind : FnScope ["bare", "hues", "known", "place"] ["bare", "hues", "known"] (defScope s_names_behind) := ⟨rfl, rfl, rfl, by decide +kernel, rfl, by decide +kernel, by decide +kernel⟩
abbrev s_worse_hue : Stmt := top 33
theorem sc_worse_hue : FnScope ["bare", "hues", "place", "known", "red"] ["bare", "hues", "place", "known"] (defScope s_worse_hue) := ⟨rfl, rfl, rfl, by decide +kernel, rfl, by decide +kernel, by decide +kernel⟩
abbrev s_names_left : Stmt := top 34
theorem sc_names_left : FnScope ["bare", "painting"] ["bare", "painting"] (defScope s_names_left) := ⟨rfl, rfl, rfl, by decide +kernel, rfl, by decide +kernel, by decide +kernel⟩
abbrev s_names_of : Stmt := top 35
theorem sc_names_of : FnScope ["bare"] ["bare"] (defScope s_names_of) := ⟨rfl, rfl, rfl, by decide +kernel, rfl, by decide +kernel, by decide +kernel⟩
abbrev s_told_hues : Stmt := top 37
theorem sc_told_hues : FnScope ["bare", "painting"] ["bare", "painting"] (defScope s_told_hues) := ⟨rfl, rfl, rfl, by decide +kernel, rfl, by decide +kernel, by decide +kernel⟩
abbrev s_plan_names : Stmt := top 38
theorem sc_plan_names : FnScope ["plan"] ["plan"] (defScope s_plan_names) := ⟨rfl, rfl, rfl, by decide +kernel, rfl, by decide +kernel, by decide +kernel⟩
abbrev s_naming_fault : Stmt := top 39
theorem sc_naming_fault : FnScope ["bare", "plan", "painting"] ["bare", "plan", "painting"] (defScope s_naming_fault) := ⟨rfl, rfl, rfl, by decide +kernel, rfl, by decide +kernel, by decide +kernel⟩
abbrev s_naming_fault_in : Stmt := top 40
theorem sc_naming_fault_in : FnScope ["bare", "plan", "hues", "place", "red", "blue", "word"] ["bare", "plan", "hues"] (defScope s_naming_fault_in) := ⟨rfl, rfl, rfl, by decide +kernel, rfl, by decide +kernel, by decide +kernel⟩
abbrev s_naming_plan : Stmt := top 41
theorem sc_naming_plan : FnScope ["bare", "painting"] ["bare", "painting"] (defScope s_naming_plan) := ⟨rfl, rfl, rfl, by decide +kernel, rfl, by decide +kernel, by decide +kernel⟩
abbrev s_naming_in : Stmt := top 42
theorem sc_naming_in : FnScope ["bare", "hues", "known", "needed", "helping", "place", "red"] ["bare", "hues", "known"] (defScope s_naming_in) := ⟨rfl, rfl, rfl, by decide +kernel, rfl, by decide +kernel, by decide +kernel⟩
abbrev s_law_hand : Stmt := top 44
theorem sc_law_hand : FnScope ["_law_script", "_law_total", "_law_cells", "_law_cell"] ["_law_script"] (defScope s_law_hand) := ⟨rfl, rfl, rfl, by decide +kernel, rfl, by decide +kernel, by decide +kernel⟩
abbrev s_law_mixed : Stmt := top 45
theorem sc_law_mixed : FnScope ["_law_number", "_law_turn", "_law_once", "_law_twice"] ["_law_number", "_law_turn"] (defScope s_law_mixed) := ⟨rfl, rfl, rfl, by decide +kernel, rfl, by decide +kernel, by decide +kernel⟩
abbrev s_law_take : Stmt := top 46
theorem sc_law_take : FnScope ["_law_hand_here", "_law_many", "_law_cell", "_law_rest"] ["_law_hand_here", "_law_many"] (defScope s_law_take) := ⟨rfl, rfl, rfl, by decide +kernel, rfl, by decide +kernel, by decide +kernel⟩
abbrev s_law_whole : Stmt := top 47
theorem sc_law_whole : FnScope ["_law_thing"] ["_law_thing"] (defScope s_law_whole) := ⟨rfl, rfl, rfl, by decide +kernel, rfl, by decide +kernel, by decide +kernel⟩
abbrev s_law_two : Stmt := top 48
theorem sc_law_two : FnScope ["_law_n", "_law_total", "_law_k"] ["_law_n"] (defScope s_law_two) := ⟨rfl, rfl, rfl, by decide +kernel, rfl, by decide +kernel, by decide +kernel⟩
abbrev s_law_led : Stmt := top 49
theorem sc_law_led : FnScope ["_law_befores", "_law_places", "_law_told", "_law_place", "_law_before"] ["_law_befores", "_law_places"] (defScope s_law_led) := ⟨rfl, rfl, rfl, by decide +kernel, rfl, by decide +kernel, by decide +kernel⟩
abbrev s_law_order : Stmt := top 50
theorem sc_law_order : FnScope ["_law_hand_here", "_law_many", "_law_left_here", "_law_told", "_law_k"] ["_law_hand_here", "_law_many"] (defScope s_law_order) := ⟨rfl, rfl, rfl, by decide +kernel, rfl, by decide +kernel, by decide +kernel⟩
abbrev s_law_bare : Stmt := top 51
theorem sc_law_bare : FnScope ["_law_hand_here", "_law_many", "_law_share", "_law_mixed_here", "_law_befores", "_law_place", "_law_later", "_law_places", "_law_before"] ["_law_hand_here", "_law_many", "_law_share", "_law_mixed_here"] (defScope s_law_bare) := ⟨rfl, rfl, rfl, by decide +kernel, rfl, by decide +kernel, by decide +kernel⟩
abbrev s_law_tree : Stmt := top 52
theorem sc_law_tree : FnScope ["_law_hand_here", "_law_many", "_law_mixed_here", "_law_befores", "_law_place", "_law_places"] ["_law_hand_here", "_law_many", "_law_mixed_here"] (defScope s_law_tree) := ⟨rfl, rfl, rfl, by decide +kernel, rfl, by decide +kernel, by decide +kernel⟩
abbrev s_law_masks : Stmt := top 53
theorem sc_law_masks : FnScope ["_law_befores", "_law_row", "_law_before"] ["_law_befores"] (defScope s_law_masks) := ⟨rfl, rfl, rfl, by decide +kernel, rfl, by decide +kernel, by decide +kernel⟩
abbrev s_law_held : Stmt := top 54
theorem sc_law_held : FnScope ["_law_mask", "_law_part"] ["_law_mask", "_law_part"] (defScope s_law_held) := ⟨rfl, rfl, rfl, by decide +kernel, rfl, by decide +kernel, by decide +kernel⟩
abbrev s_law_bare_of : Stmt := top 55
theorem sc_law_bare_of : FnScope ["_law_befores", "_law_end", "_law_row"] ["_law_befores", "_law_end"] (defScope s_law_bare_of) := ⟨rfl, rfl, rfl, by decide +kernel, rfl, by decide +kernel, by decide +kernel⟩
abbrev s_law_small : Stmt := top 56
theorem sc_law_small : FnScope ["_law_hand_here", "_law_many", "_law_share"] ["_law_hand_here"] (defScope s_law_small) := ⟨rfl, rfl, rfl, by decide +kernel, rfl, by decide +kernel, by decide +kernel⟩
abbrev s_law_is_over : Stmt := top 57
theorem sc_law_is_over : FnScope ["_law_masks_here", "_law_reds", "_law_blues", "_law_place"] ["_law_masks_here", "_law_reds", "_law_blues"] (defScope s_law_is_over) := ⟨rfl, rfl, rfl, by decide +kernel, rfl, by decide +kernel, by decide +kernel⟩
abbrev s_law_left : Stmt := top 58
theorem sc_law_left : FnScope ["_law_masks_here", "_law_reds", "_law_blues", "_law_kept", "_law_key", "_law_best", "_law_place", "_law_one_here"] ["_law_masks_here", "_law_reds", "_law_blues", "_law_kept"] (defScope s_law_left) := ⟨rfl, rfl, rfl, by decide +kernel, rfl, by decide +kernel, by decide +kernel⟩
abbrev s_law_naming_word : Stmt := top 59
theorem sc_law_naming_word : FnScope ["_law_masks_here", "_law_plan", "_law_reds", "_law_blues", "_law_word"] ["_law_masks_here", "_law_plan", "_law_reds", "_law_blues"] (defScope s_law_naming_word) := ⟨rfl, rfl, rfl, by decide +kernel, rfl, by decide +kernel, by decide +kernel⟩
abbrev s_law_depth : Stmt := top 60
theorem sc_law_depth : FnScope ["_law_plan"] ["_law_plan"] (defScope s_law_depth) := ⟨rfl, rfl, rfl, by decide +kernel, rfl, by decide +kernel, by decide +kernel⟩
abbrev s_law_any_naming : Stmt := top 61
theorem sc_law_any_naming : FnScope ["_law_hand_here", "_law_masks_here", "_law_reds", "_law_blues", "_law_free", "_law_place", "_law_red"] ["_law_hand_here", "_law_masks_here", "_law_reds", "_law_blues"] (defScope s_law_any_naming) := ⟨rfl, rfl, rfl, by decide +kernel, rfl, by decide +kernel, by decide +kernel⟩
abbrev s_law_told_naming : Stmt := top 62
theorem sc_law_told_naming : FnScope ["_law_masks_here", "_law_reds", "_law_blues", "_law_kept", "_law_left_here", "_law_place", "_law_part"] ["_law_masks_here", "_law_reds", "_law_blues", "_law_kept"] (defScope s_law_told_naming) := ⟨rfl, rfl, rfl, by decide +kernel, rfl, by decide +kernel, by decide +kernel⟩
abbrev s_law_spoiled : Stmt := top 63
theorem sc_law_spoiled : FnScope ["_law_hand_here", "_law_plan", "_law_many", "_law_forms", "_law_at"] ["_law_hand_here", "_law_plan", "_law_many", "_law_forms"] (defScope s_law_spoiled) := ⟨rfl, rfl, rfl, by decide +kernel, rfl, by decide +kernel, by decide +kernel⟩
abbrev s_law_nine : Stmt := top 64
theorem sc_law_nine : FnScope ["_law_k"] [] (defScope s_law_nine) := ⟨rfl, rfl, rfl, by decide +kernel, rfl, by decide +kernel, by decide +kernel⟩
abbrev s_law_eight : Stmt := top 65
theorem sc_law_eight : FnScope ["_law_hand_here"] ["_law_hand_here"] (defScope s_law_eight) := ⟨rfl, rfl, rfl, by decide +kernel, rfl, by decide +kernel, by decide +kernel⟩
abbrev s_law_refused : Stmt := top 66
theorem sc_law_refused : FnScope ["_law_bare_here", "_law_painting_here", "_law_at", "e"] ["_law_bare_here", "_law_painting_here", "_law_at"] (defScope s_law_refused) := ⟨rfl, rfl, rfl, by decide +kernel, rfl, by decide +kernel, by decide +kernel⟩
abbrev s_law_painting : Stmt := top 67
theorem sc_law_painting : FnScope ["_law_hand_here", "_law_many", "_law_reds", "_law_blues", "_law_place", "_law_hue", "_law_other"] ["_law_hand_here", "_law_many"] (defScope s_law_painting) := ⟨rfl, rfl, rfl, by decide +kernel, rfl, by decide +kernel, by decide +kernel⟩
abbrev s_law_broken : Stmt := top 68
theorem sc_law_broken : FnScope ["_law_hand_here", "_law_reds", "_law_blues", "_law_many", "_law_at", "_law_first"] ["_law_hand_here", "_law_reds", "_law_blues", "_law_many"] (defScope s_law_broken) := ⟨rfl, rfl, rfl, by decide +kernel, rfl, by decide +kernel, by decide +kernel⟩
abbrev s_law_painted_eight : Stmt := top 69
theorem sc_law_painted_eight : FnScope ["_law_hand_here", "_law_end", "_law_reds", "_law_blues", "_law_others", "_law_place"] ["_law_hand_here", "_law_end"] (defScope s_law_painted_eight) := ⟨rfl, rfl, rfl, by decide +kernel, rfl, by decide +kernel, by decide +kernel⟩
abbrev s_law_one : Stmt := top 70
theorem sc_law_one : FnScope ["_law_hand_here", "_law_bare_here", "_law_masks_here", "_law_kept", "_law_reds", "_law_blues", "_law_many", "_law_red", "_law_blue", "_law_left_here", "_law_painting_here", "_law_told", "_law_number", "_law_plan", "_law_other", "_law_broken_here", "_law_word", "_law_at", "_law_place"] ["_law_hand_here", "_law_bare_here", "_law_masks_here", "_law_kept", "_law_reds", "_law_blues"] (defScope s_law_one) := ⟨rfl, rfl, rfl, by decide +kernel, rfl, by decide +kernel, by decide +kernel⟩
abbrev s_law : Stmt := top 71
theorem sc_law : FnScope ["_law_script", "_law_hand_here", "_law_befores", "_law_end", "_law_masks_here", "_law_bare_here", "_law_first", "_law_kept", "_law_left_here", "_law_number", "_law_told", "_law_plan", "_law_other", "_law_turn", "_law_reds", "_law_blues", "_law_last"] ["_law_script"] (defScope s_law) := ⟨rfl, rfl, rfl, by decide +kernel, rfl, by decide +kernel, by decide +kernel⟩
abbrev s_TooMany___init__ : Stmt := inClass (top 7) 0
theorem sc_TooMany___init__ : FnScope ["self", "most"] ["self", "most"] (defScope s_TooMany___init__) := ⟨rfl, rfl, rfl, by decide +kernel, rfl, by decide +kernel, by decide +kernel⟩
abbrev s_BadBare___init__ : Stmt := inClass (top 8) 0
theorem sc_BadBare___init__ : FnScope ["self", "place", "what"] ["self", "place", "what"] (defScope s_BadBare___init__) := ⟨rfl, rfl, rfl, by decide +kernel, rfl, by decide +kernel, by decide +kernel⟩
abbrev s_BadPainting___init__ : Stmt := inClass (top 9) 0
theorem sc_BadPainting___init__ : FnScope ["self", "what"] ["self", "what"] (defScope s_BadPainting___init__) := ⟨rfl, rfl, rfl, by decide +kernel, rfl, by decide +kernel, by decide +kernel⟩
abbrev s_Bare___init__ : Stmt := inClass (top 20) 0
theorem sc_Bare___init__ : FnScope ["self", "befores", "end", "listed"] ["self", "befores", "end"] (defScope s_Bare___init__) := ⟨rfl, rfl, rfl, by decide +kernel, rfl, by decide +kernel, by decide +kernel⟩
abbrev s_Bare___len__ : Stmt := inClass (top 20) 1
theorem sc_Bare___len__ : FnScope ["self"] ["self"] (defScope s_Bare___len__) := ⟨rfl, rfl, rfl, by decide +kernel, rfl, by decide +kernel, by decide +kernel⟩
abbrev s_Bare___eq__ : Stmt := inClass (top 20) 2
theorem sc_Bare___eq__ : FnScope ["self", "other"] ["self", "other"] (defScope s_Bare___eq__) := ⟨rfl, rfl, rfl, by decide +kernel, rfl, by decide +kernel, by decide +kernel⟩
structure Ad where
  f_is_whole : Addr
  d_is_whole : FuncData
  f_is_within : Addr
  d_is_within : FuncData
  f_is_sequence : Addr
  d_is_sequence : FuncData
  f_mask_of : Addr
  d_mask_of : FuncData
  f_is_place : Addr
  d_is_place : FuncData
  f_is_before_list : Addr
  d_is_before_list : FuncData
  f_checked_befores : Addr
  d_checked_befores : FuncData
  f_afters_of : Addr
  d_afters_of : FuncData
  f_ordered_of : Addr
  d_ordered_of : FuncData
  f_reached_along : Addr
  d_reached_along : FuncData
  f_check_rings : Addr
  d_check_rings : FuncData
  f_check_roads : Addr
  d_check_roads : FuncData
  f_check_small : Addr
  d_check_small : FuncData
  f_is_unlike : Addr
  d_is_unlike : FuncData
  f_check_painting : Addr
  d_check_painting : FuncData
  f_checked_hues : Addr
  d_checked_hues : FuncData
  f_first_hues : Addr
  d_first_hues : FuncData
  f_is_painted_over : Addr
  d_is_painted_over : FuncData
  f_unpainted : Addr
  d_unpainted : FuncData
  f_painted : Addr
  d_painted : FuncData
  f_names_behind : Addr
  d_names_behind : FuncData
  f_worse_hue : Addr
  d_worse_hue : FuncData
  f_names_left : Addr
  d_names_left : FuncData
  f_names_of : Addr
  d_names_of : FuncData
  f_told_hues : Addr
  d_told_hues : FuncData
  f_plan_names : Addr
  d_plan_names : FuncData
  f_naming_fault : Addr
  d_naming_fault : FuncData
  f_naming_fault_in : Addr
  d_naming_fault_in : FuncData
  f_naming_plan : Addr
  d_naming_plan : FuncData
  f_naming_in : Addr
  d_naming_in : FuncData
  f_law_hand : Addr
  d_law_hand : FuncData
  f_law_mixed : Addr
  d_law_mixed : FuncData
  f_law_take : Addr
  d_law_take : FuncData
  f_law_whole : Addr
  d_law_whole : FuncData
  f_law_two : Addr
  d_law_two : FuncData
  f_law_led : Addr
  d_law_led : FuncData
  f_law_order : Addr
  d_law_order : FuncData
  f_law_bare : Addr
  d_law_bare : FuncData
  f_law_tree : Addr
  d_law_tree : FuncData
  f_law_masks : Addr
  d_law_masks : FuncData
  f_law_held : Addr
  d_law_held : FuncData
  f_law_bare_of : Addr
  d_law_bare_of : FuncData
  f_law_small : Addr
  d_law_small : FuncData
  f_law_is_over : Addr
  d_law_is_over : FuncData
  f_law_left : Addr
  d_law_left : FuncData
  f_law_naming_word : Addr
  d_law_naming_word : FuncData
  f_law_depth : Addr
  d_law_depth : FuncData
  f_law_any_naming : Addr
  d_law_any_naming : FuncData
  f_law_told_naming : Addr
  d_law_told_naming : FuncData
  f_law_spoiled : Addr
  d_law_spoiled : FuncData
  f_law_nine : Addr
  d_law_nine : FuncData
  f_law_eight : Addr
  d_law_eight : FuncData
  f_law_refused : Addr
  d_law_refused : FuncData
  f_law_painting : Addr
  d_law_painting : FuncData
  f_law_broken : Addr
  d_law_broken : FuncData
  f_law_painted_eight : Addr
  d_law_painted_eight : FuncData
  f_law_one : Addr
  d_law_one : FuncData
  f_law : Addr
  d_law : FuncData
  c_UndoError : Addr
  c_TooMany : Addr
  c_BadBare : Addr
  c_BadPainting : Addr
  c_Bare : Addr
  f_TooMany___init__ : Addr
  d_TooMany___init__ : FuncData
  f_BadBare___init__ : Addr
  d_BadBare___init__ : FuncData
  f_BadPainting___init__ : Addr
  d_BadPainting___init__ : FuncData
  f_Bare___init__ : Addr
  d_Bare___init__ : FuncData
  f_Bare___len__ : Addr
  d_Bare___len__ : FuncData
  f_Bare___eq__ : Addr
  d_Bare___eq__ : FuncData
structure Txt (K : PySem.W.Frag) (mg : Str → Option Value) (a : Ad) : Prop where
  m_is_whole : mg "is_whole" = some (.ref a.f_is_whole)
  F_is_whole : Fun K "is_whole" "is_whole" s_is_whole a.f_is_whole a.d_is_whole
  b_is_whole : Binds K a.d_is_whole ["thing"] []
  m_is_within : mg "is_within" = some (.ref a.f_is_within)
  F_is_within : Fun K "is_within" "is_within" s_is_within a.f_is_within a.d_is_within
  b_is_within : Binds K a.d_is_within ["thing", "least", "most"] []
  m_is_sequence : mg "is_sequence" = some (.ref a.f_is_sequence)
  F_is_sequence : Fun K "is_sequence" "is_sequence" s_is_sequence a.f_is_sequence a.d_is_sequence
  b_is_sequence : Binds K a.d_is_sequence ["thing"] []
  m_mask_of : mg "mask_of" = some (.ref a.f_mask_of)
  F_mask_of : Fun K "mask_of" "mask_of" s_mask_of a.f_mask_of a.d_mask_of
  b_mask_of : Binds K a.d_mask_of ["places"] []
  m_is_place : mg "is_place" = some (.ref a.f_is_place)
  F_is_place : Fun K "is_place" "is_place" s_is_place a.f_is_place a.d_is_place
  b_is_place : Binds K a.d_is_place ["bare", "thing"] []
  m_is_before_list : mg "is_before_list" = some (.ref a.f_is_before_list)
  F_is_before_list : Fun K "is_before_list" "is_before_list" s_is_before_list a.f_is_before_list a.d_is_before_list
  b_is_before_list : Binds K a.d_is_before_list ["thing", "place", "many"] []
  m_checked_befores : mg "checked_befores" = some (.ref a.f_checked_befores)
  F_checked_befores : Fun K "checked_befores" "checked_befores" s_checked_befores a.f_checked_befores a.d_checked_befores
  b_checked_befores : Binds K a.d_checked_befores ["befores"] []
  m_afters_of : mg "afters_of" = some (.ref a.f_afters_of)
  F_afters_of : Fun K "afters_of" "afters_of" s_afters_of a.f_afters_of a.d_afters_of
  b_afters_of : Binds K a.d_afters_of ["befores"] []
  m_ordered_of : mg "ordered_of" = some (.ref a.f_ordered_of)
  F_ordered_of : Fun K "ordered_of" "ordered_of" s_ordered_of a.f_ordered_of a.d_ordered_of
  b_ordered_of : Binds K a.d_ordered_of ["befores", "afters"] []
  m_reached_along : mg "reached_along" = some (.ref a.f_reached_along)
  F_reached_along : FunD K "reached_along" "reached_along" (defArgs s_reached_along) (defBody s_reached_along) (defScope s_reached_along) [V.int 0] [] a.f_reached_along a.d_reached_along
  b_reached_along : ∃ ds, Vals [V.int 0] ds ∧ Binds K a.d_reached_along ["arrows", "place", "barred"] ds
  m_check_rings : mg "check_rings" = some (.ref a.f_check_rings)
  F_check_rings : Fun K "check_rings" "check_rings" s_check_rings a.f_check_rings a.d_check_rings
  b_check_rings : Binds K a.d_check_rings ["befores"] []
  m_check_roads : mg "check_roads" = some (.ref a.f_check_roads)
  F_check_roads : Fun K "check_roads" "check_roads" s_check_roads a.f_check_roads a.d_check_roads
  b_check_roads : Binds K a.d_check_roads ["befores", "end"] []
  m_check_small : mg "check_small" = some (.ref a.f_check_small)
  F_check_small : Fun K "check_small" "check_small" s_check_small a.f_check_small a.d_check_small
  b_check_small : Binds K a.d_check_small ["bare"] []
  m_is_unlike : mg "is_unlike" = some (.ref a.f_is_unlike)
  F_is_unlike : Fun K "is_unlike" "is_unlike" s_is_unlike a.f_is_unlike a.d_is_unlike
  b_is_unlike : Binds K a.d_is_unlike ["bare", "thing"] []
  m_check_painting : mg "check_painting" = some (.ref a.f_check_painting)
  F_check_painting : Fun K "check_painting" "check_painting" s_check_painting a.f_check_painting a.d_check_painting
  b_check_painting : Binds K a.d_check_painting ["bare", "painting"] []
  m_checked_hues : mg "checked_hues" = some (.ref a.f_checked_hues)
  F_checked_hues : Fun K "checked_hues" "checked_hues" s_checked_hues a.f_checked_hues a.d_checked_hues
  b_checked_hues : Binds K a.d_checked_hues ["bare", "painting"] []
  m_first_hues : mg "first_hues" = some (.ref a.f_first_hues)
  F_first_hues : Fun K "first_hues" "first_hues" s_first_hues a.f_first_hues a.d_first_hues
  b_first_hues : Binds K a.d_first_hues ["bare"] []
  m_is_painted_over : mg "is_painted_over" = some (.ref a.f_is_painted_over)
  F_is_painted_over : Fun K "is_painted_over" "is_painted_over" s_is_painted_over a.f_is_painted_over a.d_is_painted_over
  b_is_painted_over : Binds K a.d_is_painted_over ["bare", "hues"] []
  m_unpainted : mg "unpainted" = some (.ref a.f_unpainted)
  F_unpainted : Fun K "unpainted" "unpainted" s_unpainted a.f_unpainted a.d_unpainted
  b_unpainted : Binds K a.d_unpainted ["bare", "hues"] []
  m_painted : mg "painted" = some (.ref a.f_painted)
  F_painted : Fun K "painted" "painted" s_painted a.f_painted a.d_painted
  b_painted : Binds K a.d_painted ["hues", "place", "is_red"] []
  m_names_behind : mg "names_behind" = some (.ref a.f_names_behind)
  F_names_behind : Fun K "names_behind" "names_behind" s_names_behind a.f_names_behind a.d_names_behind
  b_names_behind : Binds K a.d_names_behind ["bare", "hues", "known"] []
  m_worse_hue : mg "worse_hue" = some (.ref a.f_worse_hue)
  F_worse_hue : Fun K "worse_hue" "worse_hue" s_worse_hue a.f_worse_hue a.d_worse_hue
  b_worse_hue : Binds K a.d_worse_hue ["bare", "hues", "place", "known"] []
  m_names_left : mg "names_left" = some (.ref a.f_names_left)
  F_names_left : Fun K "names_left" "names_left" s_names_left a.f_names_left a.d_names_left
  b_names_left : Binds K a.d_names_left ["bare", "painting"] []
  m_names_of : mg "names_of" = some (.ref a.f_names_of)
  F_names_of : Fun K "names_of" "names_of" s_names_of a.f_names_of a.d_names_of
  b_names_of : Binds K a.d_names_of ["bare"] []
  m_told_hues : mg "told_hues" = some (.ref a.f_told_hues)
  F_told_hues : Fun K "told_hues" "told_hues" s_told_hues a.f_told_hues a.d_told_hues
  b_told_hues : Binds K a.d_told_hues ["bare", "painting"] []
  m_plan_names : mg "plan_names" = some (.ref a.f_plan_names)
  F_plan_names : Fun K "plan_names" "plan_names" s_plan_names a.f_plan_names a.d_plan_names
  b_plan_names : Binds K a.d_plan_names ["plan"] []
  m_naming_fault : mg "naming_fault" = some (.ref a.f_naming_fault)
  F_naming_fault : FunD K "naming_fault" "naming_fault" (defArgs s_naming_fault) (defBody s_naming_fault) (defScope s_naming_fault) [V.non] [] a.f_naming_fault a.d_naming_fault
  b_naming_fault : ∃ ds, Vals [V.non] ds ∧ Binds K a.d_naming_fault ["bare", "plan", "painting"] ds
  bf_naming_fault : Binds K a.d_naming_fault ["bare", "plan", "painting"] []
  m_naming_fault_in : mg "naming_fault_in" = some (.ref a.f_naming_fault_in)
  F_naming_fault_in : Fun K "naming_fault_in" "naming_fault_in" s_naming_fault_in a.f_naming_fault_in a.d_naming_fault_in
  b_naming_fault_in : Binds K a.d_naming_fault_in ["bare", "plan", "hues"] []
  m_naming_plan : mg "naming_plan" = some (.ref a.f_naming_plan)
  F_naming_plan : FunD K "naming_plan" "naming_plan" (defArgs s_naming_plan) (defBody s_naming_plan) (defScope s_naming_plan) [V.non] [] a.f_naming_plan a.d_naming_plan
  b_naming_plan : ∃ ds, Vals [V.non] ds ∧ Binds K a.d_naming_plan ["bare", "painting"] ds
  bf_naming_plan : Binds K a.d_naming_plan ["bare", "painting"] []
  m_naming_in : mg "naming_in" = some (.ref a.f_naming_in)
  F_naming_in : Fun K "naming_in" "naming_in" s_naming_in a.f_naming_in a.d_naming_in
  b_naming_in : Binds K a.d_naming_in ["bare", "hues", "known"] []
  m_law_hand : mg "_law_hand" = some (.ref a.f_law_hand)
  F_law_hand : Fun K "_law_hand" "_law_hand" s_law_hand a.f_law_hand a.d_law_hand
  b_law_hand : Binds K a.d_law_hand ["_law_script"] []
  m_law_mixed : mg "_law_mixed" = some (.ref a.f_law_mixed)
  F_law_mixed : Fun K "_law_mixed" "_law_mixed" s_law_mixed a.f_law_mixed a.d_law_mixed
  b_law_mixed : Binds K a.d_law_mixed ["_law_number", "_law_turn"] []
  m_law_take : mg "_law_take" = some (.ref a.f_law_take)
  F_law_take : Fun K "_law_take" "_law_take" s_law_take a.f_law_take a.d_law_take
  b_law_take : Binds K a.d_law_take ["_law_hand_here", "_law_many"] []
  m_law_whole : mg "_law_whole" = some (.ref a.f_law_whole)
  F_law_whole : Fun K "_law_whole" "_law_whole" s_law_whole a.f_law_whole a.d_law_whole
  b_law_whole : Binds K a.d_law_whole ["_law_thing"] []
  m_law_two : mg "_law_two" = some (.ref a.f_law_two)
  F_law_two : Fun K "_law_two" "_law_two" s_law_two a.f_law_two a.d_law_two
  b_law_two : Binds K a.d_law_two ["_law_n"] []
  m_law_led : mg "_law_led" = some (.ref a.f_law_led)
  F_law_led : Fun K "_law_led" "_law_led" s_law_led a.f_law_led a.d_law_led
  b_law_led : Binds K a.d_law_led ["_law_befores", "_law_places"] []
  m_law_order : mg "_law_order" = some (.ref a.f_law_order)
  F_law_order : Fun K "_law_order" "_law_order" s_law_order a.f_law_order a.d_law_order
  b_law_order : Binds K a.d_law_order ["_law_hand_here", "_law_many"] []
  m_law_bare : mg "_law_bare" = some (.ref a.f_law_bare)
  F_law_bare : Fun K "_law_bare" "_law_bare" s_law_bare a.f_law_bare a.d_law_bare
  b_law_bare : Binds K a.d_law_bare ["_law_hand_here", "_law_many", "_law_share", "_law_mixed_here"] []
  m_law_tree : mg "_law_tree" = some (.ref a.f_law_tree)
  F_law_tree : Fun K "_law_tree" "_law_tree" s_law_tree a.f_law_tree a.d_law_tree
  b_law_tree : Binds K a.d_law_tree ["_law_hand_here", "_law_many", "_law_mixed_here"] []
  m_law_masks : mg "_law_masks" = some (.ref a.f_law_masks)
  F_law_masks : Fun K "_law_masks" "_law_masks" s_law_masks a.f_law_masks a.d_law_masks
  b_law_masks : Binds K a.d_law_masks ["_law_befores"] []
  m_law_held : mg "_law_held" = some (.ref a.f_law_held)
  F_law_held : Fun K "_law_held" "_law_held" s_law_held a.f_law_held a.d_law_held
  b_law_held : Binds K a.d_law_held ["_law_mask", "_law_part"] []
  m_law_bare_of : mg "_law_bare_of" = some (.ref a.f_law_bare_of)
  F_law_bare_of : Fun K "_law_bare_of" "_law_bare_of" s_law_bare_of a.f_law_bare_of a.d_law_bare_of
  b_law_bare_of : Binds K a.d_law_bare_of ["_law_befores", "_law_end"] []
  m_law_small : mg "_law_small" = some (.ref a.f_law_small)
  F_law_small : Fun K "_law_small" "_law_small" s_law_small a.f_law_small a.d_law_small
  b_law_small : Binds K a.d_law_small ["_law_hand_here"] []
  m_law_is_over : mg "_law_is_over" = some (.ref a.f_law_is_over)
  F_law_is_over : Fun K "_law_is_over" "_law_is_over" s_law_is_over a.f_law_is_over a.d_law_is_over
  b_law_is_over : Binds K a.d_law_is_over ["_law_masks_here", "_law_reds", "_law_blues"] []
  m_law_left : mg "_law_left" = some (.ref a.f_law_left)
  F_law_left : Fun K "_law_left" "_law_left" s_law_left a.f_law_left a.d_law_left
  b_law_left : Binds K a.d_law_left ["_law_masks_here", "_law_reds", "_law_blues", "_law_kept"] []
  m_law_naming_word : mg "_law_naming_word" = some (.ref a.f_law_naming_word)
  F_law_naming_word : Fun K "_law_naming_word" "_law_naming_word" s_law_naming_word a.f_law_naming_word a.d_law_naming_word
  b_law_naming_word : Binds K a.d_law_naming_word ["_law_masks_here", "_law_plan", "_law_reds", "_law_blues"] []
  m_law_depth : mg "_law_depth" = some (.ref a.f_law_depth)
  F_law_depth : Fun K "_law_depth" "_law_depth" s_law_depth a.f_law_depth a.d_law_depth
  b_law_depth : Binds K a.d_law_depth ["_law_plan"] []
  m_law_any_naming : mg "_law_any_naming" = some (.ref a.f_law_any_naming)
  F_law_any_naming : Fun K "_law_any_naming" "_law_any_naming" s_law_any_naming a.f_law_any_naming a.d_law_any_naming
  b_law_any_naming : Binds K a.d_law_any_naming ["_law_hand_here", "_law_masks_here", "_law_reds", "_law_blues"] []
  m_law_told_naming : mg "_law_told_naming" = some (.ref a.f_law_told_naming)
  F_law_told_naming : Fun K "_law_told_naming" "_law_told_naming" s_law_told_naming a.f_law_told_naming a.d_law_told_naming
  b_law_told_naming : Binds K a.d_law_told_naming ["_law_masks_here", "_law_reds", "_law_blues", "_law_kept"] []
  m_law_spoiled : mg "_law_spoiled" = some (.ref a.f_law_spoiled)
  F_law_spoiled : Fun K "_law_spoiled" "_law_spoiled" s_law_spoiled a.f_law_spoiled a.d_law_spoiled
  b_law_spoiled : Binds K a.d_law_spoiled ["_law_hand_here", "_law_plan", "_law_many", "_law_forms"] []
  m_law_nine : mg "_law_nine" = some (.ref a.f_law_nine)
  F_law_nine : Fun K "_law_nine" "_law_nine" s_law_nine a.f_law_nine a.d_law_nine
  b_law_nine : Binds K a.d_law_nine [] []
  m_law_eight : mg "_law_eight" = some (.ref a.f_law_eight)
  F_law_eight : Fun K "_law_eight" "_law_eight" s_law_eight a.f_law_eight a.d_law_eight
  b_law_eight : Binds K a.d_law_eight ["_law_hand_here"] []
  m_law_refused : mg "_law_refused" = some (.ref a.f_law_refused)
  F_law_refused : Fun K "_law_refused" "_law_refused" s_law_refused a.f_law_refused a.d_law_refused
  b_law_refused : Binds K a.d_law_refused ["_law_bare_here", "_law_painting_here", "_law_at"] []
  m_law_painting : mg "_law_painting" = some (.ref a.f_law_painting)
  F_law_painting : Fun K "_law_painting" "_law_painting" s_law_painting a.f_law_painting a.d_law_painting
  b_law_painting : Binds K a.d_law_painting ["_law_hand_here", "_law_many"] []
  m_law_broken : mg "_law_broken" = some (.ref a.f_law_broken)
  F_law_broken : Fun K "_law_broken" "_law_broken" s_law_broken a.f_law_broken a.d_law_broken
  b_law_broken : Binds K a.d_law_broken ["_law_hand_here", "_law_reds", "_law_blues", "_law_many"] []
  m_law_painted_eight : mg "_law_painted_eight" = some (.ref a.f_law_painted_eight)
  F_law_painted_eight : Fun K "_law_painted_eight" "_law_painted_eight" s_law_painted_eight a.f_law_painted_eight a.d_law_painted_eight
  b_law_painted_eight : Binds K a.d_law_painted_eight ["_law_hand_here", "_law_end"] []
  m_law_one : mg "_law_one" = some (.ref a.f_law_one)
  F_law_one : Fun K "_law_one" "_law_one" s_law_one a.f_law_one a.d_law_one
  b_law_one : Binds K a.d_law_one ["_law_hand_here", "_law_bare_here", "_law_masks_here", "_law_kept", "_law_reds", "_law_blues"] []
  m_law : mg "law" = some (.ref a.f_law)
  F_law : Fun K "law" "law" s_law a.f_law a.d_law
  b_law : Binds K a.d_law ["_law_script"] []
  m_TooMany : mg "TooMany" = some (.ref a.c_TooMany)
  x_TooMany : OexC K a.c_TooMany
  xf_TooMany : XfC K a.c_TooMany
  xi_TooMany : PySem.W.findIn K (.ref a.c_TooMany) "__init__" = some (some (.ref a.f_TooMany___init__))
  xt_TooMany : PySem.W.typeIn K (.ref a.f_TooMany___init__) = some (.type "function")
  xe_TooMany : PySem.W.exmOne K (.ref a.c_TooMany) (.ref a.c_TooMany) = some true
  xn_TooMany_most : PySem.W.findIn K (.ref a.c_TooMany) "most" = some none
  F_TooMany___init__ : Fun K "__init__" "TooMany.__init__" s_TooMany___init__ a.f_TooMany___init__ a.d_TooMany___init__
  b_TooMany___init__ : Binds K a.d_TooMany___init__ ["self", "most"] []
  m_BadBare : mg "BadBare" = some (.ref a.c_BadBare)
  x_BadBare : OexC K a.c_BadBare
  xf_BadBare : XfC K a.c_BadBare
  xi_BadBare : PySem.W.findIn K (.ref a.c_BadBare) "__init__" = some (some (.ref a.f_BadBare___init__))
  xt_BadBare : PySem.W.typeIn K (.ref a.f_BadBare___init__) = some (.type "function")
  xe_BadBare : PySem.W.exmOne K (.ref a.c_BadBare) (.ref a.c_BadBare) = some true
  xn_BadBare_place : PySem.W.findIn K (.ref a.c_BadBare) "place" = some none
  xn_BadBare_what : PySem.W.findIn K (.ref a.c_BadBare) "what" = some none
  F_BadBare___init__ : Fun K "__init__" "BadBare.__init__" s_BadBare___init__ a.f_BadBare___init__ a.d_BadBare___init__
  b_BadBare___init__ : Binds K a.d_BadBare___init__ ["self", "place", "what"] []
  m_BadPainting : mg "BadPainting" = some (.ref a.c_BadPainting)
  x_BadPainting : OexC K a.c_BadPainting
  xf_BadPainting : XfC K a.c_BadPainting
  xi_BadPainting : PySem.W.findIn K (.ref a.c_BadPainting) "__init__" = some (some (.ref a.f_BadPainting___init__))
  xt_BadPainting : PySem.W.typeIn K (.ref a.f_BadPainting___init__) = some (.type "function")
  xe_BadPainting : PySem.W.exmOne K (.ref a.c_BadPainting) (.ref a.c_BadPainting) = some true
  xn_BadPainting_what : PySem.W.findIn K (.ref a.c_BadPainting) "what" = some none
  F_BadPainting___init__ : Fun K "__init__" "BadPainting.__init__" s_BadPainting___init__ a.f_BadPainting___init__ a.d_BadPainting___init__
  b_BadPainting___init__ : Binds K a.d_BadPainting___init__ ["self", "what"] []
  m_Bare : mg "Bare" = some (.ref a.c_Bare)
  F_Bare___init__ : Fun K "__init__" "Bare.__init__" s_Bare___init__ a.f_Bare___init__ a.d_Bare___init__
  b_Bare___init__ : Binds K a.d_Bare___init__ ["self", "befores", "end"] []
  F_Bare___len__ : Fun K "__len__" "Bare.__len__" s_Bare___len__ a.f_Bare___len__ a.d_Bare___len__
  b_Bare___len__ : Binds K a.d_Bare___len__ ["self"] []
  at_Bare___len__ : PySem.W.findIn K (.ref a.c_Bare) "__len__" = some (some (.ref a.f_Bare___len__))
  fn_Bare___len__ : PySem.W.isFn K (.ref a.f_Bare___len__) = true
  F_Bare___eq__ : Fun K "__eq__" "Bare.__eq__" s_Bare___eq__ a.f_Bare___eq__ a.d_Bare___eq__
  b_Bare___eq__ : Binds K a.d_Bare___eq__ ["self", "other"] []
  at_Bare___eq__ : PySem.W.findIn K (.ref a.c_Bare) "__eq__" = some (some (.ref a.f_Bare___eq__))
  fn_Bare___eq__ : PySem.W.isFn K (.ref a.f_Bare___eq__) = true
  mk_Bare : Mk K a.c_Bare a.f_Bare___init__
  ic_Bare : C8.InsC K a.c_Bare
  ne_Bare : PySem.W.findIn K (.ref a.c_Bare) "__ne__" = some (some (.builtin "object.__ne__"))
  na_Bare_befores : NoAttr K a.c_Bare "befores"
  na_Bare_end : NoAttr K a.c_Bare "end"
  na_Bare_afters : NoAttr K a.c_Bare "afters"
  na_Bare_ordered : NoAttr K a.c_Bare "ordered"
  na_Bare_needs : NoAttr K a.c_Bare "needs"
  g_MOST_PLACES : ∃ u, mg "MOST_PLACES" = some u ∧ RelV (.int 200) u
  g_MOST_SEARCHED : ∃ u, mg "MOST_SEARCHED" = some u ∧ RelV (.int 8) u
  z_ValueError : mg "ValueError" = none
  z_abs : mg "abs" = none
  z_all : mg "all" = none
  z_any : mg "any" = none
  z_bool : mg "bool" = none
  z_enumerate : mg "enumerate" = none
  z_int : mg "int" = none
  z_isinstance : mg "isinstance" = none
  z_len : mg "len" = none
  z_list : mg "list" = none
  z_max : mg "max" = none
  z_min : mg "min" = none
  z_range : mg "range" = none
  z_set : mg "set" = none
  z_sorted : mg "sorted" = none
  z_sum : mg "sum" = none
  z_tuple : mg "tuple" = none
/-! ### steps of readings -/
theorem cx_K {CX : CXT} {P : Program} {w : World} {K : PySem.W.Frag} {mg : Str → Option Value} {base : Heap} {N : List Str} {qual : Str} {scope : Scope} {f : Addr} {cd : Value} {A : Around} {outer : List Env} {s : Shared} {H : Hp} {E : XK} :
    (cxOf CX P w K mg base N qual scope f cd A outer s H E).K = K := rfl
theorem ixl {K : PySem.W.Frag} {H : Hp} {p : Addr} {xs : List V} {i : Int} {v : V} {Q : VK} (h : SqL K H p xs) (e : atI xs i = some v) (q : Q v H) : rIxL K (.ref p) (.int i) H Q := ⟨p, xs, i, v, rfl, rfl, h, e, q⟩
theorem setl {H : Hp} {p : Addr} {xs : List V} {k : Int} {j : Nat} {v : V} {Q : Hp → Prop} (h : H p = some (.lst xs)) (e : ixN xs.length k = some j) (q : Q (upd H p (.lst (xs.set j v)))) : rSetL (.ref p) (.int k) v H Q := ⟨p, xs, k, j, rfl, rfl, h, e, q⟩
theorem atI_int {ns : List Int} {i : Int} (h0 : 0 ≤ i) (h1 : i < (ns.length : Int)) : ∃ z, z ∈ ns ∧ atI (ns.map V.int) i = some (.int z) := by
  obtain ⟨k, rfl⟩ : ∃ k : Nat, i = (k : Int) := ⟨i.toNat, by omega⟩
  have hk : k < ns.length := by omega
  exact ⟨ns[k], List.getElem_mem hk, atI_nat (by rw [List.getElem?_map, List.getElem?_eq_getElem hk] <;> rfl)⟩
theorem str1 {a b : Nat} : ((⟨#[a]⟩ : Str) = ⟨#[b]⟩) = (a = b) := by
  apply propext
  constructor
  · intro h
    have q : (#[a] : Array Nat) = #[b] := congrArg Str.cps h
    have q2 : ([a] : List Nat) = [b] := congrArg Array.toList q
    exact (List.cons.inj q2).1
  · intro h; rw [h]
theorem int_at {ns : List Int} {i : Nat} {x : V} (h : (ns.map V.int)[i]? = some x) : ∃ z, ns[i]? = some z ∧ x = .int z := by
  rw [List.getElem?_map] at h
  cases e : ns[i]? with
  | none => rw [e] at h; cases h
  | some z => rw [e] at h; exact ⟨z, rfl, (Option.some.inj h).symm⟩
/-- C(x, ..) made: what is asked once the arguments stand -/
def mkO (C : Addr) (sp : Sp) (dvs : List V) (vs : List V) (H1 : Hp) (Q : XK) : Prop := vs.length ≤ 1000 ∧ ∀ e, H1 e = none → sp (.ref e :: (vs ++ dvs)) (upd H1 e (exo e C none))
  (fun v H2 => v = .non ∧ ∃ (d : Addr) (fs : List (Str × V)), H2 e = some (exo e C (some d)) ∧ H2 d = some (exd d fs) ∧ H1 d = none ∧ Q (.ref C) (some d) (upd (del H2 e) d (.xd fs))) (fun _ _ _ => False)
theorem tMkO_eq {C : Addr} {sp : Sp} {dvs : List V} {ta : TA} : tMkO C sp dvs ta = fun σ H Q => ta σ H fun vs H1 => mkO C sp dvs vs H1 Q := rfl
/-- what a comprehension asks behind its iterator's making -/
def LcG (J : It) (g : TG) (tt : TT) (te : TE) (vs : List Nat) (σ : L2.St) (Q : VK) (H1 : Hp) : Prop := ∀ D, H1 D = none → ∃ W : Nat → Nat → Hp → Prop, (∃ m, W 0 m (upd H1 D (.lst []))) ∧ ∀ i m H, W i m H →
  (J.stop i H ∧ Q (.ref D) H) ∨ (J.go i H ∧ ∃ Nx : Hp → Prop, (∀ H', Nx H' → ∃ m', m' < m ∧ W (i + 1) m' H') ∧ ∀ x H', J.yld i H x H' → g x (wipe σ vs) H' fun σ2 H2 => wipe σ2 vs = wipe σ vs ∧ tt σ2 H2 fun b H3 =>
    if b = true then te σ2 H3 fun y H4 => ∃ acc, H4 D = some (.lst acc) ∧ acc.length < sizeLine ∧ Nx (upd H4 D (.lst (acc ++ [y]))) else Nx H3)
theorem tLc_eq {wi : TI} {g : TG} {tt : TT} {te : TE} {vs : List Nat} : tLc wi g tt te vs = fun σ H Q => wi σ H fun J H1 => LcG J g tt te vs σ Q H1 := rfl
theorem lcg_range {lo : Int} {n : Nat} {g : TG} {tt : TT} {te : TE} {vs : List Nat} {σ : L2.St} {H1 : Hp} {Q : VK} (Pv : Addr → Nat → Hp → Prop) (h0 : ∀ D, H1 D = none → Pv D 0 (upd H1 D (.lst [])))
    (hs : ∀ D i H, H1 D = none → i < n → Pv D i H → g (.int (lo + i)) (wipe σ vs) H fun σ2 H2 => wipe σ2 vs = wipe σ vs ∧ tt σ2 H2 fun b H3 =>
      if b = true then te σ2 H3 fun y H4 => ∃ acc, H4 D = some (.lst acc) ∧ acc.length < sizeLine ∧ Pv D (i + 1) (upd H4 D (.lst (acc ++ [y]))) else Pv D (i + 1) H3) (hd : ∀ D H, H1 D = none → Pv D n H → Q (.ref D) H) : LcG (Itr lo n) g tt te vs σ Q H1 :=
  fun D hD => lc_range (Qd := fun H => Q (.ref D) H) (Pv D) (h0 D hD) (fun i H hi h => hs D i H hD hi h) fun H h => hd D H hD h
theorem lcg_list {K : PySem.W.Frag} {a : Addr} {xs : List V} {g : TG} {tt : TT} {te : TE} {vs : List Nat} {σ : L2.St} {H1 : Hp} {Q : VK} (Pv : Addr → Nat → Hp → Prop) (h0 : ∀ D, H1 D = none → Pv D 0 (upd H1 D (.lst []))) (hl : ∀ D i H, H1 D = none → i ≤ xs.length → Pv D i H → SqL K H a xs)
    (hs : ∀ D i x H, H1 D = none → xs[i]? = some x → Pv D i H → g x (wipe σ vs) H fun σ2 H2 => wipe σ2 vs = wipe σ vs ∧ tt σ2 H2 fun b H3 =>
      if b = true then te σ2 H3 fun y H4 => ∃ acc, H4 D = some (.lst acc) ∧ acc.length < sizeLine ∧ Pv D (i + 1) (upd H4 D (.lst (acc ++ [y]))) else Pv D (i + 1) H3) (hd : ∀ D H, H1 D = none → Pv D xs.length H → Q (.ref D) H) : LcG (Itl K a) g tt te vs σ Q H1 :=
  fun D hD => lc_list (Qd := fun H => Q (.ref D) H) (Pv D) (h0 D hD) (fun i H hi h => hl D i H hD hi h) (fun i x H hi h => hs D i x H hD hi h) fun H h => hd D H hD h
local macro_rules | `(tactic| walk_at "cmul") => `(tactic| first | exact .inl ⟨by omega, by omega⟩ | exact .inr ⟨by omega, by omega⟩)
local macro_rules | `(tactic| walk_at "r1") => `(tactic| first | refine ⟨_, rfl, ?_⟩ | refine ⟨_, _, rfl, rfl, ?_⟩ | refine Or.inl ⟨_, rfl, ?_⟩)
local macro_rules | `(tactic| walk_at "sm") => `(tactic| try simp only [tSeq, tAsg, tRet, tRetN, tDrop, tOp, tUn, tVar, tC, tCB, tCons, tNil, tLst, tTup, tTest, tB, tAnd, tOr, tNot, tAndV, tOrV, tNotV, tIf, tIfS, tNext, tCont, tBreak, tCall, tCallS, WE, tXf, rI0, rI, rU, gName, gNil, gCons, gTup, gSub, tAug, tBM, tBM0, tM1, rNewStrs, tLc_eq, iRng1, iRng2, iList, iTup, tYes, wipe, List.foldl_cons, List.foldl_nil, rEq, rNe, scal, rIxS, rSlS, tSl, tPart, tNoPart, tChain, ipI, str1, tMkO_eq, L2.start, List.map_cons, List.map_nil, List.append_nil, List.cons_append, List.nil_append, List.length_cons, List.length_nil, List.drop, List.replicate, List.getElem?_cons_zero, List.getElem?_cons_succ, List.set_cons_zero, List.set_cons_succ, Option.some.injEq, V.int.injEq, V.str.injEq, V.ref.injEq, V.bl.injEq, List.cons.injEq, reduceCtorEq, false_and, and_false, exists_false, or_false, false_or, exists_eq_left', exists_eq_left, and_assoc, cx_K, exists_and_left, exists_and_right, and_true, true_and, decide_eq_true_eq, if_true, if_false, Bool.false_eq_true])
local macro_rules | `(tactic| walk_at "rm") => `(tactic| refine ⟨by walk_at "cmul", ?_⟩)

/-! ### a target that is a field of an exception that is being made -/
def gOst (K : PySem.W.Frag) (f : Str) (to : TE) : TG := fun y σ H Q => to σ H fun x H2 => ∃ a C : Addr, x = .ref a ∧ OexC K C ∧ PySem.W.findIn K (.ref C) f = some none ∧
  ((H2 a = some (exo a C none) ∧ ∀ dx, H2 dx = none → dx ≠ a → Q σ (upd (upd H2 dx (exd dx [(f, y)])) a (exo a C (some dx)))) ∨
    ∃ (dx : Addr) (fs : List (Str × V)), H2 a = some (exo a C (some dx)) ∧ H2 dx = some (exd dx fs) ∧ fs.length ≤ 900 ∧ Q σ (upd H2 dx (exd dx ((f, y) :: fs))))
theorem pg_ost {X : Cx} {o : Expr} {to : TE} {f : Str} {pos : Pos} (ho : PE X o to) : PG X (.Attribute o f pos) (gOst X.K f to) := by
  refine ⟨fun pins s σ H v u Q I r h => ?_⟩
  rw [assign_Attribute]
  refine wpAny_bind (wpAny_holding (thn (ho.run pins s σ H _ I h) fun ov s1 ⟨x, H1, I1, r1, q1⟩ => ?_))
  refine wpAny_bind (wpAny_standAt (wpAny_bind (wpAny_holding ?_)))
  obtain ⟨a, C, rfl, T, hno, q⟩ := q1
  obtain rfl : ov = Value.ref a := r1
  rcases q with ⟨ea, q⟩ | ⟨dx, fs, ea, ed, hl, q⟩
  · exact ost_new T I1 ea hno r fun dx s' n ne J => wpAny_release ⟨σ, _, J, q dx n ne⟩
  · exact ost_old T I1 ea ed hl hno r fun s' J => wpAny_release ⟨σ, _, J, q⟩

/-- all but p is kept -/
def Fr (p : Addr) (H H' : Hp) : Prop := ∀ b o, b ≠ p → H b = some o → H' b = some o
theorem Fr.refl {p : Addr} (H : Hp) : Fr p H H := fun _ _ _ h => h
theorem Fr.trans {p : Addr} {H H1 H2 : Hp} (a : Fr p H H1) (b : Fr p H1 H2) : Fr p H H2 := fun c o n h => b c o n (a c o n h)
theorem Fr.of {p : Addr} {H H1 : Hp} (a : Evl.Ex H H1) : Fr p H H1 := fun c o _ h => a c o h
theorem Fr.upd {p : Addr} {H : Hp} {o : HO} : Fr p H (upd H p o) := fun c u n h => by rw [upd_ne n]; exact h
/-- what is not known of H stays so -/
def spInit2 (C : Addr) (f1 f2 : Str) : Sp := fun vs H Q _ => ∃ (e : Addr) (x y : V), vs = [.ref e, x, y] ∧ H e = some (exo e C none) ∧
  ∀ (d : Addr) (H' : Hp), H d = none → d ≠ e → Fr e H H' → H' e = some (exo e C (some d)) → H' d = some (exd d [(f2, y), (f1, x)]) → Q .non H'
/-- what is asked where C(x, y) is raised -/
theorem mk2 {C : Addr} {f1 f2 : Str} {x y : V} {H1 : Hp} {Q : XK} (k : ∀ (d : Addr) (H' : Hp), Evl.Ex H1 H' → H' d = some (.xd [(f2, y), (f1, x)]) → Q (.ref C) (some d) H') :
    mkO C (spInit2 C f1 f2) [] [x, y] H1 Q := by
  refine ⟨by show 2 ≤ 1000; omega, fun e he => ⟨e, x, y, rfl, upd_same, fun d H' hd hne hf h1 h2 => ⟨rfl, d, _, h1, h2, ?_, ?_⟩⟩⟩
  · rw [upd_ne hne] at hd
    exact hd
  · refine k d _ (fun b o hb => ?_) upd_same
    have nbe : b ≠ e := ne_of_none hb he
    rw [upd_ne hne] at hd
    have nbd : b ≠ d := ne_of_none hb hd
    rw [upd_ne nbd, del_ne nbe]
    exact hf b o nbe (by rw [upd_ne nbe]; exact hb)

section
variable {P : Program} {w : World} {K : PySem.W.Frag} {mg : Str → Option Value} {base : Heap} {a : Ad}
/-! ### BadInputs(spot, what) -/
/-! ### the hand -/
/-- a hand stands at p: the script's cells, how many of them are taken, the rest of a great one, the mixed sum -/
def HandAt (H : Hp) (p c : Addr) : Prop := ∃ (cells : List Int) (i g t : Int), H p = some (.lst [.ref c, .int i, .int g, .int t]) ∧ H c = some (.lst (cells.map V.int)) ∧
  cells.length ≤ 63 ∧ (∀ x ∈ cells, 0 ≤ x) ∧ 0 ≤ i ∧ i ≤ 63 ∧ 0 ≤ g ∧ 0 ≤ t ∧ t < 2147483549
def spHand (K : PySem.W.Frag) : Sp := fun vs H Q _ => ∃ (s : Addr) (ns : List Int), vs = [.ref s] ∧ SqL K H s (ns.map V.int) ∧ ns.length ≤ 63 ∧
  ∀ p c H', H p = none → Evl.Ex H H' → HandAt H' p c → Q (.ref p) H'
def ivHand (H : Hp) (sc l : Addr) (ns : List Int) : Nat → L2.St → Hp → Prop := fun i σ H' => ∃ (t : Int) (cells : List Int) (v : Option V), σ = [some (.ref sc), some (.int t), some (.ref l), v] ∧
  H' l = some (.lst (cells.map V.int)) ∧ cells.length = i ∧ i ≤ ns.length ∧ (∀ x ∈ cells, 0 ≤ x) ∧ 0 ≤ t ∧ t < 2147483549 ∧ Evl.Ex H H'
theorem ok_law_hand (T : Txt K mg a) : FnOk P w K mg base CX0 1 a.f_law_hand a.d_law_hand ["_law_script"] (spHand K) := by
  refine T.F_law_hand.ok sc_law_hand (fun vs H Q E h => ?_) (fun cdv A outer s H vs Q E hr h => ?_)
  · obtain ⟨_, _, rfl, _⟩ := h
    rfl
  · obtain ⟨sc, ns, rfl, hS, hl, k⟩ := h
    refine ⟨_, (pss_cons (ps_set (i := 1) sc_law_hand.nd rfl (by first | exact Or.inl rfl | exact Or.inr rfl) (pe_op op_add (pe_callB call_len_seq (by rfl) T.z_len (by decide +kernel) (pa_cons (pv 0) pa_nil)) pe_int))
  (pss_cons (ps_set (i := 2) sc_law_hand.nd rfl (by first | exact Or.inl rfl | exact Or.inr rfl) (pe_lst pa_nil))
  (pss_cons (ps_for PassesOwn.never rfl (pi_list (pv 0)) (pg_name (i := 3) sc_law_hand.nd rfl (by first | exact Or.inl rfl | exact Or.inr rfl)) (pss_cons (ps_set (i := 1) sc_law_hand.nd rfl (by first | exact Or.inl rfl | exact Or.inr rfl) (pe_op op_mod (pe_callTy call_int1 (by rfl) T.z_int (by decide +kernel) (pa_cons (pe_op op_add (pe_op op_mul (pv 1) pe_int) (pe_callTy call_int1 (by rfl) T.z_int (by decide +kernel) (pa_cons (pv 3) pa_nil))) pa_nil)) pe_int))
  (pss_one (ps_expr (pe_bm PySem.F.plainAttrs_list PySem.F.slot_list_append PySem.F.type_list_append mt_append (pv 2) (pa_cons (pe_callB call_abs (by rfl) T.z_abs (by decide +kernel) (pa_cons (pe_callTy call_int1 (by rfl) T.z_int (by decide +kernel) (pa_cons (pv 3) pa_nil)) pa_nil)) pa_nil))))))
  (pss_one (ps_ret (pe_lst (pa_cons (pv 2) (pa_cons pe_int (pa_cons pe_int (pa_cons (pv 1) pa_nil)))))))))), ?_⟩
    walk_at "sm"
    refine ⟨_, .inl hS, by decide, fun l hl0 => ?_⟩
    have nls : ∀ {b o}, H b = some o → b ≠ l := fun hb => ne_of_none hb hl0
    refine ⟨_, rfl, sc, rfl, ⟨_, Evl.ex_l (Evl.Ex.new hl0) hS⟩, for_list (K := K) (a := sc) (xs := ns.map V.int) (ivHand H sc l ns) ⟨_, [], none, rfl, upd_same, rfl, Nat.zero_le _, (by intro x hx; cases hx), ?_, ?_, Evl.Ex.new hl0⟩ (fun i σ H' _ ⟨_, _, _, _, _, _, _, _, _, _, e⟩ => Evl.ex_l e hS) ?_ ?_⟩
    · rw [List.length_map]; omega
    · rw [List.length_map]; omega
    · rintro i y σ H' hi ⟨t, cells, v, rfl, h1, h2, h3, h4, h5, h6, h7⟩
      obtain ⟨z, hz, rfl⟩ := int_at hi
      have hi' := (List.getElem?_eq_some_iff.mp hz).1
      walk_at "sm"
      refine ⟨.inl ⟨by omega, by omega⟩, by decide, .inl ⟨rfl, _, SqL.of h1⟩, l, _, _, rfl, rfl, h1, ?_, ?_⟩
      · rw [List.length_map]; exact Nat.lt_of_lt_of_le (by omega : cells.length < 100) (by decide)
      · refine ⟨_, cells ++ [if z < 0 then -z else z], _, rfl, by rw [upd_same, List.map_append]; rfl, by rw [List.length_append, h2]; rfl, by omega, ?_, Int.emod_nonneg _ (by decide), ?_, Evl.Ex.mut h7 hl0⟩
        · intro x hx
          rcases List.mem_append.mp hx with hx | hx
          · exact h4 x hx
          · rw [List.mem_singleton] at hx
            subst hx
            split <;> omega
        · have := Int.emod_lt_of_pos (t * 2017 + z) (show (0 : Int) < 2147483543 by decide)
          omega
    · rintro σ H' ⟨t, cells, v, rfl, h1, h2, h3, h4, h5, h6, h7⟩
      walk_at "sm"
      refine ⟨by decide, fun p hp => ?_⟩
      refine k p l _ (Evl.fresh_back h7 hp) (h7.trans (Evl.Ex.new hp)) ⟨cells, 0, 0, t, upd_same, by rw [upd_ne (ne_of_none h1 hp)]; exact h1, ?_, h4, by decide, by decide, by decide, h5, h6⟩
      rw [h2, List.length_map]; exact hl
def spMixed : Sp := fun vs H Q _ => ∃ (n t : Int), vs = [.int n, .int t] ∧ 0 ≤ n ∧ n < 2147483600 ∧ 0 ≤ t ∧ t ≤ 64 ∧ ∀ r, 0 ≤ r → Q (.int r) H
theorem ok_law_mixed (T : Txt K mg a) : FnOk P w K mg base CX0 1 a.f_law_mixed a.d_law_mixed ["_law_number", "_law_turn"] spMixed := by
  refine T.F_law_mixed.ok sc_law_mixed (fun vs H Q E h => ?_) (fun cdv A outer s H vs Q E hr h => ?_)
  · obtain ⟨_, _, rfl, _⟩ := h
    rfl
  · obtain ⟨n, t, rfl, h1, h2, h3, h4, k⟩ := h
    refine ⟨_, (pss_cons (ps_set (i := 2) sc_law_mixed.nd rfl (by first | exact Or.inl rfl | exact Or.inr rfl) (pe_op op_mod (pe_callTy call_int1 (by rfl) T.z_int (by decide +kernel) (pa_cons (pe_op op_add (pe_op op_add (pe_op op_mul (pv 0) pe_int) (pe_op op_mul (pv 1) pe_int)) pe_int) pa_nil)) pe_int))
  (pss_cons (ps_set (i := 3) sc_law_mixed.nd rfl (by first | exact Or.inl rfl | exact Or.inr rfl) (pe_op op_mod (pe_callTy call_int1 (by rfl) T.z_int (by decide +kernel) (pa_cons (pe_op op_add (pe_op op_add (pe_op op_mul (pv 2) (pv 2)) (pe_op op_mul (pv 1) pe_int)) (pe_op op_fdiv (pv 2) pe_int)) pa_nil)) pe_int))
  (pss_one (ps_ret (pe_op op_fdiv (pe_callTy call_int1 (by rfl) T.z_int (by decide +kernel) (pa_cons (pe_op op_mod (pe_callTy call_int1 (by rfl) T.z_int (by decide +kernel) (pa_cons (pe_op op_add (pe_op op_mul (pv 3) pe_int) (pe_op op_fdiv (pv 2) pe_int)) pa_nil)) pe_int) pa_nil)) pe_int))))), ?_⟩
    walk_at "sm"
    have e1 := Int.emod_nonneg (n * 40014 + t * 7331 + 60013) (show (2147483399 : Int) ≠ 0 by decide)
    have e2 := Int.emod_lt_of_pos (n * 40014 + t * 7331 + 60013) (show (0 : Int) < 2147483399 by decide)
    refine ⟨.inl ⟨by omega, by omega⟩, .inl ⟨by omega, by omega⟩, by decide, .inl ⟨by omega, by omega⟩, .inl ⟨by omega, by omega⟩, ⟨by decide, by decide⟩, by decide, .inr ⟨by decide, by decide⟩, ⟨by decide, by decide⟩, by decide, ⟨by decide, by decide⟩, k _ ?_⟩
    exact Int.ediv_nonneg (Int.emod_nonneg _ (by decide)) (by decide)
def spTake : Sp := fun vs H Q _ => ∃ (p c : Addr) (m : Int), vs = [.ref p, .int m] ∧ HandAt H p c ∧ 0 < m ∧ m < 1073741824 ∧
  ∀ r H', 0 ≤ r → r < m → Fr p H H' → HandAt H' p c → Q (.int r) H'
def midTake (H : Hp) (p c : Addr) (m : Int) : L2.St → Hp → Prop := fun σ' H' => ∃ v, σ' = [some (.ref p), some (.int m), v, none] ∧ Fr p H H' ∧ HandAt H' p c
theorem ok_law_take (T : Txt K mg a) : FnOk P w K mg base CX0 2 a.f_law_take a.d_law_take ["_law_hand_here", "_law_many"] spTake := by
  refine T.F_law_take.ok sc_law_take (fun vs H Q E h => ?_) (fun cdv A outer s H vs Q E hr h => ?_)
  · obtain ⟨_, _, _, rfl, _⟩ := h
    rfl
  · obtain ⟨p, c, m, rfl, ⟨cells, i, g, t, hp, hc, hl, hx, hi0, hi1, hg, ht0, ht1⟩, hm0, hm1, k⟩ := h
    refine ⟨_, (Evl.pss_cut (ps_if (PW.pt (pw_and (pt_cmpR op_eq (pe_ix ix_list (pv 0) pe_int (fun _ _ => rfl)) pe_int (nomark _)) (pw_and1 (pt_cmpR op_lt (pe_ix ix_list (pv 0) pe_int (fun _ _ => rfl)) (pe_callB call_len_seq (by rfl) T.z_len (by decide +kernel) (pa_cons (pe_ix ix_list (pv 0) pe_int (fun _ _ => rfl)) pa_nil)) (nomark _))))) (pss_cons (ps_set (i := 2) sc_law_take.nd rfl (by first | exact Or.inl rfl | exact Or.inr rfl) (pe_ix ix_list (pe_ix ix_list (pv 0) pe_int (fun _ _ => rfl)) (pe_ix ix_list (pv 0) pe_int (fun _ _ => rfl)) (fun _ _ => rfl)))
  (pss_cons (ps_asg (pe_op op_add (pe_ix ix_list (pv 0) pe_int (fun _ _ => rfl)) pe_int) (pg_sub (pv 0) pe_int set_list (by intro _; rfl)))
  (pss_cons (ps_if (pt_cmpR op_lt (pv 2) (pe_op op_pow pe_int pe_int) (nomark _)) (pss_one (ps_ret (pe_op op_mod (pe_callTy call_int1 (by rfl) T.z_int (by decide +kernel) (pa_cons (pe_call (ok_law_mixed T) (hr.mono (by decide)) rfl T.m_law_mixed T.F_law_mixed.kp T.b_law_mixed .nil pass0 (pa_cons (pe_op op_mod (pe_callTy call_int1 (by rfl) T.z_int (by decide +kernel) (pa_cons (pv 2) pa_nil)) pe_int) (pa_cons (pe_ix ix_list (pv 0) pe_int (fun _ _ => rfl)) pa_nil))) pa_nil)) (pv 1))))
    pss_nil)
  (pss_one (ps_asg (pv 2) (pg_sub (pv 0) pe_int set_list (by intro _; rfl)))))))
    pss_nil)
  (pss_cons (ps_if (pt_cmpR op_gt (pe_ix ix_list (pv 0) pe_int (fun _ _ => rfl)) pe_int (nomark _)) (pss_cons (ps_set (i := 3) sc_law_take.nd rfl (by first | exact Or.inl rfl | exact Or.inr rfl) (pe_ix ix_list (pv 0) pe_int (fun _ _ => rfl)))
  (pss_cons (ps_asg (pe_op op_fdiv (pe_callTy call_int1 (by rfl) T.z_int (by decide +kernel) (pa_cons (pv 3) pa_nil)) (pv 1)) (pg_sub (pv 0) pe_int set_list (by intro _; rfl)))
  (pss_one (ps_ret (pe_op op_mod (pe_callTy call_int1 (by rfl) T.z_int (by decide +kernel) (pa_cons (pv 3) pa_nil)) (pv 1))))))
    pss_nil)
  (pss_cons (ps_asg (pe_op op_mod (pe_callTy call_int1 (by rfl) T.z_int (by decide +kernel) (pa_cons (pe_op op_add (pe_ix ix_list (pv 0) pe_int (fun _ _ => rfl)) pe_int) pa_nil)) pe_int) (pg_sub (pv 0) pe_int set_list (by intro _; rfl)))
  (pss_one (ps_ret (pe_op op_mod (pe_callTy call_int1 (by rfl) T.z_int (by decide +kernel) (pa_cons (pe_call (ok_law_mixed T) (hr.mono (by decide)) rfl T.m_law_mixed T.F_law_mixed.kp T.b_law_mixed .nil pass0 (pa_cons (pe_ix ix_list (pv 0) pe_int (fun _ _ => rfl)) (pa_cons (pe_ix ix_list (pv 0) pe_int (fun _ _ => rfl)) pa_nil))) pa_nil)) (pv 1))))))), ?_⟩
    walk_at "sm"
    have ncp : c ≠ p := ne_of hc hp (by intro q; injection q with q; cases cells with
      | nil => cases q
      | cons x r => injection q with q _; cases q)
    refine ⟨midTake H p c m, ?_, ?_⟩
    · walk_at "sm"
      have sK : SqL K H p [.ref c, .int i, .int g, .int t] := SqL.of hp
      refine ixl sK rfl ?_
      walk_at "sm"
      refine ite2 (fun cg => ?_) (fun cg => ⟨_, rfl, Fr.refl H, cells, i, g, t, hp, hc, hl, hx, hi0, hi1, hg, ht0, ht1⟩)
      refine ixl sK rfl (ixl sK rfl ?_)
      walk_at "sm"
      refine ⟨_, .inl (SqL.of hc), ?_⟩
      walk_at "sm"
      refine ite2 (fun ci => ?_) (fun ci => ⟨_, rfl, Fr.refl H, cells, i, g, t, hp, hc, hl, hx, hi0, hi1, hg, ht0, ht1⟩)
      rw [List.length_map] at ci
      obtain ⟨z, hz, ez⟩ := atI_int hi0 ci
      have hz0 := hx z hz
      refine ixl sK rfl (ixl sK rfl (ixl (SqL.of hc) ez (ixl sK rfl ?_)))
      walk_at "sm"
      refine setl hp rfl ?_
      have hp1 : (upd H p (.lst [.ref c, .int (i + 1), .int g, .int t])) p = some (.lst [.ref c, .int (i + 1), .int g, .int t]) := upd_same
      have hc1 : (upd H p (.lst [.ref c, .int (i + 1), .int g, .int t])) c = some (.lst (cells.map V.int)) := by rw [upd_ne ncp]; exact hc
      refine ⟨⟨by decide, by decide, by decide⟩, ite2 (fun cz => ?_) (fun cz => ?_)⟩
      · refine ⟨by decide, ixl (SqL.of hp1) rfl ⟨_, _, rfl, Int.emod_nonneg _ (by decide), ?_, by omega, by omega, fun r hr0 => ?_⟩⟩
        · have := Int.emod_lt_of_pos z (show (0 : Int) < 2147483399 by decide)
          omega
        · walk_at "sm"
          exact ⟨hm0, k _ _ (Int.emod_nonneg _ (by omega)) (Int.emod_lt_of_pos _ hm0) Fr.upd ⟨cells, i + 1, g, t, hp1, hc1, hl, hx, by omega, by omega, hg, ht0, ht1⟩⟩
      · refine setl hp1 rfl ⟨_, rfl, Fr.upd.trans Fr.upd, cells, i + 1, z, t, upd_same, by rw [upd_ne ncp]; exact hc1, hl, hx, by omega, by omega, hz0, ht0, ht1⟩
    · rintro σ' H' ⟨v, rfl, f, cells', i', g', t', hp', hc, hl', hx', hi0', hi1', hg', ht0', ht1'⟩
      have ncp' : c ≠ p := ne_of hc hp' (by intro q; injection q with q; cases cells' with
        | nil => cases q
        | cons x r => injection q with q _; cases q)
      walk_at "sm"
      have sK : SqL K H' p [.ref c, .int i', .int g', .int t'] := SqL.of hp'
      refine ixl sK rfl ?_
      walk_at "sm"
      refine ite2 (fun cg => ?_) (fun cg => ?_)
      · refine ixl sK rfl ?_
        walk_at "sm"
        refine ⟨⟨hm0, hm1⟩, setl hp' rfl ⟨hm0, k _ _ (Int.emod_nonneg _ (by omega)) (Int.emod_lt_of_pos _ hm0) (f.trans Fr.upd) ⟨cells', i', g' / m, t', upd_same, by rw [upd_ne ncp']; exact hc, hl', hx', hi0', hi1', Int.ediv_nonneg hg' (by omega), ht0', ht1'⟩⟩⟩
      · refine ixl sK rfl ?_
        walk_at "sm"
        have e0 := Int.emod_nonneg (t' + 1) (show (2147483549 : Int) ≠ 0 by decide)
        have e1 := Int.emod_lt_of_pos (t' + 1) (show (0 : Int) < 2147483549 by decide)
        refine ⟨by decide, setl hp' rfl ?_⟩
        have hp1 : (upd H' p (.lst [.ref c, .int i', .int g', .int ((t' + 1) % 2147483549)])) p = some (.lst [.ref c, .int i', .int g', .int ((t' + 1) % 2147483549)]) := upd_same
        refine ixl (SqL.of hp1) rfl (ixl (SqL.of hp1) rfl ⟨_, _, rfl, e0, by omega, by omega, by omega, fun r hr0 => ?_⟩)
        walk_at "sm"
        exact ⟨hm0, k _ _ (Int.emod_nonneg _ (by omega)) (Int.emod_lt_of_pos _ hm0) (f.trans Fr.upd) ⟨cells', i', g', (t' + 1) % 2147483549, hp1, by rw [upd_ne ncp']; exact hc, hl', hx', hi0', hi1', hg', e0, e1⟩⟩
end
open SX (S)

theorem sz {n : Nat} (h : n ≤ 100000) : n ≤ sizeLine := Evl.sz_of h
theorem kw_flat (l : List Str) : (l.map V.str).all flatV = true := by
  induction l with
  | nil => rfl
  | cons s l ih => rw [List.map_cons, List.all_cons, ih]; rfl
theorem str_at_map {l : List Str} {i : Nat} {x : V} (h : (l.map V.str)[i]? = some x) : ∃ z, l[i]? = some z ∧ x = .str z := by
  rw [List.getElem?_map] at h
  cases e : l[i]? with
  | none => rw [e] at h; cases h
  | some z => rw [e] at h; exact ⟨z, rfl, (Option.some.inj h).symm⟩
theorem in_tup {K : PySem.W.Frag} {H : Hp} {p : Addr} {xs : List V} {x : V} {Q : VK} (h : SqT K H p xs) (fx : flatV x = true) (fxs : xs.all flatV = true) (q : Q (.bl (inV x xs)) H) : rIn K false x (.ref p) H Q := ⟨p, xs, rfl, .inr h, fx, fxs, q⟩
theorem ni_tup {K : PySem.W.Frag} {H : Hp} {p : Addr} {xs : List V} {x : V} {Q : VK} (h : SqT K H p xs) (fx : flatV x = true) (fxs : xs.all flatV = true) (q : Q (.bl (!inV x xs)) H) : rIn K true x (.ref p) H Q := ⟨p, xs, rfl, .inr h, fx, fxs, q⟩
theorem isi_ty {K : PySem.W.Frag} {H : Hp} {x : V} {t : String} {n : String} {b : Bool} {Q : VK} (ht : TyX K H x (.type t)) (hk : kitB t n = some b) (q : Q (.bl b) H) : rIsi K [x, .ty n] H Q := ⟨x, .ty n, .type t, .type n, b, rfl, .ty n, ht, kit_ty hk, q⟩
theorem Paired.snoc {α β : Type} {F : α → β → Prop} {x : α} {y : β} (r : F x y) : ∀ {l : List α} {m : List β}, Paired F l m → Paired F (l ++ [x]) (m ++ [y])
  | _, _, .nil => .cons r .nil
  | _, _, .cons q t => .cons q (Paired.snoc r t)
theorem HandAt.go {H H' : Hp} {p c : Addr} (e : Evl.Ex H H') (h : HandAt H p c) : HandAt H' p c := by
  obtain ⟨cells, i, g, t, hp, hc, r⟩ := h
  exact ⟨cells, i, g, t, e _ _ hp, e _ _ hc, r⟩
theorem HandAt.lt {H : Hp} {p c l : Addr} (h : HandAt H p c) (hl : H l = none) : l ≠ p := by
  obtain ⟨cells, i, g, t, hp, _⟩ := h
  exact Ne.symm (ne_of_none hp hl)
theorem HandAt.lc {H : Hp} {p c l : Addr} (h : HandAt H p c) (hl : H l = none) : l ≠ c := by
  obtain ⟨cells, i, g, t, hp, hc, _⟩ := h
  exact Ne.symm (ne_of_none hc hl)
theorem HandAt.upd {H : Hp} {p c l : Addr} {o : HO} (h : HandAt H p c) (n1 : l ≠ p) (n2 : l ≠ c) : HandAt (upd H l o) p c := by
  obtain ⟨cells, i, g, t, hp, hc, r⟩ := h
  exact ⟨cells, i, g, t, by rw [upd_ne (Ne.symm n1)]; exact hp, by rw [upd_ne (Ne.symm n2)]; exact hc, r⟩
theorem Fr.mut {p l : Addr} {H H' : Hp} {o : HO} (f : Fr p H H') (hl : H l = none) : Fr p H (L2.upd H' l o) := fun b u n h => by
  rw [upd_ne (ne_of_none h hl)]
  exact f b u n h
theorem Fr.lst {K : PySem.W.Frag} {H H' : Hp} {p l : Addr} {xs : List V} (f : Fr p H H') (n : l ≠ p) (h : H l = some (.lst xs)) : SqL K H' l xs := SqL.of (f _ _ n h)
theorem atI_str {l : List Str} {i : Int} (h0 : 0 ≤ i) (h1 : i < (l.length : Int)) : ∃ z, z ∈ l ∧ atI (l.map V.str) i = some (.str z) := by
  obtain ⟨k, rfl⟩ : ∃ k : Nat, i = (k : Int) := ⟨i.toNat, by omega⟩
  have hk : k < l.length := by omega
  exact ⟨l[k], List.getElem_mem hk, atI_nat (by rw [List.getElem?_map, List.getElem?_eq_getElem hk] <;> rfl)⟩
theorem tk {p c : Addr} {m : Int} {H : Hp} {Q : VK} {E : XK} (h : HandAt H p c) (h0 : 0 < m) (h1 : m < 1073741824) (k : ∀ (r : Int) (H' : Hp), 0 ≤ r → r < m → Fr p H H' → HandAt H' p c → Q (.int r) H') : spTake [.ref p, .int m] H Q E := ⟨p, c, m, rfl, h, h0, h1, k⟩
def dV : V → PyData
  | .bl b => .bool b
  | .int i => .int i
  | .str x => .str x
  | _ => .none
def okF : V → Bool
  | .non => true
  | .bl _ => true
  | .int _ => true
  | .str x => PyData.strOk x
  | _ => false
theorem dp_flat {K : PySem.W.Frag} {H : Hp} {v : V} (h : okF v = true) : Dp K H v (dV v) := by
  cases v with
  | non => exact .non
  | bl b => exact .bl b
  | int i => exact .int i
  | str x => exact .str x
  | byt b => cases h
  | flt b => cases h
  | ref b => cases h
  | ty b => cases h
theorem dp_flats {K : PySem.W.Frag} {H : Hp} : ∀ {vs : List V}, vs.all okF = true → DpAll K H vs (vs.map dV)
  | [], _ => .nil
  | v :: vs, h => by
    rw [List.all_cons, Bool.and_eq_true] at h
    exact .cons (dp_flat h.1) (dp_flats h.2)
theorem lay_flat {v : V} (h : okF v = true) : (dV v).canLay0 = true ∧ (dV v).depth ≤ 1 := by
  cases v with
  | non => exact ⟨rfl, by decide⟩
  | bl b => exact ⟨rfl, by show 0 ≤ 1; omega⟩
  | int i => exact ⟨rfl, by show 0 ≤ 1; omega⟩
  | str x => exact ⟨h, by show 0 ≤ 1; omega⟩
  | byt b => cases h
  | flt b => cases h
  | ref b => cases h
  | ty b => cases h
theorem lay_all {n : Nat} : ∀ {ds : List PyData}, (∀ d ∈ ds, d.canLay0 = true ∧ d.depth ≤ n) → PyData.canLayAll0 ds = true ∧ PyData.depthAll ds ≤ n
  | [], _ => ⟨rfl, Nat.zero_le _⟩
  | d :: ds, h => by
    have h1 := h d List.mem_cons_self
    have h2 := lay_all (ds := ds) fun x hx => h x (List.mem_cons_of_mem _ hx)
    refine ⟨?_, ?_⟩
    · show (d.canLay0 && PyData.canLayAll0 ds) = true
      rw [h1.1, h2.1]; rfl
    · show max d.depth (PyData.depthAll ds) ≤ n
      omega
theorem lay_tup {n : Nat} {ds : List PyData} (h : ∀ d ∈ ds, d.canLay0 = true ∧ d.depth ≤ n) : (PyData.tuple ds).canLay0 = true ∧ (PyData.tuple ds).depth ≤ n + 1 := by
  have q := lay_all h
  exact ⟨q.1, by show PyData.depthAll ds + 1 ≤ n + 1; omega⟩
theorem lay_lst {n : Nat} {ds : List PyData} (h : ∀ d ∈ ds, d.canLay0 = true ∧ d.depth ≤ n) : (PyData.list ds).canLay0 = true ∧ (PyData.list ds).depth ≤ n + 1 := by
  have q := lay_all h
  exact ⟨q.1, by show PyData.depthAll ds + 1 ≤ n + 1; omega⟩
theorem shaped_of {d : PyData} {n : Nat} (h : d.canLay0 = true ∧ d.depth ≤ n) (hn : n ≤ 64) : SeqAt.shaped d = true := by
  unfold SeqAt.shaped
  rw [h.1, decide_eq_true (Nat.le_trans h.2 hn)]
  rfl
theorem ne_same {K : PySem.W.Frag} {H : Hp} {x y : V} {d : PyData} {Q : VK} (hx : Dp K H x d) (hy : Dp K H y d) (hs : SeqAt.shaped d = true) (q : Q (.bl false) H) : rNeD K x y H Q :=
  ⟨d, d, hx, hy, hs, hs, by rw [SeqAt.eqv_refl d (SeqAt.canLay_of_shaped hs)]; exact q⟩
theorem eq_same {K : PySem.W.Frag} {H : Hp} {x y : V} {d : PyData} {Q : VK} (hx : Dp K H x d) (hy : Dp K H y d) (hs : SeqAt.shaped d = true) (q : Q (.bl true) H) : rEqD K x y H Q :=
  ⟨d, d, hx, hy, hs, hs, by rw [SeqAt.eqv_refl d (SeqAt.canLay_of_shaped hs)]; exact q⟩
theorem op_eqD_s {X : Cx} {a : Addr} {pins : List (Addr × Obj)} (hu : (X.suite a pins).A.units + 64 < cLine) : OpR (X.suite a pins) (compareOp .Eq) (rEqD X.K) := op_eqD hu
theorem op_neD_s {X : Cx} {a : Addr} {pins : List (Addr × Obj)} (hu : (X.suite a pins).A.units + 64 < cLine) : OpR (X.suite a pins) (compareOp .NotEq) (rNeD X.K) := op_neD hu
theorem ix_list_b {X : Cx} {s : Shared} {H : Hp} {scope : Scope} {env : Env} {fp : List Addr} : IxR (X.blk s H scope env fp) (rIxL X.K) := ix_list
theorem ix_tup_b {X : Cx} {s : Shared} {H : Hp} {scope : Scope} {env : Env} {fp : List Addr} : IxR (X.blk s H scope env fp) (rIxT X.K) := ix_tup
theorem ixt {K : PySem.W.Frag} {H : Hp} {p : Addr} {xs : List V} {i : Int} {v : V} {Q : VK} (h : H p = some (.tup xs)) (e : atI xs i = some v) (q : Q v H) : rIxT K (.ref p) (.int i) H Q := ⟨p, xs, i, v, rfl, rfl, SqT.of h, e, q⟩
theorem was_true {K : PySem.W.Frag} {C : Addr} {i : Nat} {ts : Addr → Value → Option Addr → TS} {Wout : WX} {D : Ends} {d : Option Addr} {σ : L2.St} {H : Hp} (he : PySem.W.exmOne K (.ref C) (.ref C) = some true)
    (h : ∀ a, H a = none → ts a (.ref C) d { nx := fun σ' H' => D.nx (σ'.set i none) H', rt := D.rt, bk := fun σ' H' => D.bk (σ'.set i none) H', ct := fun σ' H' => D.ct (σ'.set i none) H' } (σ.set i (some (.ref a))) H) :
    wAs K (.ref C) i ts Wout D (.ref C) d σ H := ⟨true, he, fun _ => h, fun q => nomatch q⟩
/-! ### an own error made without arguments -/
theorem pmk_own0 {X : Cx} {C : Addr} {bmB : List Value} {B newId initId : String} {x : Str} {p pos : Pos} (F : ExcBaseFacts B newId initId bmB) (q : PySem.W.excIn X.K C bmB newId = true) (gC : X.mg x = some (.ref C)) (kC : PySem.W.keepIn X.K (.ref C) = true) (r : Raises X (.ref C)) (hg : Gl X x)
    (hdb : (x == ("__debug__" : Str)) = false := by decide) : PMk X (.Call (.Name x p) [] [] pos) (fun _ H Q => Q (.ref C) none H) := by
  intro pins s σ H Q I h
  refine wpAny_Call_Name_kw (ld_glob I hg gC ?_ hdb)
  refine PySem.W.callWith_K0 I.kIn kC ?_
  show wpAny _ _ (call (.ref C) []) _ _ _
  obtain ⟨bm, N, nm, qn, bs, hdct, sn, sub, ab, col, dd, k0, k1, k2, k3, k5, mN, hC, hN, hni, T⟩ := exc_obj I.kIn q
  refine wpAny_call_exc_subT F T hC hN hni (fun h' e hm => ?_) (Nat.zero_le _)
  exact mk_of I hm r h (I.hok.gone hm.new)
/-! ### a walk over what is a list or a tuple -/
theorem pi_or {X : Cx} {tg it : Expr} {r1 r2 : TI} (h1 : PI X tg it r1) (h2 : PI X tg it r2) : PI X tg it (fun σ H R => r1 σ H R ∨ r2 σ H R) :=
  ⟨fun pins s σ H R I h => h.elim (fun z => h1.run pins s σ H R I z) fun z => h2.run pins s σ H R I z⟩


/-! ### things whose class is told -/
def PlainV (H : Hp) (x : V) : Prop := x = .non ∨ (∃ b, x = .bl b) ∨ (∃ i, x = .int i) ∨ (∃ s, x = .str s) ∨ (∃ p xs, x = .ref p ∧ H p = some (.tup xs)) ∨ ∃ p xs, x = .ref p ∧ H p = some (.lst xs)
theorem PlainV.go {H H' : Hp} {x : V} (e : Evl.Ex H H') (h : PlainV H x) : PlainV H' x := by
  rcases h with h | h | h | h | ⟨p, xs, h, q⟩ | ⟨p, xs, h, q⟩
  · exact .inl h
  · exact .inr (.inl h)
  · exact .inr (.inr (.inl h))
  · exact .inr (.inr (.inr (.inl h)))
  · exact .inr (.inr (.inr (.inr (.inl ⟨p, xs, h, e _ _ q⟩))))
  · exact .inr (.inr (.inr (.inr (.inr ⟨p, xs, h, e _ _ q⟩))))
theorem plain_int {H : Hp} {i : Int} : PlainV H (.int i) := .inr (.inr (.inl ⟨i, rfl⟩))
def whB : V → Bool
  | .int _ => true
  | _ => false
def wiB (x : V) (lo hi : Int) : Bool := match x with
  | .int i => decide (lo ≤ i) && decide (i ≤ hi)
  | _ => false
def sqV : V → Bool
  | .ref _ => true
  | _ => false
theorem is_int {K : PySem.W.Frag} {H : Hp} {x : V} {Q : VK} (h : PlainV H x) (q : ∀ b c, rIsi K [x, .ty "bool"] H (fun y H' => y = .bl c ∧ H' = H) → (b && !c) = whB x → Q (.bl b) H) : rIsi K [x, .ty "int"] H Q := by
  rcases h with rfl | ⟨b, rfl⟩ | ⟨i, rfl⟩ | ⟨s, rfl⟩ | ⟨p, xs, rfl, e⟩ | ⟨p, xs, rfl, e⟩
  · exact isi_ty (t := "NoneType") (b := false) (.base .non) (by decide +kernel) (q _ false (isi_ty (t := "NoneType") (b := false) (.base .non) (by decide +kernel) ⟨rfl, rfl⟩) rfl)
  · exact isi_ty (t := "bool") (b := true) (.base (.bl _)) (by decide +kernel) (q _ true (isi_ty (t := "bool") (b := true) (.base (.bl _)) (by decide +kernel) ⟨rfl, rfl⟩) rfl)
  · exact isi_ty (t := "int") (b := true) (.base (.int _)) (by decide +kernel) (q _ false (isi_ty (t := "int") (b := false) (.base (.int _)) (by decide +kernel) ⟨rfl, rfl⟩) rfl)
  · exact isi_ty (t := "str") (b := false) (.base (.str _)) (by decide +kernel) (q _ false (isi_ty (t := "str") (b := false) (.base (.str _)) (by decide +kernel) ⟨rfl, rfl⟩) rfl)
  · exact isi_ty (t := "tuple") (b := false) (.base (.tup e)) (by decide +kernel) (q _ false (isi_ty (t := "tuple") (b := false) (.base (.tup e)) (by decide +kernel) ⟨rfl, rfl⟩) rfl)
  · exact isi_ty (t := "list") (b := false) (.base (.lst e)) (by decide +kernel) (q _ false (isi_ty (t := "list") (b := false) (.base (.lst e)) (by decide +kernel) ⟨rfl, rfl⟩) rfl)
theorem isi_mono {K : PySem.W.Frag} {H : Hp} {vs : List V} {c : Bool} {Q : VK} (h : rIsi K vs H fun y H' => y = .bl c ∧ H' = H) (q : Q (.bl c) H) : rIsi K vs H Q := by
  obtain ⟨x, y, t, u, b, e1, e2, e3, e4, e5, _⟩ := h
  cases e5
  exact ⟨x, y, t, u, _, e1, e2, e3, e4, q⟩
theorem isT2 {K : PySem.W.Frag} {H : Hp} {x : V} {tp : Addr} {t : String} {b : Bool} {Q : VK} (hT : H tp = some (.tup [.ty "list", .ty "tuple"])) (ht : TyX K H x (.type t)) (e : PySem.W.kitAny K (.type t) [.type "list", .type "tuple"] = some b) (q : Q (.bl b) H) : rIsiT K [x, .ref tp] H Q :=
  ⟨x, tp, _, _, _, b, rfl, hT, .cons (.ty _) (.cons (.ty _) .nil), ht, e, q⟩
theorem is_seq {K : PySem.W.Frag} {H : Hp} {x : V} {tp : Addr} {Q : VK} (h : PlainV H x) (hT : H tp = some (.tup [.ty "list", .ty "tuple"])) (q : Q (.bl (sqV x)) H) : rIsiT K [x, .ref tp] H Q := by
  rcases h with rfl | ⟨b, rfl⟩ | ⟨i, rfl⟩ | ⟨s, rfl⟩ | ⟨p, xs, rfl, e⟩ | ⟨p, xs, rfl, e⟩
  · exact isT2 (t := "NoneType") (b := false) hT (.base .non) (kitAny_cons (kit_ty (r := false) (by decide +kernel)) (fun _ => kitAny_cons (kit_ty (r := false) (by decide +kernel)) (fun _ => rfl) (fun h => by cases h)) (fun h => by cases h)) q
  · exact isT2 (t := "bool") (b := false) hT (.base (.bl _)) (kitAny_cons (kit_ty (r := false) (by decide +kernel)) (fun _ => kitAny_cons (kit_ty (r := false) (by decide +kernel)) (fun _ => rfl) (fun h => by cases h)) (fun h => by cases h)) q
  · exact isT2 (t := "int") (b := false) hT (.base (.int _)) (kitAny_cons (kit_ty (r := false) (by decide +kernel)) (fun _ => kitAny_cons (kit_ty (r := false) (by decide +kernel)) (fun _ => rfl) (fun h => by cases h)) (fun h => by cases h)) q
  · exact isT2 (t := "str") (b := false) hT (.base (.str _)) (kitAny_cons (kit_ty (r := false) (by decide +kernel)) (fun _ => kitAny_cons (kit_ty (r := false) (by decide +kernel)) (fun _ => rfl) (fun h => by cases h)) (fun h => by cases h)) q
  · exact isT2 (t := "tuple") (b := true) hT (.base (.tup e)) (kitAny_cons (kit_ty (r := false) (by decide +kernel)) (fun _ => kitAny_cons (kit_ty (r := true) (by decide +kernel)) (fun h => by cases h) (fun _ => rfl)) (fun h => by cases h)) q
  · exact isT2 (t := "list") (b := true) hT (.base (.lst e)) (kitAny_cons (kit_ty (r := true) (by decide +kernel)) (fun h => by cases h) (fun _ => rfl)) q
section
variable {P : Program} {w : World} {K : PySem.W.Frag} {mg : Str → Option Value} {base : Heap} {a : Ad}
def spWh : Sp := fun vs H Q _ => ∃ x, vs = [x] ∧ PlainV H x ∧ Q (.bl (whB x)) H
theorem ok_is_whole (T : Txt K mg a) : FnOk P w K mg base CX0 1 a.f_is_whole a.d_is_whole ["thing"] spWh := by
  refine T.F_is_whole.ok sc_is_whole (fun vs H Q E h => ?_) (fun cdv A outer s H vs Q E hr h => ?_)
  · obtain ⟨_, rfl, _⟩ := h
    rfl
  · obtain ⟨x, rfl, hx, k⟩ := h
    refine ⟨_, (pss_one (ps_ret (pe_and (pe_callB call_isi (by rfl) T.z_isinstance (by decide +kernel) (pa_cons (pv 0) (pa_cons (pe_bltn (v := .ty "int") (by rfl) T.z_int (by decide +kernel) rfl) pa_nil))) (pe_one (pe_not (pe_callB call_isi (by rfl) T.z_isinstance (by decide +kernel) (pa_cons (pv 0) (pa_cons (pe_bltn (v := .ty "bool") (by rfl) T.z_bool (by decide +kernel) rfl) pa_nil)))))))), ?_⟩
    walk_at "sm"
    refine is_int hx fun b c hc e => ⟨_, rfl, ?_⟩
    cases b with
    | false => exact iteF (by rw [← e] at k; exact k)
    | true => exact iteT (isi_mono hc ⟨_, rfl, by rw [← e] at k; exact k⟩)
theorem ok_law_whole (T : Txt K mg a) : FnOk P w K mg base CX0 1 a.f_law_whole a.d_law_whole ["_law_thing"] spWh := by
  refine T.F_law_whole.ok sc_law_whole (fun vs H Q E h => ?_) (fun cdv A outer s H vs Q E hr h => ?_)
  · obtain ⟨_, rfl, _⟩ := h
    rfl
  · obtain ⟨x, rfl, hx, k⟩ := h
    refine ⟨_, (pss_one (ps_ret (pe_and (pe_callB call_isi (by rfl) T.z_isinstance (by decide +kernel) (pa_cons (pv 0) (pa_cons (pe_bltn (v := .ty "int") (by rfl) T.z_int (by decide +kernel) rfl) pa_nil))) (pe_one (pe_not (pe_callB call_isi (by rfl) T.z_isinstance (by decide +kernel) (pa_cons (pv 0) (pa_cons (pe_bltn (v := .ty "bool") (by rfl) T.z_bool (by decide +kernel) rfl) pa_nil)))))))), ?_⟩
    walk_at "sm"
    refine is_int hx fun b c hc e => ⟨_, rfl, ?_⟩
    cases b with
    | false => exact iteF (by rw [← e] at k; exact k)
    | true => exact iteT (isi_mono hc ⟨_, rfl, by rw [← e] at k; exact k⟩)
def spWithin : Sp := fun vs H Q _ => ∃ (x : V) (lo hi : Int), vs = [x, .int lo, .int hi] ∧ PlainV H x ∧ Q (.bl (wiB x lo hi)) H
theorem ok_is_within (T : Txt K mg a) : FnOk P w K mg base CX0 2 a.f_is_within a.d_is_within ["thing", "least", "most"] spWithin := by
  refine T.F_is_within.ok sc_is_within (fun vs H Q E h => ?_) (fun cdv A outer s H vs Q E hr h => ?_)
  · obtain ⟨_, _, _, rfl, _⟩ := h
    rfl
  · obtain ⟨x, lo, hi, rfl, hx, k⟩ := h
    refine ⟨_, (pss_one (ps_ret (pe_and (pe_call (ok_is_whole T) (hr.mono (by decide)) rfl T.m_is_whole T.F_is_whole.kp T.b_is_whole .nil pass0 (pa_cons (pv 0) pa_nil)) (pe_one (pe_chain op_le op_le (pv 1) (pv 0) (pv 2)))))), ?_⟩
    walk_at "sm"
    refine ⟨x, rfl, hx, _, rfl, ?_⟩
    rcases hx with rfl | ⟨b, rfl⟩ | ⟨i, rfl⟩ | ⟨s, rfl⟩ | ⟨p, xs, rfl, e⟩ | ⟨p, xs, rfl, e⟩
    · exact iteF k
    · exact iteF k
    · refine iteT ?_
      walk_at "sm"
      refine ite2 (fun h => ?_) (fun h => ?_)
      · have e : wiB (.int i) lo hi = decide (i ≤ hi) := by show (decide _ && decide _) = _; rw [decide_eq_true h]; rfl
        rw [e] at k; exact k
      · have e : wiB (.int i) lo hi = false := by show (decide _ && decide _) = _; rw [decide_eq_false h]; rfl
        rw [e] at k; exact k
    · exact iteF k
    · exact iteF k
    · exact iteF k
def spSeq : Sp := fun vs H Q _ => ∃ x, vs = [x] ∧ PlainV H x ∧ ∀ H', Evl.Ex H H' → Q (.bl (sqV x)) H'
theorem ok_is_sequence (T : Txt K mg a) : FnOk P w K mg base CX0 1 a.f_is_sequence a.d_is_sequence ["thing"] spSeq := by
  refine T.F_is_sequence.ok sc_is_sequence (fun vs H Q E h => ?_) (fun cdv A outer s H vs Q E hr h => ?_)
  · obtain ⟨_, rfl, _⟩ := h
    rfl
  · obtain ⟨x, rfl, hx, k⟩ := h
    refine ⟨_, (pss_one (ps_ret (pe_callB call_isiT (by rfl) T.z_isinstance (by decide +kernel) (pa_cons (pv 0) (pa_cons (pe_tup (pa_cons (pe_bltn (v := .ty "list") (by rfl) T.z_list (by decide +kernel) rfl) (pa_cons (pe_bltn (v := .ty "tuple") (by rfl) T.z_tuple (by decide +kernel) rfl) pa_nil))) pa_nil))))), ?_⟩
    walk_at "sm"
    refine ⟨sz (by decide), fun tp htp => is_seq (hx.go (Evl.Ex.new htp)) upd_same (k _ (Evl.Ex.new htp))⟩
def spNum : Sp := fun vs H Q _ => ∃ x, vs = [x] ∧ PlainV H x ∧ Q (.bl (wiB x 0 4095)) H
def spCW (C : Addr) : Sp := fun vs H Q E => ∃ x, vs = [x] ∧ PlainV H x ∧ (wiB x 1 12 = true → Q x H) ∧ (wiB x 1 12 = false → E (.ref C) none H)
def spTwo : Sp := fun vs H Q _ => ∃ n : Nat, vs = [.int n] ∧ n ≤ 62 ∧ Q (.int (2 ^ n)) H
def ivTwo (n : Nat) (H : Hp) : Nat → L2.St → Hp → Prop := fun i σ H' => ∃ v, σ = [some (.int n), some (.int (2 ^ i)), v] ∧ H' = H
theorem ok_law_two (T : Txt K mg a) : FnOk P w K mg base CX0 1 a.f_law_two a.d_law_two ["_law_n"] spTwo := by
  refine T.F_law_two.ok sc_law_two (fun vs H Q E h => ?_) (fun cdv A outer s H vs Q E hr h => ?_)
  · obtain ⟨_, rfl, _⟩ := h
    rfl
  · obtain ⟨n, rfl, hn, k⟩ := h
    refine ⟨_, (pss_cons (ps_set (i := 1) sc_law_two.nd rfl (by first | exact Or.inl rfl | exact Or.inr rfl) pe_int)
  (pss_cons (ps_for PassesOwn.never rfl (pi_range1 (by rfl) T.z_range (pa_cons (pv 0) pa_nil)) (pg_name (i := 2) sc_law_two.nd rfl (by first | exact Or.inl rfl | exact Or.inr rfl)) (pss_one (ps_set (i := 1) sc_law_two.nd rfl (by first | exact Or.inl rfl | exact Or.inr rfl) (pe_op op_mul (pv 1) pe_int))))
  (pss_one (ps_ret (pv 1))))), ?_⟩
    walk_at "sm"
    refine ⟨_, rfl, (n : Int), rfl, by omega, by omega, ?_⟩
    refine for_range (lo := 0) (n := (n : Int).toNat) (ivTwo n H) ⟨none, rfl, rfl⟩ ?_ ?_
    · rintro i σ H' hi ⟨v, rfl, rfl⟩
      walk_at "sm"
      have p1 : (2 : Int) ^ i ≤ 2 ^ 62 := by
        have := Nat.pow_le_pow_right (show 0 < 2 by decide) (show i ≤ 62 by omega)
        exact_mod_cast this
      have p0 : (0 : Int) ≤ 2 ^ i := Int.le_of_lt (Int.pow_pos (by decide))
      refine ⟨.inl ⟨by omega, by omega⟩, some (.int (0 + (i : Int))), ?_, rfl⟩
      rw [Int.pow_succ]
    · rintro σ H' ⟨v, rfl, rfl⟩
      walk_at "sm"
      exact k
end

local macro_rules | `(tactic| walk_at "sm") => `(tactic| try simp only [sFld, tFld, tMake, tMakeS, tSeq, tAsg, tRet, tRetN, tDrop, tOp, tUn, tVar, tC, tCB, tCons, tNil, tLst, tTup, tTest, tB, tAnd, tOr, tNot, tAndV, tOrV, tNotV, tIf, tIfS, tNext, tCont, tBreak, tCall, tCallS, WE, tXf, rI0, rI, rU, gName, gNil, gCons, gTup, gSub, tAug, tBM, tBM0, tM1, rNewStrs, tLc_eq, iRng1, iRng2, iList, iTup, tYes, wipe, List.foldl_cons, List.foldl_nil, rEq, rNe, scal, rIxS, rSlS, tSl, tPart, tNoPart, tChain, ipI, str1, tMkO_eq, L2.start, List.map_cons, List.map_nil, List.append_nil, List.cons_append, List.nil_append, List.length_cons, List.length_nil, List.drop, List.replicate, List.getElem?_cons_zero, List.getElem?_cons_succ, List.set_cons_zero, List.set_cons_succ, Option.some.injEq, V.int.injEq, V.str.injEq, V.ref.injEq, V.bl.injEq, List.cons.injEq, reduceCtorEq, false_and, and_false, exists_false, or_false, false_or, exists_eq_left', exists_eq_left, and_assoc, cx_K, exists_and_left, exists_and_right, and_true, true_and, decide_eq_true_eq, if_true, if_false, Bool.false_eq_true])

/-! ### common to the laws of bare webs -/
theorem lcg_tup {K : PySem.W.Frag} {a : Addr} {xs : List V} {g : TG} {tt : TT} {te : TE} {vs : List Nat} {σ : L2.St} {H1 : Hp} {Q : VK} (Pv : Addr → Nat → Hp → Prop) (h0 : ∀ D, H1 D = none → Pv D 0 (upd H1 D (.lst []))) (hl : ∀ D i H, H1 D = none → i ≤ xs.length → Pv D i H → SqT K H a xs)
    (hs : ∀ D i x H, H1 D = none → xs[i]? = some x → Pv D i H → g x (wipe σ vs) H fun σ2 H2 => wipe σ2 vs = wipe σ vs ∧ tt σ2 H2 fun b H3 =>
      if b = true then te σ2 H3 fun y H4 => ∃ acc, H4 D = some (.lst acc) ∧ acc.length < sizeLine ∧ Pv D (i + 1) (upd H4 D (.lst (acc ++ [y]))) else Pv D (i + 1) H3) (hd : ∀ D H, H1 D = none → Pv D xs.length H → Q (.ref D) H) : LcG (Itt K a) g tt te vs σ Q H1 :=
  fun D hD => lc_tup (Qd := fun H => Q (.ref D) H) (Pv D) (h0 D hD) (fun i H hi h => hl D i H hD hi h) (fun i x H hi h => hs D i x H hD hi h) fun H h => hd D H hD h
def SqAt (H : Hp) (p : Addr) (xs : List V) : Prop := H p = some (.tup xs) ∨ H p = some (.lst xs)
theorem SqAt.go {H H' : Hp} {p : Addr} {xs : List V} (e : Evl.Ex H H') (h : SqAt H p xs) : SqAt H' p xs := h.imp (e _ _) (e _ _)
theorem SqAt.plain {H : Hp} {p : Addr} {xs : List V} (h : SqAt H p xs) : PlainV H (.ref p) := h.elim (fun q => .inr (.inr (.inr (.inr (.inl ⟨p, xs, rfl, q⟩))))) fun q => .inr (.inr (.inr (.inr (.inr ⟨p, xs, rfl, q⟩))))
theorem SqAt.sq {K : PySem.W.Frag} {H : Hp} {p : Addr} {xs : List V} (h : SqAt H p xs) : SqL K H p xs ∨ SqT K H p xs := h.elim (fun q => .inr (SqT.of q)) fun q => .inl (SqL.of q)
theorem iteT' {c : Bool} {A B : Prop} (h : c = true) (a : A) : if c = true then A else B := by rw [if_pos h]; exact a
theorem iteF' {c : Bool} {A B : Prop} (h : c = false) (b : B) : if c = true then A else B := by rw [h]; exact b
theorem paired_at {α β : Type} {F : α → β → Prop} : ∀ {l : List α} {m : List β} {i : Nat} {x : α}, Paired F l m → l[i]? = some x → ∃ y, m[i]? = some y ∧ F x y
  | _, _, _, _, .nil, h => by simp at h
  | _, _, 0, _, .cons f _, h => by
    simp at h
    exact ⟨_, rfl, h ▸ f⟩
  | _, _, i + 1, _, .cons _ t, h => by
    obtain ⟨y, h1, h2⟩ := paired_at (i := i) t (by simpa using h)
    exact ⟨y, by simpa using h1, h2⟩
theorem paired_len {α β : Type} {F : α → β → Prop} : ∀ {l : List α} {m : List β}, Paired F l m → l.length = m.length
  | _, _, .nil => rfl
  | _, _, .cons _ t => by rw [List.length_cons, List.length_cons, paired_len t]
theorem range_lt (n : Nat) : (List.range n).Pairwise (· < ·) := by first | exact List.pairwise_lt_range | exact List.pairwise_lt_range _
theorem asc_uniq : ∀ {l m : List Int}, l.Pairwise (· < ·) → m.Pairwise (· < ·) → (∀ k, k ∈ l ↔ k ∈ m) → l = m
  | [], [], _, _, _ => rfl
  | [], y :: m, _, _, h => absurd ((h y).mpr List.mem_cons_self) (by simp)
  | x :: l, [], _, _, h => absurd ((h x).mp List.mem_cons_self) (by simp)
  | x :: l, y :: m, hl, hm, h => by
    obtain ⟨l1, l2⟩ := List.pairwise_cons.mp hl
    obtain ⟨m1, m2⟩ := List.pairwise_cons.mp hm
    have e : x = y := by
      rcases List.mem_cons.mp ((h x).mp List.mem_cons_self) with q | q
      · exact q
      · rcases List.mem_cons.mp ((h y).mpr List.mem_cons_self) with q2 | q2
        · exact q2.symm
        · have a1 := m1 x q
          have a2 := l1 y q2
          omega
    subst e
    rw [asc_uniq l2 m2 fun k => ?_]
    constructor
    · intro q
      rcases List.mem_cons.mp ((h k).mp (List.mem_cons_of_mem _ q)) with q2 | q2
      · have := l1 k q
        omega
      · exact q2
    · intro q
      rcases List.mem_cons.mp ((h k).mpr (List.mem_cons_of_mem _ q)) with q2 | q2
      · have := m1 k q
        omega
      · exact q2
abbrev nI (l : List Nat) : List Int := l.map fun n : Nat => (n : Int)
theorem ints_lt {l : List Nat} (h : l.Pairwise (· < ·)) : (nI l).Pairwise (· < ·) := by
  rw [List.pairwise_map]
  exact h.imp fun q => by exact_mod_cast q
theorem mem_ints {l : List Nat} {k : Int} : k ∈ nI l ↔ ∃ n : Nat, n ∈ l ∧ k = n := by
  rw [List.mem_map]
  exact ⟨fun ⟨n, h1, h2⟩ => ⟨n, h1, h2.symm⟩, fun ⟨n, h1, h2⟩ => ⟨n, h1, h2.symm⟩⟩
def Kp (H H' : Hp) : Prop := (∀ b xs, H b = some (.tup xs) → H' b = some (.tup xs)) ∧ ∀ b xs, H b = some (.lst xs) → H' b = some (.lst xs)
theorem Kp.ex {H H' : Hp} (e : Evl.Ex H H') : Kp H H' := ⟨fun _ _ h => e _ _ h, fun _ _ h => e _ _ h⟩
theorem Kp.fr {H H' : Hp} {x C dx : Addr} {fs : List (Str × V)} (hx : H x = some (.ins C dx fs)) (f : Fr x H H') : Kp H H' :=
  ⟨fun b xs h => f b _ (fun q => by rw [q, hx] at h; cases h) h, fun b xs h => f b _ (fun q => by rw [q, hx] at h; cases h) h⟩
theorem Kp.trans {H H1 H2 : Hp} (a : Kp H H1) (b : Kp H1 H2) : Kp H H2 := ⟨fun _ _ h => b.1 _ _ (a.1 _ _ h), fun _ _ h => b.2 _ _ (a.2 _ _ h)⟩
theorem PlainV.kp {H H' : Hp} {x : V} (e : Kp H H') (h : PlainV H x) : PlainV H' x := by
  rcases h with h | h | h | h | ⟨p, xs, h, q⟩ | ⟨p, xs, h, q⟩
  · exact .inl h
  · exact .inr (.inl h)
  · exact .inr (.inr (.inl h))
  · exact .inr (.inr (.inr (.inl h)))
  · exact .inr (.inr (.inr (.inr (.inl ⟨p, xs, h, e.1 _ _ q⟩))))
  · exact .inr (.inr (.inr (.inr (.inr ⟨p, xs, h, e.2 _ _ q⟩))))
theorem SqAt.kp {H H' : Hp} {p : Addr} {xs : List V} (e : Kp H H') (h : SqAt H p xs) : SqAt H' p xs := h.imp (e.1 _ _) (e.2 _ _)
theorem iteN {c A B : Prop} [Decidable c] (h : ¬ c) (b : B) : if c then A else B := by rw [if_neg h]; exact b
theorem iteP {c A B : Prop} [Decidable c] (h : c) (a : A) : if c then A else B := by rw [if_pos h]; exact a
theorem ix0 {K : PySem.W.Frag} {H : Hp} {p : Addr} {x : V} {r : List V} {Q : VK} (h : H p = some (.tup (x :: r))) (q : Q x H) : rIxT K (.ref p) (.int 0) H Q := ixt h (atI_nat (j := 0) rfl) q
theorem ix1 {K : PySem.W.Frag} {H : Hp} {p : Addr} {x y : V} {r : List V} {Q : VK} (h : H p = some (.tup (x :: y :: r))) (q : Q y H) : rIxT K (.ref p) (.int 1) H Q := ixt h (atI_nat (j := 1) rfl) q

local macro_rules | `(tactic| walk_at "sm") => `(tactic| try simp only [tSeq, tAsg, tRet, tRetN, tDrop, tOp, tUn, tVar, tC, tCB, tCons, tNil, tLst, tTup, tTest, tB, tAnd, tOr, tNot, tAndV, tOrV, tNotV, tIf, tIfS, tNext, tCont, tBreak, tCall, tCallS, WE, tXf, rI0, rI, rU, gName, gNil, gCons, gTup, gSub, tAug, tBM, tBM0, tM1, rNewStrs, tLc_eq, iRng1, iRng2, iList, iTup, tYes, wipe, List.foldl_cons, List.foldl_nil, rEq, rNe, scal, rIxS, rSlS, tSl, tPart, tNoPart, tChain, ipI, str1, tMkO_eq, L2.start, List.map_cons, List.map_nil, List.append_nil, List.cons_append, List.nil_append, List.length_cons, List.length_nil, List.drop, List.replicate, List.getElem?_cons_zero, List.getElem?_cons_succ, List.set_cons_zero, List.set_cons_succ, Option.some.injEq, V.int.injEq, V.str.injEq, V.ref.injEq, V.bl.injEq, List.cons.injEq, reduceCtorEq, false_and, and_false, exists_false, or_false, false_or, exists_eq_left', exists_eq_left, and_assoc, cx_K, exists_and_left, exists_and_right, and_true, true_and, decide_eq_true_eq, if_true, if_false, Bool.false_eq_true])

/-! ### errors with nothing in their context; an error out of an except suite; an object made in a try -/
section
variable {P : Program} {w : World} {K : PySem.W.Frag} {mg : Str → Option Value} {base : Heap}
theorem fn_okN {x qual : Str} {st : Stmt} {f : Addr} {fd : FuncData} {N ps : List Str} {k : Nat} {sp : Sp} (F : Fun K x qual st f fd) (S : FnScope N ps (defScope st)) (len : ∀ vs H Q E, sp vs H Q E → vs.length = ps.length)
    (hb : ∀ (cdv : Value) (A : Around) (outer : List Env) (s : Shared) (H : Hp) (vs : List V) (Q : VK) (E : XK), Room k (A.deeper (envOfC qual (defScope st) s.heap.objs.size f cdv)) → sp vs H Q E →
      ∃ t, PSs (cxOf (L2N.CX P w) P w K mg base N qual (defScope st) f cdv A outer s H E) (defBody st) t ∧ t { nx := fun _ H' => Q .non H', rt := Q } (start N vs) H) : FnOk P w K mg base (L2N.CX P w) (k + 1) f fd ps sp := by
  obtain ⟨_, _, _, _, _, _, cdv, _, _, rfl, look, cd⟩ := F.ex
  exact fn_of look cd S len fun A outer s H vs Q E room asks => hb cdv A outer s H vs Q E room asks
end
section
variable {X : Cx} {C : Addr} {bmB : List Value} {B newId initId : String} {x : Str} {p pos : Pos}
theorem pmkN_own0 (F : ExcBaseFacts B newId initId bmB) (q : PySem.W.excIn X.K C bmB newId = true) (gC : X.mg x = some (.ref C)) (kC : PySem.W.keepIn X.K (.ref C) = true) (r : Raises X (.ref C)) (hg : Gl X x)
    (hdb : (x == ("__debug__" : Str)) = false := by decide) : L2N.PMk X (.Call (.Name x p) [] [] pos) (fun _ H Q => Q (.ref C) none H) := by
  intro pins s σ H Q I h
  refine wpAny_Call_Name_kw (ld_glob I hg gC ?_ hdb)
  refine PySem.W.callWith_K0 I.kIn kC ?_
  show wpAny _ _ (call (.ref C) []) _ _ _
  obtain ⟨_, _, _, _, _, _, _, _, _, _, _, _, _, _, _, _, _, hC, hN, hni, T⟩ := exc_obj I.kIn q
  refine wpAny_call_exc_subT F T hC hN hni (fun h' e hm => ?_) (Nat.zero_le _)
  exact L2N.mk_of I hm r h (I.hok.gone hm.new)
theorem pmk5_own0 (F : ExcBaseFacts B newId initId bmB) (q : PySem.W.excIn X.K C bmB newId = true) (gC : X.mg x = some (.ref C)) (kC : PySem.W.keepIn X.K (.ref C) = true) (r : Raises X (.ref C)) (hg : Gl X x)
    (hdb : (x == ("__debug__" : Str)) = false := by decide) : L2H.PMk5 X (.Call (.Name x p) [] [] pos) (fun _ H Q => Q (.ref C) none H) := by
  intro pins s σ H Q I h
  refine wpAny_Call_Name_kw (ld_glob I hg gC ?_ hdb)
  refine PySem.W.callWith_K0 I.kIn kC ?_
  show wpAny _ _ (call (.ref C) []) _ _ _
  obtain ⟨_, _, _, _, _, _, _, _, _, _, _, _, _, _, _, _, _, hC, hN, hni, T⟩ := exc_obj I.kIn q
  refine wpAny_call_exc_subT F T hC hN hni (fun h' e hm => ?_) (Nat.zero_le _)
  exact L2H.mk_of5 I hm r h (I.hok.gone hm.new)
end
/-- an object made where what is let out may tell of the names -/
def tMakeS (C : Addr) (sp : Sp) (E : L2.St → XK) (t : TA) : TE := fun σ H Q => t σ H fun vs H1 => ∀ x dx, H1 x = none → H1 dx = none → dx ≠ x → sp (.ref x :: vs) (upd (upd H1 dx (.own x)) x (.ins C dx [])) (fun v H2 => v = .non ∧ Q (.ref x) H2) (E σ)
theorem pe_makeS {X : Cx} {CX : CXT} {k : Nat} {f C : Addr} {fd : FuncData} {ps : List Str} {sp : Sp} {E : L2.St → XK} {x : Str} {e : Expr} {es : List Expr} {t : TA} {p pos : Pos} (M : Mk X.K C f) (F : FnOk X.prog X.w X.K X.mg X.base CX k f fd ps sp)
    (hr : Room (k + 1) X.A) (hg : Gl X x) (hm : X.mg x = some (.ref C)) (hb : Binds X.K fd ps []) (hx : ∀ σ, PassesAt CX X σ (E σ)) (ha : PA X (e :: es) t) (hdb : (x == ("__debug__" : Str)) = false := by decide)
    (he : starEach (e :: es) X.env = (false, eval e X.env) :: starEach es X.env := by rfl) (hpl : (backTo pos (starEach es X.env)).any (·.1) = false := by rfl) : PE X (.Call (.Name x p) (e :: es) [] pos) (tMakeS C sp E t) := by
  refine ⟨fun pins s σ H Q I h => wpAny_Call_Name_kw (ld_glob I hg hm ?_ hdb)⟩
  refine PySem.W.callWith_K (h₀ := X.base) I.ok.mod.kin M.kp (thn (ha.run pos pins s σ H _ I h) fun us s1 ⟨vs, H1, I1, rv, q⟩ => ⟨I1.kIn, ?_⟩) he hpl
  have asks := q (s1.heap.objs.size + 1) s1.heap.objs.size (I1.hok.fresh (Nat.le_succ _)) (I1.hok.fresh (Nat.le_refl _)) (Nat.ne_of_lt (Nat.lt_succ_self _))
  have I2 := Inv.made (C := C) I1
  have rs : Vals (V.ref (s1.heap.objs.size + 1) :: vs) (Value.ref (s1.heap.objs.size + 1) :: us) := .cons rfl rv
  have hl : (Value.ref (s1.heap.objs.size + 1) :: us ++ []).length = ps.length := by
    rw [List.append_nil, ← rs.length]
    exact F.len _ _ _ _ asks
  have bd := hb _ (Value.ref (s1.heap.objs.size + 1) :: us) I2.kIn hl
  rw [List.append_nil] at bd
  refine wpAny_call (make_map (f := f) I1.kIn M.makes M.init (beq_iff_eq.mp M.fn) (codeAny_mono (F.run _ X.stack _ _ ⟨Value.ref (s1.heap.objs.size + 1) :: us, []⟩ (Value.ref (s1.heap.objs.size + 1) :: us) _ _ (E σ) (hr.make C us [])
    (I2.env0.make C us []) bd rs asks) fun r s' out => ?_))
  cases r with
  | error ex => exact hx σ pins _ _ ex s' I2 out
  | ok fl =>
    cases fl with
    | ret u =>
      obtain ⟨v, H', I3, rv2, ev, q3⟩ := I2.after out
      subst ev
      exact ⟨rv2, ⟨V.ref (s1.heap.objs.size + 1), H', I3, rfl, q3⟩⟩
    | next => exact False.elim out
    | brk => exact False.elim out
    | cont => exact False.elim out
theorem only_true {K : PySem.W.Frag} {C : Addr} {ts : Addr → Value → Option Addr → TS} {Wout : WX} {D : Ends} {d : Option Addr} {σ : L2.St} {H : Hp} (he : PySem.W.exmOne K (.ref C) (.ref C) = some true)
    (h : ∀ a, H a = none → ts a (.ref C) d D σ H) : L2.wOnly K (.ref C) ts Wout D (.ref C) d σ H := ⟨true, he, fun _ => h, fun q => nomatch q⟩


/-! ### enumerate(t), t a tuple -/
set_option maxHeartbeats 4000000 in
theorem newEnum1 {v : Value} {o : Obj} {J : Heap → Prop} (B : Begins v o J) :
    Meets (Builtin.«enumerate.__new__» ⟨[.type "enumerate", v], []⟩) (fun _ R s => J s.heap ∧
      R (.ok (.ret (.ref (s.heap.push o).objs.size))) { s with heap := (s.heap.push o).push { cls := .type "enumerate", data := .fields #[.none, .bool false, .ref s.heap.objs.size, rawInt 0, .none, .none] } }) :=
  .of_wp fun prog w A R s h => by
    obtain ⟨hp, g, d, tk, os⟩ := s
    obtain ⟨h1, h⟩ := h
    have hsub := sub_enumerate
    have go : ∀ {A1 : Around} {E1 : Value → Shared → Prop} {Q1 : Value → Shared → Prop}, Q1 (.ref hp.objs.size) ⟨hp.push o, g, d, tk, os⟩ → wpAny (model prog w) A1 (pyIter v) Q1 E1 ⟨hp, g, d, tk, os⟩ := fun q => B.iter prog w _ _ ⟨hp, g, d, tk, os⟩ _ h1 q
    wp_walk using go
    refine wpAny_stack_any fun st => wpAny_pure ?_
    split
    · rename_i c _ _ _ _ _
      cases (c == Value.type "enumerate") <;> (wp_walk using go; exact ⟨_, rfl, h⟩)
    · wp_walk using go
      exact ⟨_, rfl, h⟩
theorem callEnum1 {prog : Program} {w : World} {A : Around} {E : Value → Shared → Prop} {s : Shared} {v : Value} {o : Obj} {J : Heap → Prop} {Q : Value → Shared → Prop} (B : Begins v o J) (h1 : J s.heap)
    (h : ∀ h2, IsEnum h2 (s.heap.objs.size + 1) s.heap.objs.size 0 .none → h2.get? s.heap.objs.size = some o → (∀ b u, s.heap.get? b = some u → h2.get? b = some u) → Q (.ref (s.heap.objs.size + 1)) { s with heap := h2 }) :
    wpAny (model prog w) A (call (.type "enumerate") [v]) Q E s := by
  refine callType_new F.called_enumerate (by decide) (F.typeCall_enumerate_1 _) (F.newCall_enumerate_1 _) (fun obj => F.args_object_init_2 obj _) F.entry_enumerate_new (newEnum1 B) ⟨h1, ?_⟩
  have hz : (s.heap.push o).objs.size = s.heap.objs.size + 1 := Heap.size_push ..
  have he := Heap.get?_push_size (s.heap.push o) (o := { cls := .type "enumerate", data := .fields #[.none, .bool false, .ref s.heap.objs.size, rawInt 0, .none, .none] }) rfl
  show _ ∧ _
  rw [hz] at he ⊢
  exact ⟨⟨_, he, rfl⟩, h _ he (Heap.get?_push_of_some _ (Heap.get?_push_size _ B.free)) fun b u x => Heap.get?_push_of_some _ (Heap.get?_push_of_some _ x)⟩
def ItT (K : PySem.W.Frag) (a : Addr) : It where
  go i H := ∃ (xs : List V) (x : V), SqT K H a xs ∧ xs[i]? = some x
  yld i H v H' := ∃ T x, v = .ref T ∧ H T = none ∧ H' = upd H T (.tup [.int (i : Nat), x]) ∧ ∀ xs, SqT K H a xs → xs[i]? = some x
  stop i H := ∃ xs : List V, SqT K H a xs ∧ xs.length = i
theorem tup_ne {h : Heap} {a it : Addr} {i : Nat} {its : Array Value} (p : IsTup h a its) (q : h.IsTupleIter it a i) : a ≠ it := fun z => by
  subst z
  obtain ⟨o, e1, c1, _⟩ := p
  obtain ⟨o2, e2, c2, _⟩ := q
  rw [e1] at e2
  cases e2
  rw [c1] at c2
  injection c2 with c3
  exact absurd c3 (by decide)
theorem turn_enumT {P : Program} {w : World} {K : PySem.W.Frag} {elts : List Expr} {kk : Nat} {tpos : Pos} (a e it : Addr) :
    Turn P w K (.Tuple elts kk tpos) (ItT K a) [e, it] e (fun i h => (∃ old, IsEnum h e it ((i : Nat) : Int) old) ∧ h.IsTupleIter it a i ∧ e ≠ it) where
  mem := List.mem_cons_self
  obj := fun i h z b hb => by
    obtain ⟨⟨old, he⟩, ⟨o, ho, hc, hd⟩, _⟩ := z
    rcases List.mem_cons.mp hb with rfl | hb
    · exact ⟨_, he, fun v q => by cases q⟩
    · rw [List.mem_singleton.mp hb]; exact ⟨o, ho, fun v q => by rw [hd] at q; cases q⟩
  keep := fun i h h2 z k => by
    obtain ⟨⟨old, he⟩, hi, hne⟩ := z
    exact ⟨⟨old, k e (by simp) _ he⟩, hi.at fun o q => k it (by simp) o q, hne⟩
  item := by
    rintro X rfl rfl rfl hc i pins s σ H E I hf z ⟨xs, x, hq, hx⟩
    obtain ⟨⟨old, he⟩, hit, hne⟩ := z
    obtain ⟨its, rv, p, hz⟩ := I.tuple hq
    obtain ⟨u, hu, ru⟩ := rv.get hx
    have hil : i < its.toArray.size := by rw [List.size_toArray]; exact (List.getElem?_eq_some_iff.mp hu).1
    have hai := tup_ne p hit
    have D := Draws.tuple (prog := X.prog) (w := X.w) (A := X.A.in1) (I.ok.hd hc) it a hai its.toArray
    have hea : e ≠ a := fun q => by
      obtain ⟨o, e1, c1, _⟩ := p
      rw [← q, show s.heap.get? e = _ from he] at e1
      cases e1
      injection c1 with c3
      exact absurd c3 (by decide)
    refine wpAny_pyNext_enum_itemC D he ⟨hit, p⟩ hil hne (by simp [hne, hea]) fun y h2 tk hP ho hst hT hsz hk => ?_
    have ey : y = u := by
      have hP2 : its.toArray[i]? = some y := hP
      rw [List.getElem?_toArray, hu] at hP2
      exact (Option.some.inj hP2).symm
    subst ey
    have hel : e < s.heap.objs.size := Heap.lt_size he
    have hil2 : it < s.heap.objs.size := by obtain ⟨_, q, _⟩ := hit; exact Heap.lt_size q
    refine ⟨_, rfl, wpAny_letOwnedTupleGo_enum (s := { s with heap := h2, toks := tk + 1 }) ho fun h3 he3 sb => ?_⟩
    have hT2 := (sb.2 _ (Nat.ne_of_gt hel)).trans hT
    have nw : ObjOk X.prog X.w (upd H s.heap.objs.size (.tup [.int (i : Nat), x])) h3 s.heap.objs.size (.tup [.int (i : Nat), x]) := ⟨by show 2 ≤ sizeLine; decide, [.int i tk, y], .cons ⟨_, rfl⟩ (.cons ru .nil), ⟨_, hT2, rfl, _, rfl⟩⟩
    have I1 : Inv X pins σ (upd H s.heap.objs.size (.tup [.int (i : Nat), x])) { s with heap := h3, toks := tk + 1 } :=
      I.turnedNew (ch := [e, it]) (fun b ob hb q => (sb.2 b fun z => hb (by simp [z])).trans (hk b ob (fun z => hb (by simp [z])) (fun z => hb (by simp [z])) q)) hf (Nat.le_refl _) nw
    refine ⟨.ref s.heap.objs.size, _, I1, rfl, ⟨_, x, rfl, I.hok.fresh (Nat.le_refl _), rfl, fun ys hy => by rw [I.tuple_inj hy hq]; exact hx⟩, ⟨⟨y, ?_⟩, hst.1.at fun o q => (sb.2 it (Ne.symm hne)).trans q, hne⟩, fun b hb => ?_⟩
    · rw [show ((i + 1 : Nat) : Int) = (i : Int) + 1 by omega]
      exact he3
    · have hb2 : b < s.heap.objs.size := by
        rcases List.mem_cons.mp hb with rfl | hb1
        · exact hel
        · rw [List.mem_singleton.mp hb1]; exact hil2
      rw [upd_ne (Nat.ne_of_lt hb2)]
      exact (hf b hb).1
  done := by
    rintro X rfl rfl rfl hc i pins s σ H E I hf z ⟨xs, hq, hx⟩
    obtain ⟨⟨old, he⟩, hit, hne⟩ := z
    obtain ⟨its, rv, p, hz⟩ := I.tuple hq
    obtain ⟨f0, f1, f2, f3, f4, f5⟩ := hf it (by simp)
    have hl := rv.length
    have hn : its.toArray.size = i := by rw [List.size_toArray, ← hl]; exact hx
    have D := Draws.tuple (prog := X.prog) (w := X.w) (A := X.A.in1) (I.ok.hd hc) it a (tup_ne p hit) its.toArray
    exact wpAny_pyNext_enum_endD D he (by rw [hn]; exact ⟨hit, p⟩) fun h2 kx => ⟨rfl, I.turned (t' := s.toks) (fun b o hb q => kx b o hb q) f0 f1 f3 f4 f5⟩
  self := fun A i s Q E z h => wpAny_pyIter_enum z.1.choose_spec h
def iEnumT (K : PySem.W.Frag) (ta : TA) : TI := fun σ H R => ta σ H fun vs H1 => ∃ a xs, vs = [.ref a] ∧ SqT K H1 a xs ∧ R (ItT K a) H1
theorem pi_enumT {X : Cx} {e : Expr} {ta : TA} {p pos tpos : Pos} {elts : List Expr} {kk : Nat} (hg : Gl X "enumerate") (hm : X.mg "enumerate" = none) (ha : PA X [e] ta) (hs : starEach [e] X.env = [(false, eval e X.env)] := by rfl) :
    PI X (.Tuple elts kk tpos) (.Call (.Name "enumerate" p) [e] [] pos) (iEnumT X.K ta) := by
  refine ⟨fun pins s σ H R I h => Call_ (ld_blt I hg hm boot_enumerate (PyProof.Rows.callWith_type1 (thn (ha.run pos pins s σ H _ I h) fun us s1 ⟨vs, H1, I1, r1, a, xs, ex, hq, q⟩ => ?_) hs rfl))⟩
  subst ex
  cases r1 with
  | cons r rr =>
    cases rr
    cases r
    obtain ⟨its, rv, p2, hz⟩ := I1.tuple hq
    refine callEnum1 (begins_tuple a its.toArray) p2 fun h2 he hit hk => wpAny_pyIter_enum he ?_
    have I2 : Inv X pins σ H1 { s1 with heap := h2 } := I1.kept (t' := s1.toks) hk
    refine ⟨s1.heap.objs.size + 1, [s1.heap.objs.size + 1, s1.heap.objs.size], _, _, H1, rfl, I2, turn_enumT a (s1.heap.objs.size + 1) s1.heap.objs.size, ⟨⟨.none, he⟩, ⟨_, hit, rfl, rfl⟩, Nat.succ_ne_self _⟩, fun b hb => ?_, q⟩
    have hle : s1.heap.objs.size ≤ b := by
      rcases List.mem_cons.mp hb with rfl | hb1
      · exact Nat.le_add_right _ _
      · rw [List.mem_singleton.mp hb1]; exact Nat.le_refl _
    exact I1.fpOk hle (I1.hok.fresh hle)
theorem for_en {J : It} {n : Nat} {g : TG} {tb : TS} {D : Ends} {σ : L2.St} {H : Hp} (Pv : Nat → L2.St → Hp → Prop) (h0 : Pv 0 σ H) (hgo : ∀ i σ H, i < n → Pv i σ H → J.go i H) (hstop : ∀ σ H, Pv n σ H → J.stop n H)
    (hs : ∀ i σ H x H1, i < n → Pv i σ H → J.yld i H x H1 → g x σ H1 fun σ2 H2 => tb { D with nx := Pv (i + 1), ct := Pv (i + 1), bk := D.nx } σ2 H2) (hd : ∀ σ H, Pv n σ H → D.nx σ H) :
    ∃ W : Nat → Nat → L2.St → Hp → Prop, (∃ m, W 0 m σ H) ∧ ∀ i m σ H, W i m σ H →
      (J.stop i H ∧ D.nx σ H) ∨ (J.go i H ∧ ∃ N : L2.St → Hp → Prop, (∀ σ1 H1, N σ1 H1 → ∃ m1, m1 < m ∧ W (i + 1) m1 σ1 H1) ∧ ∀ x H1, J.yld i H x H1 → g x σ H1 fun σ2 H2 => tb { D with nx := N, ct := N, bk := D.nx } σ2 H2) := by
  refine ⟨fun i m σ H => m = n - i ∧ i ≤ n ∧ Pv i σ H, ⟨n, rfl, Nat.zero_le _, h0⟩, ?_⟩
  rintro i m σ H ⟨rfl, hi, pv⟩
  rcases Nat.lt_or_eq_of_le hi with hl | rfl
  · exact .inr ⟨hgo i σ H hl pv, Pv (i + 1), fun σ1 H1 q => ⟨n - (i + 1), by omega, rfl, hl, q⟩, fun x H1 y => hs i σ H x H1 hl pv y⟩
  · exact .inl ⟨hstop σ H pv, hd σ H pv⟩


/-! ### set(a list or tuple of ints), len of it, sorted of it -/
abbrev noInts (w : World) : Obj := { cls := .type "set", dict := none, data := .set #[] 0 (.fresh 0 0 (!w.params.followText "set-order")) }
section
variable {s : Shared} {A : Around} {E : Value → Shared → Prop} {P : Program} {w : World}
set_option maxRecDepth 100000 in
set_option maxHeartbeats 3200000 in
theorem call_setI {q : Addr} {items : Array Value} (ns : List Int) {Q : Value → Shared → Prop} (hh : A.handled = none) (hq : s.heap.IsList q items) (hv : IntsAre items.toList ns) (hb : ns.length + 1 < scanBound)
    (fin : ∀ (h' : Heap) (tk : Nat), (∃ c, c ≤ ns.length ∧ SetR w h' s.heap.objs.size (fun j => decide (j ∈ ns)) c) → (∀ b o, s.heap.get? b = some o → h'.get? b = some o) → Q (.ref s.heap.objs.size) { s with heap := h', toks := tk }) :
    wpAny (model P w) A (call (.type "set") [.ref q]) Q E s := by
  have len : items.size = ns.length := by
    have q := IntsAre.length hv
    rw [Array.length_toList] at q
    exact q
  obtain ⟨c, tl, mro⟩ := F.called_set.mro
  have k1 := F.called_set.made
  have k2 := F.called_set.sub
  have k3 := F.called_set.notType
  have k4 := F.called_set.canCreate
  have k5 := F.typeCall_set_1 (.ref q)
  refine wpAny_call (codeAny_of_tree ?_)
  show wpAny _ _ (callAny (.type "set") _) _ _ _
  refine wpAny_pure ⟨Code.quiet_builtin _ (by decide +kernel), ?_⟩
  refine codeAny_builtin F.entry_type_call ?_
  rw [Around.under_plain (weight_type_call_type "set" [.ref q] []) rfl]
  repeat (any_goals (first | assumption | wp_step))
  refine codeAny_mono (code_set_led1 (.ref q) (E := E) (Q₁ := fun obj s1 => obj = .ref s.heap.objs.size ∧ s1 = { s with heap := s.heap.push (noInts w) }) ⟨rfl, rfl⟩) fun r s1 hr => ?_
  cases r with
  | error e => exact hr
  | ok fl =>
    cases fl with
    | ret obj =>
      obtain ⟨rfl, rfl⟩ := hr
      have n1 : (s.heap.push (noInts w)).get? s.heap.objs.size = some (noInts w) := Heap.get?_push_size _ rfl
      have n2 : Shared.TypeIs { s with heap := s.heap.push (noInts w) } (.ref s.heap.objs.size) "set" := ⟨_, n1, rfl⟩
      have n3 := F.called_set.init.lookup
      have n4 := F.called_set.init.bind (.ref s.heap.objs.size)
      repeat (any_goals (first | assumption | wp_step))
      refine codeAny_mono (codeAny_call_builtin (R := wants (fun r s2 => r = .none ∧ ∃ h' tk, s2 = { s with heap := h', toks := tk } ∧ (∃ c, c ≤ ns.length ∧ SetR w h' s.heap.objs.size (fun j => decide (j ∈ ns)) c) ∧ (∀ b o, s.heap.get? b = some o → h'.get? b = some o)) E)
        F.called_set.init.plain F.entry_set_init (check_set_init_1 n2 ?_)) fun r2 s2 hr2 => ?_
      · obtain ⟨o, ho, oc, n, od⟩ := hq
        obtain ⟨ocl, odi, oda, osl⟩ := o
        simp only at oc od
        subst oc; subst od
        have ho2 : (s.heap.push (noInts w)).get? q = some { cls := .type "list", dict := odi, data := .seq items n, slots := osl } := Heap.get?_push_of_some _ ho
        have m1 := F.sub_list_set
        have m2 := F.sub_list_frozenset
        have m3 : (Value.type "list" == Value.type "dict") = false := by decide
        have lq : (s.heap.push (noInts w)).IsList q items := ⟨_, ho2, rfl, n, rfl⟩
        unfold Builtin.«set.__init__»
        unfold noKeywords Builtin.Frozenset.updateFrom
        generalize hPI : pyIter = PI
        wp_walk
        subst hPI
        refine wpAny_pyIter_list lq ?_
        refine wpAny_bind (wpAny_runValue ?_)
        have lt : q < s.heap.objs.size := Heap.lt_size ho
        have h3 : A.in1.in1.in1.handled = none := by simp [hh]
        have ne : q ≠ (s.heap.push (noInts w)).objs.size := by
          rw [Heap.size_push]; exact Nat.ne_of_lt (Nat.lt_succ_of_lt lt)
        have nf : s.heap.objs.size ∉ [(s.heap.push (noInts w)).objs.size, q] := by
          rw [Heap.size_push]
          simp only [List.mem_cons, List.mem_singleton, List.not_mem_nil, or_false, not_or]
          exact ⟨Nat.ne_of_lt (Nat.lt_succ_self _), Nat.ne_of_gt lt⟩
        have val : ∀ (i : Nat) (v : Value), items[i]? = some v → ∃ k t, ns[i]? = some k ∧ v = .int k t := fun i v e => by
          have lt2 : i < ns.length := by rw [← len]; exact (Array.getElem?_eq_some_iff.mp e).1
          obtain ⟨t, ev⟩ := PyProof.Rows.IntsAre.int_at hv i v (by rw [Array.getElem?_toList]; exact e)
          refine ⟨ns[i], t, List.getElem?_eq_getElem lt2, ?_⟩
          rw [ev, List.getD_eq_getElem?_getD, List.getElem?_eq_getElem lt2] <;> rfl
        refine set_update_ints ((Walks.list h3 _ q ne items).toS) s.heap.objs.size nf ns len hb val (items.size - 0) 0 _ (by omega) (Nat.zero_le _) ⟨⟨_, Heap.get?_push_size _ rfl, rfl, rfl⟩, (lq.push _)⟩ ?st0 ?stR
        case st0 => exact ⟨0, Nat.le_refl 0, setR_new_at (Heap.get?_push_of_some _ n1)⟩
        case stR =>
          intro s' c' mv gc gs
          obtain ⟨h', g2, d2, t2, os2⟩ := s'
          obtain rfl : g2 = s.gens := mv.gens
          obtain rfl : d2 = s.drawn := mv.drawn
          obtain rfl : os2 = s.os := mv.os
          show wpAny _ _ _ _ _ _
          refine wpAny_pure ?_
          show wpAny _ _ (ret Value.none) _ _ _
          rw [len] at gc
          refine wpAny_pure ⟨rfl, h', t2, rfl, ⟨c', gc, gs⟩, fun b o e => ?_⟩
          have lb := Heap.lt_size e
          refine mv.heap b o ?_ (Heap.get?_push_of_some _ (Heap.get?_push_of_some _ e))
          rw [Heap.size_push]
          simp only [List.mem_cons, List.mem_singleton, List.not_mem_nil, or_false, not_or]
          exact ⟨Nat.ne_of_lt lb, Nat.ne_of_lt (Nat.lt_succ_of_lt lb)⟩
      · cases r2 with
        | error e => exact hr2
        | ok f2 =>
          cases f2 with
          | ret r =>
            obtain ⟨rfl, h', tk, rfl, g, kp⟩ := hr2
            repeat (any_goals (first | assumption | wp_step))
            exact fin _ _ g kp
          | _ => exact hr2.elim
    | _ => exact hr.elim
end
/-- distinct ints: as many as there are -/
theorem dup_less : ∀ {ns : List Int}, ¬ ns.Nodup → ∃ m : List Int, m.length < ns.length ∧ ∀ x ∈ ns, x ∈ m
  | [], h => absurd List.nodup_nil h
  | y :: r, h => by
    by_cases c : y ∈ r
    · exact ⟨r, Nat.lt_succ_self _, fun x hx => (List.mem_cons.mp hx).elim (fun z => z ▸ c) id⟩
    · obtain ⟨m, h1, h2⟩ := dup_less (ns := r) fun z => h (List.nodup_cons.mpr ⟨c, z⟩)
      exact ⟨y :: m, Nat.succ_lt_succ h1, fun x hx => (List.mem_cons.mp hx).elim (fun z => z ▸ List.mem_cons_self) fun z => List.mem_cons_of_mem _ (h2 x z)⟩
theorem setR_count {w : World} {h : Heap} {a : Addr} {ns : List Int} {c : Nat} (R : SetR w h a (fun j => decide (j ∈ ns)) c) : c = ns.length ↔ ns.Nodup := by
  obtain ⟨o, es, ep, t, _, _, _, _, nd2, hm, _, _, hc, _⟩ := R
  have mm : ∀ k, k ∈ es.toList.map keyOf ↔ k ∈ ns := fun k => by rw [← hm k, decide_eq_true_eq]
  have le : (es.toList.map keyOf).length = c := by
    rw [List.length_map, Array.length_toList]
    omega
  constructor
  · intro e
    by_cases nd : ns.Nodup
    · exact nd
    · obtain ⟨m, h1, h2⟩ := dup_less nd
      have := nd2.length_le_of_subset (fun k hk => h2 k ((mm k).mp hk) : es.toList.map keyOf ⊆ m)
      omega
  · intro nd
    have pm := (List.perm_ext_iff_of_nodup nd2 nd).mpr mm
    have := pm.length_eq
    omega
section
variable {X : Cx}
def rSetI (K : PySem.W.Frag) (w : World) : List V → Hp → VK → Prop := fun xs H Q => ∃ (q : Addr) (ns : List Int), xs = [.ref q] ∧ (SqL K H q (ns.map V.int) ∨ SqT K H q (ns.map V.int)) ∧ ns.length < 64 ∧
  ∀ p c, c ≤ ns.length → (c = ns.length ↔ ns.Nodup) → H p = none → Q (.ref p) (upd H p (SetO w p (fun j => decide (j ∈ ns)) c))
theorem call_setIs (hc : X.calm = true) : CallR X (.type "set") (rSetI X.K X.w) := by
  intro pins s σ H xs us Q I r h
  obtain ⟨q, ns, rfl, hq, h64, z⟩ := h
  obtain ⟨u, rfl, rx⟩ := vals1 r
  cases rx
  have hb : ns.length + 1 < scanBound := Nat.lt_of_le_of_lt (show ns.length + 1 ≤ 64 by omega) (by decide)
  have fin : ∀ (h' : Heap) (tk c : Nat), SetR X.w h' s.heap.objs.size (fun j => decide (j ∈ ns)) c → c ≤ ns.length → (∀ b o, s.heap.get? b = some o → h'.get? b = some o) → EP X pins σ Q (.ref s.heap.objs.size) { s with heap := h', toks := tk } := fun h' tk c g gc kp =>
    ⟨.ref s.heap.objs.size, upd H s.heap.objs.size (SetO X.w s.heap.objs.size (fun j => decide (j ∈ ns)) c), I.laid (t' := tk) kp (Nat.le_refl _) (setO_new g), rfl, z _ c gc (setR_count g) (I.hok.fresh (Nat.le_refl _))⟩
  rcases hq with hq | hq
  · obtain ⟨its, rv, pl, hz⟩ := I.list hq
    exact call_setI ns (I.ok.hd hc) pl.isList (ints_of_vals rv) hb fun h' tk ⟨c, gc, g⟩ kp => fin h' tk c g gc kp
  · obtain ⟨its, rv, pt, hz⟩ := I.tuple hq
    exact call_set_tupI ns (I.ok.hd hc) (show s.heap.IsTuple q its.toArray from pt) (ints_of_vals rv) hb fun h' tk c g gc kp => fin h' tk c g gc kp
theorem call_lenS : CallR X (.builtin "len") (fun xs H Q => ∃ (a : Addr) (S : Int → Bool) (n : Nat), xs = [.ref a] ∧ H a = some (SetO X.w a S n) ∧ Q (.int n) H) := by
  intro pins s σ H xs us Q I r h
  obtain ⟨a, S, n, rfl, ha, q⟩ := h
  obtain ⟨u, rfl, rx⟩ := vals1 r
  cases rx
  obtain ⟨o, es, ep, t, ho, hx, hd, _, _, _, hb, hf, hn, _⟩ := setO_get I ha
  refine Calls.call_function_entry PySem.kind_len PySem.plain_len PySem.entry_len (PySem.args_len1 _) ?_
  refine wpAny_len_body_set ho hx hd hf (by unfold scanBound at hb; omega) ?_
  rw [hn]
  exact ⟨.int n, H, I.tok _, ⟨_, rfl⟩, q⟩
end

local macro_rules | `(tactic| walk_at "sm") => `(tactic| try simp only [sFld, tFld, tMake, tMakeS, tSeq, tAsg, tRet, tRetN, tDrop, tOp, tUn, tVar, tC, tCB, tCons, tNil, tLst, tTup, tTest, tB, tAnd, tOr, tNot, tAndV, tOrV, tNotV, tIf, tIfS, tNext, tCont, tBreak, tCall, tCallS, WE, tXf, rI0, rI, rU, gName, gNil, gCons, gTup, gSub, tAug, tBM, tBM0, tM1, rNewStrs, tLc_eq, iRng1, iRng2, iList, iTup, tYes, wipe, List.foldl_cons, List.foldl_nil, rEq, rNe, scal, rIxS, rSlS, tSl, tPart, tNoPart, tChain, ipI, str1, tMkO_eq, L2.start, List.map_cons, List.map_nil, List.append_nil, List.cons_append, List.nil_append, List.length_cons, List.length_nil, List.drop, List.replicate, List.getElem?_cons_zero, List.getElem?_cons_succ, List.set_cons_zero, List.set_cons_succ, Option.some.injEq, V.int.injEq, V.str.injEq, V.ref.injEq, V.bl.injEq, List.cons.injEq, reduceCtorEq, false_and, and_false, exists_false, or_false, false_or, exists_eq_left', exists_eq_left, and_assoc, cx_K, exists_and_left, exists_and_right, and_true, true_and, decide_eq_true_eq, if_true, if_false, Bool.false_eq_true])

/-! ### sets of places as whole numbers -/
section
variable {X : Cx}
theorem ip_orN : PIp X .BitOr (fun x y H Q => ∃ n m : Nat, x = .int n ∧ y = .int m ∧ Q (.int ((n ||| m : Nat) : Int)) H) := by
  intro pins s σ H x y v u Q I r1 r2 h
  obtain ⟨n, m, rfl, rfl, q⟩ := h
  exact iop_or pins s σ H _ _ v u Q I r1 r2 ⟨n, m, rfl, rfl, by show Q (.int (Builtin.bitOr _ _)) H; rw [L2.bitOr_nn (Int.natCast_nonneg n) (Int.natCast_nonneg m), Int.toNat_natCast, Int.toNat_natCast]; exact q⟩
theorem ip_xorN : PIp X .BitXor (fun x y H Q => ∃ n m : Nat, x = .int n ∧ y = .int m ∧ Q (.int ((n ^^^ m : Nat) : Int)) H) := by
  intro pins s σ H x y v u Q I r1 r2 h
  obtain ⟨n, m, rfl, rfl, q⟩ := h
  exact iop_xor pins s σ H _ _ v u Q I r1 r2 ⟨n, m, rfl, rfl, by show Q (.int (Builtin.bitXor _ _)) H; rw [Bits.bitXor_pp (Int.natCast_nonneg n) (Int.natCast_nonneg m), Int.toNat_natCast, Int.toNat_natCast]; exact q⟩
theorem op_orN : OpR X (binaryOp .BitOr) (fun x y H Q => ∃ n m : Nat, x = .int n ∧ y = .int m ∧ Q (.int ((n ||| m : Nat) : Int)) H) := by
  intro pins s σ H x y v u Q I r1 r2 h
  obtain ⟨n, m, rfl, rfl, q⟩ := h
  exact op_or pins s σ H _ _ v u Q I r1 r2 ⟨n, m, rfl, rfl, by show Q (.int (Builtin.bitOr _ _)) H; rw [L2.bitOr_nn (Int.natCast_nonneg n) (Int.natCast_nonneg m), Int.toNat_natCast, Int.toNat_natCast]; exact q⟩
theorem op_shlK : OpR X (binaryOp .LShift) (fun x y H Q => ∃ k : Nat, x = .int 1 ∧ y = .int (k : Int) ∧ k ≤ 134217727 ∧ Q (.int ((2 ^ k : Nat) : Int)) H) := by
  intro pins s σ H x y v u Q I r1 r2 h
  obtain ⟨k, rfl, rfl, hk, q⟩ := h
  exact op_oneShl pins s σ H _ _ v u Q I r1 r2 ⟨k, rfl, rfl, hk, by rw [Int.natCast_pow] at q; exact q⟩
theorem op_shrK : OpR X (binaryOp .RShift) (fun x y H Q => ∃ n k : Nat, x = .int n ∧ y = .int (k : Int) ∧ Q (.int ((n / 2 ^ k : Nat) : Int)) H) := by
  intro pins s σ H x y v u Q I r1 r2 h
  obtain ⟨n, k, rfl, rfl, q⟩ := h
  exact op_shrN pins s σ H _ _ v u Q I r1 r2 ⟨n, k, rfl, rfl, by rw [Int.natCast_ediv, Int.natCast_pow] at q; exact q⟩
/-- what of n and its lowest bit is -/
theorem low_and {t m : Nat} : (2 ^ t * (2 * m + 1)) &&& (2 ^ t * (2 * m + 1) - 1) = 2 ^ t * (2 * m) := by
  have p : 0 < 2 ^ t := Nat.pow_pos (by decide)
  have e1 : 2 ^ t * (2 * m + 1) = 2 ^ t * (2 * m) + 2 ^ t := by rw [Nat.mul_add, Nat.mul_one]
  have e2 : 2 ^ t * (2 * m + 1) - 1 = 2 ^ t * (2 * m) + (2 ^ t - 1) := by omega
  refine Nat.eq_of_testBit_eq fun i => ?_
  rw [Nat.testBit_and, e2, Nat.testBit_two_pow_mul_add (2 * m) (show 2 ^ t - 1 < 2 ^ t by omega), Nat.testBit_two_pow_mul, Nat.testBit_two_pow_mul, Nat.testBit_two_pow_sub_one]
  by_cases h : i < t
  · rw [if_pos h, decide_eq_false (show ¬ t ≤ i by omega)]
    rfl
  · rw [if_neg h, decide_eq_true (show t ≤ i by omega), Bool.true_and, Bool.true_and]
    cases hd : i - t with
    | zero => rw [Nat.testBit_zero, Nat.testBit_zero]; simp
    | succ j => rw [Nat.testBit_succ, Nat.testBit_succ, show (2 * m + 1) / 2 = m by omega, show 2 * m / 2 = m by omega, Bool.and_self]
theorem op_low : OpR X (binaryOp .BitAnd) (fun x y H Q => ∃ n t m : Nat, x = .int (n : Int) ∧ y = .int (-(n : Int)) ∧ n = 2 ^ t * (2 * m + 1) ∧ Q (.int ((2 ^ t : Nat) : Int)) H) := by
  intro pins s σ H x y v u Q I r1 r2 h
  obtain ⟨n, t, m, rfl, rfl, hn, q⟩ := h
  refine op_and pins s σ H _ _ v u Q I r1 r2 ⟨_, _, rfl, rfl, ?_⟩
  have p : 0 < 2 ^ t := Nat.pow_pos (by decide)
  have pn : 0 < n := by rw [hn]; exact Nat.mul_pos p (by omega)
  have e : Builtin.bitAnd (n : Int) (-(n : Int)) = ((2 ^ t : Nat) : Int) := by
    unfold Builtin.bitAnd Builtin.bitNot
    rw [decide_eq_true (show (0 : Int) ≤ (n : Int) by omega), decide_eq_false (show ¬ (0 : Int) ≤ -(n : Int) by omega)]
    show (n : Int) - ((((n : Int).toNat) &&& (-(-(n : Int)) - 1).toNat : Nat) : Int) = _
    rw [show (-(-(n : Int)) - 1).toNat = n - 1 by omega, Int.toNat_natCast, hn, low_and, show 2 ^ t * (2 * m + 1) = 2 ^ t * (2 * m) + 2 ^ t by rw [Nat.mul_add, Nat.mul_one]]
    omega
  show Q (.int (Builtin.bitAnd _ _)) H
  rw [e]
  exact q
theorem bits_pow (t : Nat) : Builtin.Int.intBits (((2 ^ t : Nat) : Int)) = t + 1 := by
  have p : 0 < 2 ^ t := Nat.pow_pos (by decide)
  unfold Builtin.Int.intBits
  rw [if_neg (by simp only [beq_iff_eq]; omega), Int.natAbs_natCast, Nat.log2_two_pow]
/-! a list's item by its place, as a changed one; a tuple behind a list; one of two readings -/
def rGetL : V → V → Hp → VK → Prop := fun o i H Q => ∃ (p : Addr) (xs : List V) (k : Nat) (v : V), o = .ref p ∧ i = .int (k : Int) ∧ H p = some (.lst xs) ∧ xs[k]? = some v ∧ Q v H
theorem get_list : PGet X rGetL := by
  intro pins s σ H o i ov iv Q I ro ri h
  obtain ⟨p, xs, k, v, rfl, rfl, hp, hk, q⟩ := h
  cases ro
  obtain ⟨t, rfl⟩ := ri
  obtain ⟨its, r, pl, hz⟩ := I.list (SqL.of hp)
  obtain ⟨w, ew, rw'⟩ := r.get hk
  have hn := line63
  have hk2 := (List.getElem?_eq_some_iff.mp hk).1
  exact wpAny_getItem_list pl.isList (Int.natCast_nonneg _) (by omega) (by rw [Int.toNat_natCast]; simpa using ew) ⟨v, H, I, rw', q⟩
theorem IxR.or {r r' : R2} (h : IxR X r) (h' : IxR X r') : IxR X (fun x y H Q => r x y H Q ∨ r' x y H Q) := fun e1 e2 pins s σ H x y v u Q I rx ry q hs =>
  q.elim (fun q => h e1 e2 pins s σ H x y v u Q I rx ry q hs) fun q => h' e1 e2 pins s σ H x y v u Q I rx ry q hs
def rExtT (K : PySem.W.Frag) : V → List V → Hp → VK → Prop := fun x vs H Q => ∃ l b xs zs, x = .ref l ∧ vs = [.ref b] ∧ H l = some (.lst xs) ∧ SqT K H b zs ∧ xs.length + zs.length ≤ sizeLine ∧ Q .non (upd H l (.lst (xs ++ zs)))
theorem ext_tup (l : Addr) (items : Array Value) (n : Nat) (b : Addr) (items2 : Array Value) (n2 : Nat) (dd : Option Addr) (sl : Array (Option Value)) (hs0 : ¬ (!items.isEmpty && Builtin.List.listTooLong (items.size + items2.size)) = true) (hs1 : items.size ≤ sizeLine) (hs2 : items.size + items2.size ≤ sizeLine + 1) :
    Meets (Builtin.«list.extend» ⟨[.ref l, .ref b], []⟩) (fun _ R s => s.heap.get? l = some { cls := .type "list", dict := none, data := .seq items n, slots := #[] } ∧ s.heap.get? b = some { cls := .type "tuple", dict := dd, data := .seq items2 n2, slots := sl } ∧
      R (.ok (.ret Value.none)) { s with heap := s.heap.update l (Obj.mapSeq fun x => x ++ items2), toks := s.toks }) :=
  .of_wp fun prog w A R s h => by
    obtain ⟨hp, g, d, tk, os⟩ := s
    obtain ⟨hl, hb, h⟩ := h
    have f1 := AutoSeq1.idx_int
    have f2 := AutoSeq1.sub_tuple_tuple
    have f3 := AutoSeq1.sub_list_list
    have f4 := AutoSeq1.sub_tuple_list
    have f5 := AutoSeq1.sub_list_tuple
    have hz' : (items ++ items2).size ≤ sizeLine + 1 := by rw [Array.size_append]; exact hs2
    wp_walk using (wpAny_updateSeq hl rfl (hz := hs1) (_hz' := hz')), AutoSeq1.wpAny_loadPart' hl, AutoSeq1.wpAny_loadPart' hb
    exact ⟨_, rfl, h⟩
theorem mt_extT : MtM X "list.extend" (rExtT X.K) := by
  intro pins s σ H x vs v us Q I rx rv h
  obtain ⟨l, b, xs, zs, rfl, rfl, hH, hB, hz, q⟩ := h
  cases rx
  obtain ⟨u, rfl, ru⟩ := rv.one
  cases ru
  obtain ⟨z, its, n, r, hl, e⟩ := I.lstM hH
  obtain ⟨its2, r2, ⟨ob, e2, oc, n2, od⟩, hl2⟩ := I.tuple hB
  obtain ⟨ocl, odi, oda, osl⟩ := ob
  simp only at oc od
  subst oc; subst od
  have ll := r.length
  have ll2 := r2.length
  have hsz : its.toArray.size + its2.toArray.size ≤ sizeLine := by rw [List.size_toArray, List.size_toArray]; omega
  have hlong : ¬ (!its.toArray.isEmpty && Builtin.List.listTooLong (its.toArray.size + its2.toArray.size)) = true := by
    rw [notLongL hsz, Bool.and_false]
    exact Bool.false_ne_true
  refine call_meets F.slot_list_extend ⟨_, e, rfl⟩ F.entry_list_extend (F.args_list_extend_2 _ _)
    (ext_tup l its.toArray n b its2.toArray n2 odi osl hlong (by rw [List.size_toArray]; omega) (by omega)) ⟨e, e2, ?_⟩
  refine ⟨.non, _, I.lset (its' := its ++ its2) hH e (by simp) (r.append r2) ?_, rfl, q⟩
  rw [List.length_append]
  omega
end
/-- the set of a list of places -/
def msk (l : List Nat) : Nat := l.foldl (fun m p => m ||| 2 ^ p) 0
theorem msk_snoc (l : List Nat) (p : Nat) : msk (l ++ [p]) = msk l ||| 2 ^ p := by
  unfold msk
  rw [List.foldl_append]
  rfl
theorem bit_pow (p i : Nat) : (2 ^ p).testBit i = decide (i = p) := by
  rw [Nat.testBit_two_pow]
  exact decide_eq_decide.mpr eq_comm
theorem msk_bit (l : List Nat) (i : Nat) : (msk l).testBit i = decide (i ∈ l) := by
  have go : ∀ (l : List Nat) (m : Nat), (l.foldl (fun m p => m ||| 2 ^ p) m).testBit i = (m.testBit i || decide (i ∈ l)) := by
    intro l
    induction l with
    | nil => intro m; simp
    | cons p l ih =>
      intro m
      show (l.foldl _ (m ||| 2 ^ p)).testBit i = _
      rw [ih, Nat.testBit_or, bit_pow, Bool.or_assoc]
      congr 1
      by_cases h : i = p <;> simp [h]
  have := go l 0
  rw [Nat.zero_testBit, Bool.false_or] at this
  exact this


/-! ### mask_of, reached_along -/
theorem nat_at {l : List Nat} {i : Nat} {x : V} (h : ((nI l).map V.int)[i]? = some x) : ∃ n : Nat, l[i]? = some n ∧ x = .int n := by
  rw [List.map_map, List.getElem?_map] at h
  cases e : l[i]? with
  | none => rw [e] at h; cases h
  | some n => rw [e] at h; exact ⟨n, rfl, (Option.some.inj h).symm⟩
theorem at_nat {l : List Nat} {i n : Nat} (h : l[i]? = some n) : ((nI l).map V.int)[i]? = some (.int n) := by
  rw [List.map_map, List.getElem?_map, h]
  rfl
section
variable {P : Program} {w : World} {K : PySem.W.Frag} {mg : Str → Option Value} {base : Heap} {a : Ad}
def spMask : Sp := fun vs H Q _ => ∃ (p : Addr) (l : List Nat), vs = [.ref p] ∧ SqAt H p ((nI l).map V.int) ∧ (∀ n ∈ l, n ≤ 1000) ∧ Q (.int (msk l)) H
def ivMask (p : Addr) (l : List Nat) (H : Hp) : Nat → L2.St → Hp → Prop := fun i σ H' => ∃ v, σ = [some (.ref p), some (.int (msk (l.take i) : Nat)), v] ∧ H' = H
theorem ok_mask_of (T : Txt K mg a) : FnOk P w K mg base CX0 1 a.f_mask_of a.d_mask_of ["places"] spMask := by
  refine T.F_mask_of.ok sc_mask_of (fun vs H Q E h => ?_) (fun cdv A outer s H vs Q E hr h => ?_)
  · obtain ⟨_, _, rfl, _⟩ := h
    rfl
  · obtain ⟨p, l, rfl, hp, hb, k⟩ := h
    refine ⟨_, (pss_cons (ps_set (i := 1) sc_mask_of.nd rfl (by first | exact Or.inl rfl | exact Or.inr rfl) pe_int)
  (pss_cons (ps_for PassesOwn.never rfl (pi_or (pi_list (pv 0)) (pi_tup (pv 0))) (pg_name (i := 2) sc_mask_of.nd rfl (by first | exact Or.inl rfl | exact Or.inr rfl)) (pss_one (ps_aug (i := 1) sc_mask_of.nd rfl (by first | exact Or.inl rfl | exact Or.inr rfl) (pe_op op_shlK pe_int (pv 2)) ip_orN)))
  (pss_one (ps_ret (pv 1))))), ?_⟩
    walk_at "sm"
    have go : ∀ (i n : Nat) (HX : Hp), l[i]? = some n → HX = H → ivMask p l H (i + 1) [some (.ref p), some (.int ((msk (l.take i) ||| 2 ^ n : Nat) : Int)), some (.int n)] HX := by
      rintro i n HX hn rfl
      refine ⟨some (.int n), ?_, rfl⟩
      rw [List.take_add_one, hn]
      show _ = [_, some (V.int ((msk (l.take i ++ [n]) : Nat) : Int)), _]
      rw [msk_snoc]
    have bd : ∀ (i n : Nat), l[i]? = some n → n ≤ 134217727 := fun i n hn => by
      have := hb n (List.mem_of_getElem? hn)
      omega
    rcases hp with q | q
    · refine .inr ⟨_, rfl, p, rfl, ⟨_, SqT.of q⟩, for_tup (K := K) (a := p) (xs := (nI l).map V.int) (ivMask p l H) ⟨none, rfl, rfl⟩ (fun i σ HX hi ⟨_, _, e⟩ => by rw [e]; exact SqT.of q) ?_ ?_⟩
      · rintro i x σ HX hi ⟨v, rfl, e⟩
        obtain ⟨n, hn, rfl⟩ := nat_at hi
        walk_at "sm"
        exact ⟨n, rfl, bd i n hn, _, rfl, _, rfl, go i n HX hn e⟩
      · rintro σ HX ⟨v, rfl, rfl⟩
        walk_at "sm"
        rw [List.length_map, List.length_map, List.take_length]
        exact k
    · refine .inl ⟨_, rfl, p, rfl, ⟨_, SqL.of q⟩, for_list (K := K) (a := p) (xs := (nI l).map V.int) (ivMask p l H) ⟨none, rfl, rfl⟩ (fun i σ HX hi ⟨_, _, e⟩ => by rw [e]; exact SqL.of q) ?_ ?_⟩
      · rintro i x σ HX hi ⟨v, rfl, e⟩
        obtain ⟨n, hn, rfl⟩ := nat_at hi
        walk_at "sm"
        exact ⟨n, rfl, bd i n hn, _, rfl, _, rfl, go i n HX hn e⟩
      · rintro σ HX ⟨v, rfl, rfl⟩
        walk_at "sm"
        rw [List.length_map, List.length_map, List.take_length]
        exact k
end


/-! ### what can be reached along arrows -/
def rowR (H : Hp) (x : V) (b : List Nat) : Prop := ∃ q, x = .ref q ∧ H q = some (.tup ((nI b).map V.int))
theorem rowR.go {H H' : Hp} {x : V} {b : List Nat} (e : Kp H H') (h : rowR H x b) : rowR H' x b := by
  obtain ⟨q, h1, h2⟩ := h
  exact ⟨q, h1, e.1 _ _ h2⟩
def Arr (H : Hp) (p : Addr) (bs : List (List Nat)) : Prop := ∃ xs, SqAt H p xs ∧ Paired (rowR H) xs bs
theorem Arr.go {H H' : Hp} {p : Addr} {bs : List (List Nat)} (e : Kp H H') (h : Arr H p bs) : Arr H' p bs := by
  obtain ⟨xs, h1, h2⟩ := h
  exact ⟨xs, h1.kp e, Paired.mapP h2 fun _ _ z => z.go e⟩
theorem paired_of {α β : Type} {F : α → β → Prop} : ∀ {l : List α} {m : List β} {i : Nat} {y : β}, Paired F l m → m[i]? = some y → ∃ x, l[i]? = some x ∧ F x y
  | _, _, _, _, .nil, h => by simp at h
  | _, _, 0, _, .cons f _, h => by
    simp at h
    exact ⟨_, rfl, h ▸ f⟩
  | _, _, i + 1, _, .cons _ t, h => by
    obtain ⟨x, h1, h2⟩ := paired_of (i := i) t (by simpa using h)
    exact ⟨x, by simpa using h1, h2⟩
/-- reached from s by one arrow or more, past no barred place -/
inductive Rc (bs : List (List Nat)) (bar s : Nat) : Nat → Prop
  | one {b : List Nat} {q : Nat} : bs[s]? = some b → q ∈ b → bar.testBit q = false → Rc bs bar s q
  | more {p : Nat} {b : List Nat} {q : Nat} : Rc bs bar s p → bs[p]? = some b → q ∈ b → bar.testBit q = false → Rc bs bar s q
def un (r n : Nat) : Nat := ((List.range n).filter fun p => !r.testBit p).length
theorem un_le (r n : Nat) : un r n ≤ n := Nat.le_trans (List.length_filter_le _ _) (Nat.le_of_eq (List.length_range ..))
theorem un_mono {r r' : Nat} (h : ∀ p, r.testBit p = true → r'.testBit p = true) : ∀ l : List Nat, (l.filter fun p => !r'.testBit p).length ≤ (l.filter fun p => !r.testBit p).length
  | [] => Nat.le_refl _
  | p :: l => by
    have ih := un_mono h l
    rw [List.filter_cons, List.filter_cons]
    cases e : r.testBit p with
    | true =>
      rw [h p e]
      exact ih
    | false =>
      cases e2 : r'.testBit p with
      | true => exact Nat.le_succ_of_le ih
      | false => exact Nat.succ_le_succ ih
theorem un_drop {r r' q : Nat} (h : ∀ p, r.testBit p = true → r'.testBit p = true) (h0 : r.testBit q = false) (h1 : r'.testBit q = true) : ∀ l : List Nat, q ∈ l → (l.filter fun p => !r'.testBit p).length < (l.filter fun p => !r.testBit p).length
  | [], m => by simp at m
  | p :: l, m => by
    rw [List.filter_cons, List.filter_cons]
    by_cases e : q = p
    · subst e
      rw [h0, h1]
      exact Nat.lt_succ_of_le (un_mono h l)
    · have ih := un_drop h h0 h1 l ((List.mem_cons.mp m).resolve_left e)
      cases e1 : r.testBit p with
      | true =>
        rw [h p e1]
        exact ih
      | false =>
        cases e2 : r'.testBit p with
        | true => exact Nat.lt_succ_of_lt ih
        | false => exact Nat.succ_lt_succ ih
theorem un_lt {r q n : Nat} (h0 : r.testBit q = false) (hq : q < n) : un (r ||| 2 ^ q) n < un r n :=
  un_drop (fun p h => by rw [Nat.testBit_or, h]; rfl) h0 (by rw [Nat.testBit_or, bit_pow, decide_eq_true rfl, Bool.or_true]) _ (List.mem_range.mpr hq)
structure RI (bs : List (List Nat)) (bar s r : Nat) (ws : List Nat) : Prop where
  sound : ∀ q, r.testBit q = true → Rc bs bar s q
  src : ∀ q ∈ ws, q < bs.length ∧ (bar.testBit q = false → Rc bs bar s q)
  clos : ∀ p b, (p = s ∨ r.testBit p = true) → bs[p]? = some b → ∀ q ∈ b, bar.testBit q = false → r.testBit q = true ∨ q ∈ ws
  size : ws.length + 200 * un r bs.length ≤ 200 * bs.length + 200
/-- arrows that stay within -/
def ArrOk (bs : List (List Nat)) : Prop := bs.length ≤ 200 ∧ ∀ b ∈ bs, b.length ≤ 200 ∧ ∀ q ∈ b, q < bs.length
theorem RI.init {bs : List (List Nat)} {bar s : Nat} {b : List Nat} (h : ArrOk bs) (hb : bs[s]? = some b) : RI bs bar s 0 b := by
  have hm := h.2 b (List.mem_of_getElem? hb)
  refine ⟨fun q hq => absurd hq (by rw [Nat.zero_testBit]; decide), fun q hq => ⟨hm.2 q hq, fun hn => .one hb hq hn⟩, fun p c hp hc q hq _ => ?_, ?_⟩
  · rcases hp with rfl | hp
    · rw [hb] at hc
      cases hc
      exact .inr hq
    · rw [Nat.zero_testBit] at hp; cases hp
  · have := un_le 0 bs.length
    have := hm.1
    omega
theorem RI.skip {bs : List (List Nat)} {bar s r q : Nat} {ws : List Nat} (h : RI bs bar s r (ws ++ [q])) (hq : (r ||| bar).testBit q = true) : RI bs bar s r ws := by
  refine ⟨h.sound, fun p hp => h.src p (List.mem_append_left _ hp), fun p b h1 h2 x h3 h4 => ?_, ?_⟩
  · rcases h.clos p b h1 h2 x h3 h4 with g | g
    · exact .inl g
    · rcases List.mem_append.mp g with g | g
      · exact .inr g
      · rw [List.mem_singleton] at g
        subst g
        rw [Nat.testBit_or, h4, Bool.or_false] at hq
        exact .inl hq
  · have := h.size
    rw [List.length_append] at this
    exact Nat.le_trans (by have : ws.length ≤ ws.length + [q].length := Nat.le_add_right _ _; omega) this
theorem RI.take {bs : List (List Nat)} {bar s r q : Nat} {ws b : List Nat} (k : ArrOk bs) (h : RI bs bar s r (ws ++ [q])) (hq : (r ||| bar).testBit q = false) (hb : bs[q]? = some b) : RI bs bar s (r ||| 2 ^ q) (ws ++ b) := by
  have hm := k.2 b (List.mem_of_getElem? hb)
  rw [Nat.testBit_or, Bool.or_eq_false_iff] at hq
  have rq := (h.src q (by simp)).2 hq.2
  have ql := (h.src q (by simp)).1
  have bit : ∀ p, (r ||| 2 ^ q).testBit p = true ↔ r.testBit p = true ∨ p = q := fun p => by
    rw [Nat.testBit_or, bit_pow, Bool.or_eq_true, decide_eq_true_eq]
  refine ⟨fun p hp => ?_, fun p hp => ?_, fun p c h1 h2 x h3 h4 => ?_, ?_⟩
  · rcases (bit p).mp hp with g | rfl
    · exact h.sound p g
    · exact rq
  · rcases List.mem_append.mp hp with g | g
    · exact h.src p (List.mem_append_left _ g)
    · exact ⟨hm.2 p g, fun hn => .more rq hb g hn⟩
  · by_cases e : p = q
    · subst e
      rw [hb] at h2
      cases h2
      exact .inr (List.mem_append_right _ h3)
    · have h1' : p = s ∨ r.testBit p = true := h1.imp id fun g => ((bit p).mp g).resolve_right e
      rcases h.clos p c h1' h2 x h3 h4 with g | g
      · exact .inl ((bit x).mpr (.inl g))
      · rcases List.mem_append.mp g with g | g
        · exact .inr (List.mem_append_left _ g)
        · rw [List.mem_singleton] at g
          exact .inl ((bit x).mpr (.inr g))
  · have h1 := h.size
    have h2 := un_lt hq.1 ql
    have h3 := hm.1
    rw [List.length_append] at h1 ⊢
    have : [q].length = 1 := rfl
    omega
theorem RI.done {bs : List (List Nat)} {bar s r : Nat} (h : RI bs bar s r []) (q : Nat) : r.testBit q = true ↔ Rc bs bar s q := by
  refine ⟨h.sound q, fun g => ?_⟩
  induction g with
  | one h1 h2 h3 => exact (h.clos _ _ (.inl rfl) h1 _ h2 h3).resolve_right (by simp)
  | more _ h1 h2 h3 ih => exact (h.clos _ _ (.inr ih) h1 _ h2 h3).resolve_right (by simp)
theorem Arr.ix {K : PySem.W.Frag} {H : Hp} {p : Addr} {bs : List (List Nat)} {i : Nat} {b : List Nat} {Q : VK} (h : Arr H p bs) (hb : bs[i]? = some b) (k : ∀ q, H q = some (.tup ((nI b).map V.int)) → Q (.ref q) H) :
    rIxL K (.ref p) (.int (i : Nat)) H Q ∨ rIxT K (.ref p) (.int (i : Nat)) H Q := by
  obtain ⟨xs, h1, h2⟩ := h
  obtain ⟨x, hx, q, rfl, hq⟩ := paired_of h2 hb
  rcases h1 with g | g
  · exact .inr (ixt g (atI_nat hx) (k q hq))
  · exact .inl (ixl (SqL.of g) (atI_nat hx) (k q hq))
theorem nI_snoc (l : List Nat) (q : Nat) : (nI (l ++ [q])).map V.int = (nI l).map V.int ++ [.int q] := by simp
theorem nI_app (l m : List Nat) : (nI (l ++ m)).map V.int = (nI l).map V.int ++ (nI m).map V.int := by simp
theorem nI_len (l : List Nat) : ((nI l).map V.int).length = l.length := by simp
theorem sz2 {n : Nat} (h : n ≤ 100000) : n ≤ sizeLine := sz h
theorem tru_bit (n i : Nat) : (((n / 2 ^ i % 2 : Nat) : Int) != 0) = n.testBit i := by
  rw [Nat.testBit_eq_decide_div_mod_eq]
  rcases (show n / 2 ^ i % 2 = 0 ∨ n / 2 ^ i % 2 = 1 by omega) with e | e <;> rw [e] <;> rfl
section
variable {P : Program} {w : World} {K : PySem.W.Frag} {mg : Str → Option Value} {base : Heap} {a : Ad}
def spRA : Sp := fun vs H Q _ => ∃ (p : Addr) (bs : List (List Nat)) (s bar : Nat), vs = [.ref p, .int s, .int bar] ∧ Arr H p bs ∧ ArrOk bs ∧ s < bs.length ∧ ∀ (r : Nat) H', Evl.Ex H H' → (∀ q, r.testBit q = true ↔ Rc bs bar s q) → Q (.int r) H'
def ivRA (H : Hp) (p : Addr) (bs : List (List Nat)) (s bar : Nat) (l : Addr) (m : Nat) (σ : L2.St) (H' : Hp) : Prop := ∃ (r : Nat) (ws : List Nat) (v5 : Option V), m = ws.length + 201 * un r bs.length ∧ σ = [some (.ref p), some (.int s), some (.int bar), some (.int r), some (.ref l), v5] ∧
  Evl.Ex H H' ∧ H' l = some (.lst ((nI ws).map V.int)) ∧ RI bs bar s r ws
theorem ok_reached_along (T : Txt K mg a) : FnOk P w K mg base CX0 1 a.f_reached_along a.d_reached_along ["arrows", "place", "barred"] spRA := by
  refine T.F_reached_along.ok sc_reached_along (fun vs H Q E h => ?_) (fun cdv A outer s H vs Q E hr h => ?_)
  · obtain ⟨_, _, _, _, rfl, _⟩ := h
    rfl
  · obtain ⟨p, bs, st, bar, rfl, ha, hk, hs, k⟩ := h
    refine ⟨_, (pss_cons (ps_set (i := 3) sc_reached_along.nd rfl (by first | exact Or.inl rfl | exact Or.inr rfl) pe_int)
  (pss_cons (ps_set (i := 4) sc_reached_along.nd rfl (by first | exact Or.inl rfl | exact Or.inr rfl) (pe_callTy call_list_of (by rfl) T.z_list (by decide +kernel) (pa_cons (pe_ix (IxR.or ix_list ix_tup) (pv 0) (pv 1) (fun _ _ => rfl)) pa_nil)))
  (pss_cons (ps_while (by first | exact passes_of rfl | exact PassesOwn.never) (pt_truth (pv 4) (by intro _; rfl)) (pss_cons (ps_set (i := 5) sc_reached_along.nd rfl (by first | exact Or.inl rfl | exact Or.inr rfl) (pe_bm0 PySem.F.plainAttrs_list PySem.F.slot_list_pop PySem.F.type_list_pop mt_pop (pv 4)))
  (pss_one (ps_if (pt_not (pt_truth (pe_op op_odd (pe_op op_shrK (pe_op op_orN (pv 3) (pv 2)) (pv 5)) pe_int) (by intro _; rfl))) (pss_cons (ps_aug (i := 3) sc_reached_along.nd rfl (by first | exact Or.inl rfl | exact Or.inr rfl) (pe_op op_shlK pe_int (pv 5)) ip_orN)
  (pss_one (ps_expr (pe_bm PySem.F.plainAttrs_list PySem.F.slot_list_extend PySem.F.type_list_extend mt_extT (pv 4) (pa_cons (pe_ix (IxR.or ix_list ix_tup) (pv 0) (pv 5) (fun _ _ => rfl)) pa_nil)))))
    pss_nil))))
  (pss_one (ps_ret (pv 3)))))), ?_⟩
    walk_at "sm"
    obtain ⟨b0, hb0⟩ : ∃ b, bs[st]? = some b := ⟨_, List.getElem?_eq_getElem hs⟩
    refine ha.ix hb0 fun q0 hq0 => ⟨q0, rfl, _, .inr (SqT.of hq0), fun l hl => ?_⟩
    have eN := Evl.Ex.new (o := .lst ((nI b0).map V.int)) hl
    refine ⟨ivRA H p bs st bar l, ⟨_, 0, b0, none, rfl, rfl, eN, upd_same, RI.init hk hb0⟩, ?_⟩
    rintro m σ HX ⟨r, ws, v5, rfl, rfl, e1, hw, ri⟩
    walk_at "sm"
    refine ⟨_, .inl ⟨_, SqL.of hw, rfl⟩, ?_⟩
    rcases List.eq_nil_or_concat ws with rfl | ⟨ws, q, rfl⟩
    · exact iteF (k r _ e1 ri.done)
    · rw [List.concat_eq_append] at hw ri ⊢
      rw [nI_snoc] at hw ⊢
      refine iteT' (by cases ws <;> rfl) ⟨fun σ1 H1 => ∃ m1, m1 < (ws ++ [q]).length + 201 * un r bs.length ∧ ivRA H p bs st bar l m1 σ1 H1, fun σ1 H1 z => z, ?_⟩
      walk_at "sm"
      refine ⟨.inl ⟨rfl, _, SqL.of hw⟩, l, _, .int q, rfl, rfl, hw, by simp, ?_⟩
      have ql := (ri.src q (by simp)).1
      obtain ⟨b, hb⟩ : ∃ b, bs[q]? = some b := ⟨_, List.getElem?_eq_getElem ql⟩
      rw [List.dropLast_concat]
      have e2 := Evl.Ex.mut (o := .lst ((nI ws).map V.int)) e1 hl
      have hw2 : upd HX l (.lst ((nI ws).map V.int)) l = some (.lst ((nI ws).map V.int)) := upd_same
      generalize upd HX l (.lst ((nI ws).map V.int)) = H2 at e2 hw2 ⊢
      have sz := ri.size
      have nl := hk.1
      have bl := (hk.2 b (List.mem_of_getElem? hb)).1
      have ul := un_le r bs.length
      rw [List.length_append] at sz
      have s1 : [q].length = 1 := rfl
      refine ⟨r, rfl, bar, rfl, _, rfl, q, rfl, _, rfl, _, rfl, ?_⟩
      rw [tru_bit]
      cases ht : (r ||| bar).testBit q with
      | true => exact iteF ⟨_, by rw [List.length_append]; omega, r, ws, some (.int q), rfl, rfl, e2, hw2, ri.skip ht⟩
      | false =>
        have rt := ri.take hk ht hb
        have dr := un_lt (Bool.or_eq_false_iff.mp (by rw [← Nat.testBit_or]; exact ht)).1 ql
        refine iteT ⟨q, rfl, by omega, r, rfl, 2 ^ q, rfl, .inl ⟨rfl, _, SqL.of hw2⟩, (ha.go (Kp.ex e2)).ix hb fun qb hqb => ⟨l, qb, _, _, rfl, rfl, hw2, SqT.of hqb, ?_, ?_⟩⟩
        · rw [nI_len, nI_len]
          exact sz2 (by omega)
        · refine ⟨_, ?_, r ||| 2 ^ q, ws ++ b, some (.int q), rfl, rfl, Evl.Ex.mut e2 hl, by rw [upd_same, nI_app], rt⟩
          rw [List.length_append, List.length_append]
          omega
end


/-! ### sorted(t), t a tuple -/
open PyProof.Rows in
theorem collect_tup {prog : Program} {w : World} {A : Around} {E : Value → Shared → Prop} {s : Shared} {l : Addr} {vs : List Value} {Q : List Value → Shared → Prop} (hl : PyProof.Rows.IsTup s.heap l vs.toArray)
    (h : Q vs { s with heap := (s.heap.push (PyProof.Rows.seqObj "list" #[] 0)).update s.heap.objs.size (Obj.mapSeq fun x => x ++ vs.toArray) }) (hsz : vs.length ≤ sizeLine) : wpAny (model prog w) A (collect (.ref l)) Q E s := by
  obtain ⟨o, ho, hc, n, hd⟩ := hl
  refine wpAny_bind (wpAny_runValue (codeAny_builtin PyProof.Rows.entry_proto_collect' ?_))
  unfold Builtin.«proto.collect»
  refine wpAny_bind (wpAny_newList (wpAny_pure ⟨Code.quiet_builtin _ (by decide +kernel), codeAny_builtin PyProof.Rows.entry_list_iadd' ?_⟩) (Nat.zero_le _))
  have ho' := Heap.get?_push_of_some (PyProof.Rows.seqObj "list" #[] 0) ho
  unfold Builtin.«list.__iadd__»
  show wpAny _ _ (bind (typeOf (.ref l)) _) _ _ _
  refine wpAny_bind (wpAny_typeOf (v := .ref l) ⟨o, ho', hc⟩ ?_)
  rw [if_pos (by simp)]
  refine wpAny_bind (PyProof.Rows.listItems_at ho' hd (wpAny_bind (PyProof.Rows.listItems_at (Heap.get?_push_size s.1 rfl) rfl ?_)))
  rw [if_neg (by simp)]
  refine wpAny_bind (PyProof.Rows.listUpdate_at (Heap.get?_push_size s.1 rfl) rfl (wpAny_pure ?_) (Nat.zero_le _) (by simp; omega))
  show wpAny _ _ _ _ _ _
  refine wpAny_bind (wpAny_load (PyProof.Rows.get?_update_seq (Heap.get?_push_size s.1 rfl) fun x => x ++ vs.toArray) ?_)
  show wpAny _ _ (pure ((#[] : Array Value) ++ vs.toArray).toList) _ _ _
  rw [show ((#[] : Array Value) ++ vs.toArray).toList = vs by simp]
  exact wpAny_pure h
theorem sorted_ordT {prog : Program} {w : World} {A : Around} {E : Value → Shared → Prop} {s : Shared} {l : Addr} {vs : List Value} {ltv : Value → Value → Bool} {Q : Value → Shared → Prop} (O : SrtO.Swo ltv) (hl : PyProof.Rows.IsTup s.heap l vs.toArray) (hz : vs.length ≤ sizeLine)
    (hS : 2 ≤ vs.length → ∀ (h₁ : Heap) (a : Addr), h₁.get? a = some (PyProof.Rows.seqObj "list" vs.toArray 0) → (∀ (b : Addr) (o : Obj), s.heap.get? b = some o → b ≠ a ∧ h₁.get? b = some o) →
      SrtO.SortableO prog w A.in1.in1 { heap := h₁, gens := s.gens, drawn := s.drawn, toks := s.toks, os := s.os } a vs ltv)
    (h : ∀ (out : List Value), SrtO.Srtd ltv out → SrtO.Stb ltv out vs → Q (Value.ref (s.heap.objs.size + 1)) { heap := PyProof.Rows.sortedAll s.heap vs out.toArray, gens := s.gens, drawn := s.drawn, toks := s.toks, os := s.os }) :
    wpAny (model prog w) A (call (Value.builtin "sorted") [Value.ref l]) Q E s := by
  refine Calls.call_function_entry PyProof.Rows.kind_sorted PyProof.Rows.plain_sorted PyProof.Rows.entry_sorted (PyProof.Rows.args_sorted1 (Value.ref l)) ?_
  refine wpAny_bind (wpAny_pure (wpAny_bind (collect_tup hl ?_ hz)))
  refine wpAny_bind (wpAny_newList ?_ hz)
  have hsz : ((s.heap.push (PyProof.Rows.seqObj "list" #[] 0)).update s.heap.objs.size (Obj.mapSeq fun x => x ++ vs.toArray)).objs.size = s.heap.objs.size + 1 := by
    rw [Heap.size_update, PyProof.Rows.size_push']
  have hoL : (((s.heap.push (PyProof.Rows.seqObj "list" #[] 0)).update s.heap.objs.size (Obj.mapSeq fun x => x ++ vs.toArray)).push (PyProof.Rows.seqObj "list" vs.toArray 0)).get? (s.heap.objs.size + 1) = some (PyProof.Rows.seqObj "list" vs.toArray 0) := by
    rw [← hsz]
    exact Heap.get?_push_size _ rfl
  have keep : ∀ (b : Addr) (o : Obj), s.heap.get? b = some o → b ≠ s.heap.objs.size + 1 ∧ (((s.heap.push (PyProof.Rows.seqObj "list" #[] 0)).update s.heap.objs.size (Obj.mapSeq fun x => x ++ vs.toArray)).push (PyProof.Rows.seqObj "list" vs.toArray 0)).get? b = some o := fun b o q => by
    have hlt := Heap.lt_size q
    refine ⟨Nat.ne_of_lt (Nat.lt_succ_of_lt hlt), Heap.get?_push_of_some _ ?_⟩
    rw [Heap.get?_update_ne _ b s.heap.objs.size _ (Nat.ne_of_lt hlt)]
    exact Heap.get?_push_of_some _ q
  show wpAny (model prog w) A.in1 (do
    let _ ← holding [Value.ref _] (call (Value.builtin "list.sort") [Value.ref _] ({ pos := [Value.ref l] } : Args).kw)
    ret (Value.ref _)) _ _ _
  rw [hsz]
  refine wpAny_bind (wpAny_holding (wpAny_call_entry PyProof.Rows.slot_list_sort ⟨_, hoL, rfl⟩ PyProof.Rows.entry_list_sort (SrtO.list_sort_ord O hoL hz (fun h2 => hS h2 _ _ hoL keep) fun out hs hb => ?_) (PyProof.Rows.args_list_sort _)))
  exact ⟨Value.none, rfl, wpAny_pure ⟨_, rfl, h out hs hb⟩⟩
def rSortedIT (K : PySem.W.Frag) : List V → Hp → VK → Prop := fun vs H Q => ∃ a ns, vs = [V.ref a] ∧ SqT K H a (List.map V.int ns) ∧
  ∀ (ns' : List Int) (p : Addr), ns'.Perm ns → List.Pairwise (fun x1 x2 => x1 ≤ x2) ns' → H p = none → Q (V.ref p) (upd H p (HO.lst (List.map V.int ns')))
theorem cr_sortedIT {X : Cx} : CallR X (Value.builtin "sorted") (rSortedIT X.K) := by
  intro pins s σ H vs us Q I r h
  obtain ⟨a, ns, rfl, hs, q⟩ := h
  obtain ⟨its, rv, hl, hz⟩ := I.tuple hs
  rw [Vals.ref1 r]
  have hi := Vals.ints rv
  refine sorted_ordT SrtO.swo_int hl (by rw [← Vals.length rv]; exact hz) (fun h2 h1 a' x x1 => SrtO.ints_sortable hi h2) fun out h1 h2 => ?_
  obtain ⟨k1, k2, k3⟩ := SrtO.ints_out hi h1 h2
  obtain ⟨ep, he'⟩ := PyProof.Rows.sortedAll_at s.heap its out.toArray
  have hlen : (List.map V.int (List.map SrtO.iv out)).length ≤ sizeLine := by
    rw [List.length_map, k2.length_eq]
    rw [List.length_map] at hz
    exact hz
  exact ⟨V.ref (s.heap.objs.size + 1), upd H (s.heap.objs.size + 1) (HO.lst (List.map V.int (List.map SrtO.iv out))), Inv.laid I (fun x x1 => PyProof.Rows.sortedAll_old) (Nat.le_succ s.heap.objs.size) ⟨hlen, out, ep, vals_of_ints k1, he'⟩, rfl, q (List.map SrtO.iv out) (s.heap.objs.size + 1) k2 k3 (HOk.fresh I.hok (Nat.le_succ s.heap.objs.size))⟩


/-! ### the befores that are handed to a bare web -/
theorem lcg_sq {K : PySem.W.Frag} {a : Addr} {xs : List V} {g : TG} {tt : TT} {te : TE} {vs : List Nat} {σ : L2.St} {H1 : Hp} {Q : VK} (hq : SqAt H1 a xs) (Pv : Addr → Nat → Hp → Prop) (h0 : ∀ D, H1 D = none → Pv D 0 (upd H1 D (.lst []))) (hl : ∀ D i H, H1 D = none → Pv D i H → Evl.Ex H1 H)
    (hs : ∀ D i x H, H1 D = none → xs[i]? = some x → Pv D i H → g x (wipe σ vs) H fun σ2 H2 => wipe σ2 vs = wipe σ vs ∧ tt σ2 H2 fun b H3 =>
      if b = true then te σ2 H3 fun y H4 => ∃ acc, H4 D = some (.lst acc) ∧ acc.length < sizeLine ∧ Pv D (i + 1) (upd H4 D (.lst (acc ++ [y]))) else Pv D (i + 1) H3) (hd : ∀ D H, H1 D = none → Pv D xs.length H → Q (.ref D) H) :
    (∃ xs, SqL K H1 a xs) ∧ LcG (Itl K a) g tt te vs σ Q H1 ∨ (∃ xs, SqT K H1 a xs) ∧ LcG (Itt K a) g tt te vs σ Q H1 := by
  rcases hq with q | q
  · exact .inr ⟨⟨_, SqT.of q⟩, lcg_tup Pv h0 (fun D i H hD hi h => SqT.of (hl D i H hD h _ _ q)) hs hd⟩
  · exact .inl ⟨⟨_, SqL.of q⟩, lcg_list Pv h0 (fun D i H hD hi h => SqL.of (hl D i H hD h _ _ q)) hs hd⟩
theorem rep_snoc (i : Nat) : (List.replicate i true).map V.bl ++ [V.bl true] = (List.replicate (i + 1) true).map V.bl := by
  rw [List.map_replicate, List.map_replicate, List.replicate_succ']
theorem flat_nats (b : List Nat) : ((nI b).map V.int).all flatV = true := by
  rw [List.all_map]
  exact List.all_eq_true.mpr fun _ _ => rfl
theorem inV_nat {n : Nat} {b : List Nat} (h : n ∉ b) : inV (.int n) ((nI b).map V.int) = false := by
  unfold inV
  refine List.any_eq_false.mpr fun x hx => ?_
  obtain ⟨i, hi⟩ := List.mem_iff_getElem?.mp hx
  obtain ⟨m, hm, rfl⟩ := nat_at hi
  have hm2 := List.mem_of_getElem? hm
  intro q
  have e : (m : Int) = (n : Int) := by simpa [eqV] using q
  exact h (by rw [show n = m by omega]; exact hm2)
theorem nI_nodup {b : List Nat} (h : b.Nodup) : (nI b).Nodup := by
  rw [List.Nodup, List.pairwise_map]
  exact h.imp fun q z => q (by exact_mod_cast z)
section
variable {P : Program} {w : World} {K : PySem.W.Frag} {mg : Str → Option Value} {base : Heap} {a : Ad}
def spBL : Sp := fun vs H Q _ => ∃ (q : Addr) (pl m : Nat) (b : List Nat), vs = [.ref q, .int pl, .int m] ∧ SqAt H q ((nI b).map V.int) ∧ (∀ x ∈ b, x < m) ∧ pl ∉ b ∧ b.Nodup ∧ b.length < 64 ∧ ∀ H', Evl.Ex H H' → Q (.bl true) H'
def ivBL (H : Hp) (D : Addr) (i : Nat) (H' : Hp) : Prop := Evl.Ex H H' ∧ H' D = some (.lst ((List.replicate i true).map V.bl))
theorem ok_is_before_list (T : Txt K mg a) : FnOk P w K mg base CX0 3 a.f_is_before_list a.d_is_before_list ["thing", "place", "many"] spBL := by
  refine T.F_is_before_list.ok sc_is_before_list (fun vs H Q E h => ?_) (fun cdv A outer s H vs Q E hr h => ?_)
  · obtain ⟨_, _, _, _, rfl, _⟩ := h
    rfl
  · obtain ⟨q, pl, m, b, rfl, hq, hm, hp, hn, hl, k⟩ := h
    refine ⟨_, (pss_cons (ps_if (PW.pt (pw_or (pt_not (pt_val (pe_call (ok_is_sequence T) (hr.mono (by decide)) rfl T.m_is_sequence T.F_is_sequence.kp T.b_is_sequence .nil pass0 (pa_cons (pv 0) pa_nil)))) (pw_or1 (pt_not (pt_val (pe_callB (cr_all rfl) (by rfl) T.z_all (by decide +kernel) (pa_cons (pe_lc (own := [("before", 3)]) (g := gName 3) (tt := tYes) rfl sc_is_before_list.nd (pi_or (pi_list (pv 0)) (pi_tup (pv 0))) (blkOk_by (own := [("before", 3)]) (N := ["thing", "place", "many", "before"]) (sc := defScope s_is_before_list) (by decide +kernel)) (fun _ _ _ _ _ => pg_name (i := 3) sc_is_before_list.nd rfl (Or.inl rfl)) (fun _ _ _ _ _ => pts_nil) (fun _ _ _ _ _ => (pe_call (ok_is_within T) (hr.mono (by decide)) rfl T.m_is_within T.F_is_within.kp T.b_is_within .nil pass0 (pa_cons (pv 3) (pa_cons pe_int (pa_cons (pe_op op_sub (pv 2) pe_int) pa_nil)))))) pa_nil))))))) (pss_one (ps_ret pe_bl))
    pss_nil)
  (pss_one (ps_ret (pe_and (pe_cmpR op_notIn_seq (pv 1) (pv 0) (by rfl)) (pe_one (pe_cmpR op_eq (pe_callB call_lenS (by rfl) T.z_len (by decide +kernel) (pa_cons (pe_callTy (call_setIs rfl) (by rfl) T.z_set (by decide +kernel) (pa_cons (pv 0) pa_nil)) pa_nil)) (pe_callB call_len_seq (by rfl) T.z_len (by decide +kernel) (pa_cons (pv 0) pa_nil)) (nomark _))))))), ?_⟩
    walk_at "sm"
    refine ⟨.ref q, rfl, hq.plain, fun H1 e1 => ⟨_, rfl, iteF ?_⟩⟩
    have hq1 := hq.go e1
    refine lcg_sq (xs := (nI b).map V.int) hq1 (ivBL H1) (fun D hD => ⟨Evl.Ex.new hD, upd_same⟩) (fun D i HX hD h => h.1) ?_ ?_
    · rintro D i x HX hD hi ⟨f1, f2⟩
      obtain ⟨n, hn1, rfl⟩ := nat_at hi
      walk_at "sm"
      have nm := hm n (List.mem_of_getElem? hn1)
      have li := (List.getElem?_eq_some_iff.mp hn1).1
      refine ⟨.int n, 0, (m : Int) - 1, rfl, plain_int, _, f2, Nat.lt_of_le_of_lt (show _ ≤ 100 by rw [List.length_map, List.length_replicate]; omega) (by decide), f1.mut hD, ?_⟩
      rw [upd_same, show wiB (.int (n : Int)) 0 ((m : Int) - 1) = true from (by show (decide ((0 : Int) ≤ (n : Int)) && decide ((n : Int) ≤ (m : Int) - 1)) = true; rw [decide_eq_true (show (0 : Int) ≤ (n : Int) by omega), decide_eq_true (show (n : Int) ≤ (m : Int) - 1 by omega)]; rfl), rep_snoc]
    · rintro D HX hD ⟨f1, f2⟩
      walk_at "sm"
      have hq2 := hq1.go f1
      refine ⟨D, _, rfl, SqL.of f2, _, rfl, ?_⟩
      rw [show (List.replicate ((nI b).map V.int).length true).all id = true from List.all_eq_true.mpr fun x hx => (List.mem_replicate.mp hx).2]
      refine iteF ?_
      have fin : rSetI K w [V.ref q] HX fun x H1 => ∃ a_1, x = V.ref a_1 ∧ ∃ x x_1, H1 a_1 = some (SetO w a_1 x x_1) ∧ ∃ x, (SqL K H1 q x ∨ SqT K H1 q x) ∧ Q (V.bl (decide ((x_1 : Int) = (x.length : Int)))) H1 := by
        refine ⟨q, nI b, rfl, hq2.sq, by rw [List.length_map]; exact hl, fun p2 c hc hcn hp2 => ⟨p2, rfl, _, c, upd_same, _, (hq2.go (Evl.Ex.new hp2)).sq, ?_⟩⟩
        rw [decide_eq_true (by rw [hcn.mpr (nI_nodup hn), nI_len, List.length_map])]
        exact k _ ((e1.trans f1).trans (Evl.Ex.new hp2))
      have nin : inV (.int pl) ((nI b).map V.int) = false := inV_nat hp
      rcases hq2 with g | g
      · exact ni_tup (SqT.of g) rfl (flat_nats b) ⟨_, rfl, by rw [nin]; exact iteT fin⟩
      · exact ⟨q, _, rfl, .inl (SqL.of g), rfl, flat_nats b, _, rfl, by rw [nin]; exact iteT fin⟩
end


/-! ### the errors of webs and bare webs; rules inside a comprehension -/
section
variable {P : Program} {w : World} {K : PySem.W.Frag} {mg : Str → Option Value} {base : Heap} {a : Ad}
theorem ok_BadBare_init (T : Txt K mg a) : FnOk P w K mg base CX0 1 a.f_BadBare___init__ a.d_BadBare___init__ ["self", "place", "what"] (spInit2 a.c_BadBare "place" "what") := by
  refine T.F_BadBare___init__.ok sc_BadBare___init__ (fun vs H Q E h => ?_) (fun cdv A outer s H vs Q E hr h => ?_)
  · obtain ⟨e, x, y, rfl, _⟩ := h
    rfl
  · obtain ⟨e, x, y, rfl, he, k⟩ := h
    refine ⟨_, pss_one (ps_asg (pe_tup (pa_cons (pv 1) (pa_cons (pv 2) pa_nil))) (pg_tup rfl (pgs_cons (pg_ost (pv 0)) (pgs_cons (pg_ost (pv 0)) pgs_nil)))), ?_⟩
    refine ⟨_, rfl, _, rfl, (by show 2 ≤ sizeLine; decide), fun t ht => ?_⟩
    have net : e ≠ t := ne_of_none he ht
    refine ⟨t, _, rfl, .inl (.inl upd_same), rfl, _, _, rfl, _, rfl, e, a.c_BadBare, rfl, T.x_BadBare, T.xn_BadBare_place, .inl ⟨by rw [upd_ne net]; exact he, fun dx hdx hne => ?_⟩⟩
    have ndt : dx ≠ t := fun q => by rw [q, upd_same] at hdx; cases hdx
    have hd0 : H dx = none := by rw [upd_ne ndt] at hdx; exact hdx
    refine ⟨_, _, rfl, _, rfl, e, a.c_BadBare, rfl, T.x_BadBare, T.xn_BadBare_what, .inr ⟨dx, [("place", x)], upd_same, by rw [upd_ne hne, upd_same], (by show 1 ≤ 900; omega), rfl, ?_⟩⟩
    refine k dx _ hd0 hne (fun b o nb hb => ?_) (by rw [upd_ne (Ne.symm hne), upd_same]) upd_same
    rw [upd_ne (ne_of_none hb hd0), upd_ne nb, upd_ne (ne_of_none hb hd0), upd_ne (ne_of_none hb ht)]
    exact hb
end
theorem cr_sortedI_b {X : Cx} {s : Shared} {H : Hp} {scope : Scope} {env : Env} {fp : List Addr} : CallR (X.blk s H scope env fp) (.builtin "sorted") (rSortedI X.K) := cr_sortedI
theorem cr_sortedIT_b {X : Cx} {s : Shared} {H : Hp} {scope : Scope} {env : Env} {fp : List Addr} : CallR (X.blk s H scope env fp) (.builtin "sorted") (rSortedIT X.K) := cr_sortedIT
theorem call_len_seq_b {X : Cx} {s : Shared} {H : Hp} {scope : Scope} {env : Env} {fp : List Addr} : CallR (X.blk s H scope env fp) (.builtin "len") (fun xs H Q => ∃ p ys, xs = [.ref p] ∧ (SqL X.K H p ys ∨ SqT X.K H p ys) ∧ Q (.int ys.length) H) := call_len_seq
theorem call_tuple_of_b {X : Cx} {s : Shared} {H : Hp} {scope : Scope} {env : Env} {fp : List Addr} : CallR (X.blk s H scope env fp) (.type "tuple") (fun xs H Q => ∃ p ys, xs = [.ref p] ∧ ((SqL X.K H p ys ∧ ∀ l, H l = none → Q (.ref l) (upd H l (.tup ys))) ∨ (SqT X.K H p ys ∧ Q (.ref p) H))) := call_tuple_of
/-- a walk over enumerate(what stands in slot n), a list or a tuple -/
theorem for_sqE {K : PySem.W.Frag} {n : Nat} {p : Addr} {xs : List V} {g : TG} {tb : TS} {D : Ends} {σ : L2.St} {H : Hp} (hq : SqAt H p xs) (hv : σ[n]? = some (some (.ref p))) (Pv : Nat → L2.St → Hp → Prop) (h0 : Pv 0 σ H) (he : ∀ i σ HX, Pv i σ HX → Evl.Ex H HX)
    (hs : ∀ i σ HX T y, xs[i]? = some y → Pv i σ HX → HX T = none → g (.ref T) σ (upd HX T (.tup [.int (i : Nat), y])) fun σ2 H2 => tb { D with nx := Pv (i + 1), ct := Pv (i + 1), bk := D.nx } σ2 H2) (hd : ∀ σ HX, Pv xs.length σ HX → D.nx σ HX) :
    tFor (fun σ H R => iEnum K (tCons (tVar n) tNil) σ H R ∨ iEnumT K (tCons (tVar n) tNil) σ H R) g tb D σ H := by
  rcases hq with q | q
  · refine .inr ⟨_, hv, p, xs, rfl, SqT.of q, for_en (n := xs.length) Pv h0 (fun i σ HX hi h => ⟨xs, xs[i], SqT.of (he _ _ _ h _ _ q), List.getElem?_eq_getElem hi⟩) (fun σ HX h => ⟨xs, SqT.of (he _ _ _ h _ _ q), rfl⟩) ?_ hd⟩
    rintro i σ HX x HY hi h ⟨Tt, y, rfl, hT, rfl, hy⟩
    exact hs i σ HX Tt y (hy xs (SqT.of (he _ _ _ h _ _ q))) h hT
  · refine .inl ⟨_, hv, p, xs, rfl, SqL.of q, for_en (n := xs.length) Pv h0 (fun i σ HX hi h => ⟨xs, xs[i], SqL.of (he _ _ _ h _ _ q), List.getElem?_eq_getElem hi⟩) (fun σ HX h => ⟨xs, SqL.of (he _ _ _ h _ _ q), Nat.le_refl _⟩) ?_ hd⟩
    rintro i σ HX x HY hi h ⟨Tt, y, rfl, hT, rfl, hy⟩
    exact hs i σ HX Tt y (hy xs (SqL.of (he _ _ _ h _ _ q))) h hT
/-- the same over enumerate(a tuple) alone is pi_enumT's; a comprehension over a list or a tuple in slot n -/
theorem lcg_sqV {K : PySem.W.Frag} {n : Nat} {a : Addr} {xs : List V} {g : TG} {tt : TT} {te : TE} {vs : List Nat} {σ : L2.St} {H1 : Hp} {Q : VK} (hv : σ[n]? = some (some (.ref a))) (hq : SqAt H1 a xs) (Pv : Addr → Nat → Hp → Prop) (h0 : ∀ D, H1 D = none → Pv D 0 (upd H1 D (.lst []))) (hl : ∀ D i H, H1 D = none → Pv D i H → Evl.Ex H1 H)
    (hs : ∀ D i x H, H1 D = none → xs[i]? = some x → Pv D i H → g x (wipe σ vs) H fun σ2 H2 => wipe σ2 vs = wipe σ vs ∧ tt σ2 H2 fun b H3 =>
      if b = true then te σ2 H3 fun y H4 => ∃ acc, H4 D = some (.lst acc) ∧ acc.length < sizeLine ∧ Pv D (i + 1) (upd H4 D (.lst (acc ++ [y]))) else Pv D (i + 1) H3) (hd : ∀ D H, H1 D = none → Pv D xs.length H → Q (.ref D) H) :
    (∃ v, σ[n]? = some (some v) ∧ ∃ a, v = V.ref a ∧ (∃ xs, SqL K H1 a xs) ∧ LcG (Itl K a) g tt te vs σ Q H1) ∨ ∃ v, σ[n]? = some (some v) ∧ ∃ a, v = V.ref a ∧ (∃ xs, SqT K H1 a xs) ∧ LcG (Itt K a) g tt te vs σ Q H1 :=
  (lcg_sq (K := K) hq Pv h0 hl hs hd).imp (fun ⟨h1, h2⟩ => ⟨_, hv, a, rfl, h1, h2⟩) fun ⟨h1, h2⟩ => ⟨_, hv, a, rfl, h1, h2⟩
/-! ### checked_befores -/
/-- befores as they are handed in: places of the web, each once, in any order -/
def BefG (bs : List (List Nat)) : Prop := 1 ≤ bs.length ∧ bs.length ≤ 200 ∧ ∀ (i : Nat) (b : List Nat), bs[i]? = some b → b.Nodup ∧ (∀ x ∈ b, x < bs.length ∧ x ≠ i) ∧ b.length ≤ 60
/-- as they are kept: ascending -/
def BefOk (bs : List (List Nat)) : Prop := 1 ≤ bs.length ∧ bs.length ≤ 200 ∧ ∀ (i : Nat) (b : List Nat), bs[i]? = some b → b.Pairwise (· < ·) ∧ (∀ x ∈ b, x < bs.length ∧ x ≠ i) ∧ b.length ≤ 60
def sb (b : List Nat) : List Nat := (List.range 200).filter fun k => decide (k ∈ b)
theorem sb_mem {b : List Nat} (h : ∀ x ∈ b, x < 200) {k : Nat} : k ∈ sb b ↔ k ∈ b := by
  unfold sb
  rw [List.mem_filter, List.mem_range, decide_eq_true_eq]
  exact ⟨fun q => q.2, fun q => ⟨h _ q, q⟩⟩
theorem sb_lt (b : List Nat) : (sb b).Pairwise (· < ·) := List.Pairwise.filter _ (range_lt 200)
theorem sb_uniq {b : List Nat} {ns : List Int} (h : ∀ x ∈ b, x < 200) (nd : b.Nodup) (pm : ns.Perm (nI b)) (pw : ns.Pairwise (· ≤ ·)) : ns = nI (sb b) := by
  have nd2 : ns.Nodup := (pm.nodup_iff).mpr (nI_nodup nd)
  have lt : ns.Pairwise (· < ·) := by
    have := List.pairwise_and_iff.mpr ⟨pw, nd2⟩
    exact this.imp fun q => by omega
  refine asc_uniq lt (ints_lt (sb_lt b)) fun k => ?_
  rw [pm.mem_iff, mem_ints, mem_ints]
  exact ⟨fun ⟨n, h1, h2⟩ => ⟨n, (sb_mem h).mpr h1, h2⟩, fun ⟨n, h1, h2⟩ => ⟨n, (sb_mem h).mp h1, h2⟩⟩
theorem asc_self {b : List Nat} (h : ∀ x ∈ b, x < 200) (a : b.Pairwise (· < ·)) : sb b = b := by
  have e := asc_uniq (ints_lt (sb_lt b)) (ints_lt a) fun k => by
    rw [mem_ints, mem_ints]
    exact ⟨fun ⟨n, h1, h2⟩ => ⟨n, (sb_mem h).mp h1, h2⟩, fun ⟨n, h1, h2⟩ => ⟨n, (sb_mem h).mpr h1, h2⟩⟩
  have inj : ∀ {l m : List Nat}, nI l = nI m → l = m := fun {l m} q => List.map_inj_right (fun x y z => by exact_mod_cast z) |>.mp q
  exact inj e
theorem sb_len (b : List Nat) : (sb b).length ≤ b.length := by
  have nd : (sb b).Nodup := (sb_lt b).imp fun h => Nat.ne_of_lt h
  refine nd.length_le_of_subset fun x hx => ?_
  unfold sb at hx
  rw [List.mem_filter, decide_eq_true_eq] at hx
  exact hx.2
theorem BefG.ok {bs : List (List Nat)} (h : BefG bs) : BefOk (bs.map sb) := by
  refine ⟨by rw [List.length_map]; exact h.1, by rw [List.length_map]; exact h.2.1, fun i b hb => ?_⟩
  rw [List.getElem?_map] at hb
  cases e : bs[i]? with
  | none => rw [e] at hb; cases hb
  | some c =>
    rw [e] at hb
    cases hb
    obtain ⟨h1, h2, h3⟩ := h.2.2 i c e
    have l2 := h.2.1
    have lt : ∀ x ∈ c, x < 200 := fun x hx => by have := (h2 x hx).1; omega
    refine ⟨sb_lt c, fun x hx => ?_, Nat.le_trans (sb_len c) h3⟩
    rw [List.length_map]
    exact h2 x ((sb_mem lt).mp hx)
theorem BefOk.g {bs : List (List Nat)} (h : BefOk bs) : BefG bs ∧ bs.map sb = bs := by
  refine ⟨⟨h.1, h.2.1, fun i b hb => ?_⟩, ?_⟩
  · obtain ⟨h1, h2, h3⟩ := h.2.2 i b hb
    exact ⟨h1.imp fun z => Nat.ne_of_lt z, h2, h3⟩
  · refine (List.map_congr_left fun b hb => ?_).trans (List.map_id bs)
    obtain ⟨i, hi⟩ := List.mem_iff_getElem?.mp hb
    obtain ⟨h1, h2, _⟩ := h.2.2 i b hi
    have l2 := h.2.1
    exact asc_self (fun x hx => by have := (h2 x hx).1; omega) h1
/-- rows that are lists or tuples -/
def rowG (H : Hp) (x : V) (b : List Nat) : Prop := ∃ q, x = .ref q ∧ SqAt H q ((nI b).map V.int)
def ArrG (H : Hp) (p : Addr) (bs : List (List Nat)) : Prop := ∃ xs, SqAt H p xs ∧ Paired (rowG H) xs bs
theorem ArrG.go {H H' : Hp} {p : Addr} {bs : List (List Nat)} (e : Kp H H') (h : ArrG H p bs) : ArrG H' p bs := by
  obtain ⟨xs, h1, h2⟩ := h
  exact ⟨xs, h1.kp e, Paired.mapP h2 fun _ _ ⟨q, z1, z2⟩ => ⟨q, z1, z2.kp e⟩⟩
def ArrT (H : Hp) (p : Addr) (bs : List (List Nat)) : Prop := ∃ xs, H p = some (.tup xs) ∧ Paired (rowR H) xs bs
theorem ArrT.arr {H : Hp} {p : Addr} {bs : List (List Nat)} (h : ArrT H p bs) : Arr H p bs := by
  obtain ⟨xs, h1, h2⟩ := h
  exact ⟨xs, .inl h1, h2⟩
theorem ArrT.go {H H' : Hp} {p : Addr} {bs : List (List Nat)} (e : Kp H H') (h : ArrT H p bs) : ArrT H' p bs := by
  obtain ⟨xs, h1, h2⟩ := h
  exact ⟨xs, e.1 _ _ h1, Paired.mapP h2 fun _ _ z => z.go e⟩
section
variable {P : Program} {w : World} {K : PySem.W.Frag} {mg : Str → Option Value} {base : Heap} {a : Ad}
def spCB : Sp := fun vs H Q _ => ∃ (p : Addr) (bs : List (List Nat)), vs = [.ref p] ∧ ArrG H p bs ∧ BefG bs ∧ ∀ q H', Evl.Ex H H' → ArrT H' q (bs.map sb) → Q (.ref q) H'
def ivCB (H : Hp) (p : Addr) : Nat → L2.St → Hp → Prop := fun i σ H' => ∃ v1 v2, σ = [some (.ref p), v1, v2] ∧ Evl.Ex H H'
def ivCC (H : Hp) (bs : List (List Nat)) (D : Addr) (i : Nat) (H' : Hp) : Prop := Evl.Ex H H' ∧ ∃ xs, H' D = some (.lst xs) ∧ Paired (rowR H') xs ((bs.take i).map sb)
theorem ok_checked_befores (T : Txt K mg a) : FnOk P w K mg base (L2.CX P w) 4 a.f_checked_befores a.d_checked_befores ["befores"] spCB := by
  refine T.F_checked_befores.okX sc_checked_befores (fun vs H Q E h => ?_) (fun cdv A outer s H vs Q E hr h => ?_)
  · obtain ⟨_, _, rfl, _⟩ := h
    rfl
  · obtain ⟨p, bs, rfl, ha, hb, k⟩ := h
    obtain ⟨xs, hp, hx⟩ := ha
    have lx := paired_len hx
    refine ⟨_, (pss_cons (ps_if (PW.pt (pw_or (pt_not (pt_val (pe_call (ok_is_sequence T) (hr.mono (by decide)) rfl T.m_is_sequence T.F_is_sequence.kp T.b_is_sequence .nil pass0 (pa_cons (pv 0) pa_nil)))) (pw_or1 (pt_not (pt_chain op_le op_le pe_int (pe_callB call_len_seq (by rfl) T.z_len (by decide +kernel) (pa_cons (pv 0) pa_nil)) (pe_glob rfl T.g_MOST_PLACES.choose_spec.1 T.g_MOST_PLACES.choose_spec.2)))))) (pss_one (ps_raise rfl (takes_of rfl rfl rfl rfl) (pmk_oex T.x_BadBare T.xi_BadBare T.xt_BadBare (ok_BadBare_init T) (hr.mono (by decide)) T.b_BadBare___init__ .nil pass0 rfl T.m_BadBare (pa_cons (pe_un un_neg pe_int) (pa_cons pe_str pa_nil)))))
    pss_nil)
  (pss_cons (ps_for (passes_of rfl) rfl (pi_or (pi_enum (by rfl) T.z_enumerate (pa_cons (pv 0) pa_nil)) (pi_enumT (by rfl) T.z_enumerate (pa_cons (pv 0) pa_nil))) (pg_tup rfl (pgs_cons (pg_name (i := 1) sc_checked_befores.nd rfl (by first | exact Or.inl rfl | exact Or.inr rfl)) (pgs_cons (pg_name (i := 2) sc_checked_befores.nd rfl (by first | exact Or.inl rfl | exact Or.inr rfl)) pgs_nil))) (pss_one (ps_if (pt_not (pt_val (pe_call (ok_is_before_list T) (hr.mono (by decide)) rfl T.m_is_before_list T.F_is_before_list.kp T.b_is_before_list .nil pass0 (pa_cons (pv 2) (pa_cons (pv 1) (pa_cons (pe_callB call_len_seq (by rfl) T.z_len (by decide +kernel) (pa_cons (pv 0) pa_nil)) pa_nil)))))) (pss_one (ps_raise rfl (takes_of rfl rfl rfl rfl) (pmk_oex T.x_BadBare T.xi_BadBare T.xt_BadBare (ok_BadBare_init T) (hr.mono (by decide)) T.b_BadBare___init__ .nil pass0 rfl T.m_BadBare (pa_cons (pv 1) (pa_cons pe_str pa_nil)))))
    pss_nil)))
  (pss_one (ps_ret (pe_callTy call_tuple_of (by rfl) T.z_tuple (by decide +kernel) (pa_cons (pe_lc (own := [("listed", 2)]) (g := gName 2) (tt := tYes) rfl sc_checked_befores.nd (pi_or (pi_list (pv 0)) (pi_tup (pv 0))) (blkOk_by (own := [("listed", 2)]) (N := ["befores", "place", "listed"]) (sc := defScope s_checked_befores) (by decide +kernel)) (fun _ _ _ _ _ => pg_name (i := 2) sc_checked_befores.nd rfl (Or.inl rfl)) (fun _ _ _ _ _ => pts_nil) (fun _ _ _ _ _ => (pe_callTy call_tuple_of_b (by rfl) T.z_tuple (by decide +kernel) (pa_cons (pe_callB (CallR.or cr_sortedI_b cr_sortedIT_b) (by rfl) T.z_sorted (by decide +kernel) (pa_cons (pv 2) pa_nil)) pa_nil)))) pa_nil)))))), ?_⟩
    walk_at "sm"
    refine ⟨.ref p, rfl, hp.plain, fun H1 e1 => ⟨_, rfl, iteF ?_⟩⟩
    have hp1 := hp.go e1
    have ll : (xs.length : Int) = (bs.length : Int) := by rw [lx]
    refine ⟨xs, hp1.sq, iteP (by have := hb.1; omega) (iteF' (by rw [decide_eq_true (by have := hb.2.1; omega)]; rfl) ?_)⟩
    refine for_sqE (xs := xs) hp1 rfl (ivCB H1 p) ⟨none, none, rfl, Evl.Ex.refl _⟩ (fun i σ HX ⟨_, _, _, h⟩ => h) ?_ ?_
    · rintro i σ HX Tt y hy ⟨v1, v2, rfl, f1⟩ hT
      have eT := Evl.Ex.new (o := .tup [.int (i : Nat), y]) hT
      obtain ⟨b, hb1, q, rfl, hq⟩ := paired_at hx hy
      have f2 := (e1.trans f1).trans eT
      obtain ⟨c1, c2, c3⟩ := hb.2.2 i b hb1
      have hi := (List.getElem?_eq_some_iff.mp hb1).1
      walk_at "sm"
      refine ⟨_, SqT.of upd_same, rfl, _, _, rfl, _, _, rfl, rfl, xs, (hp.go f2).sq, q, i, bs.length, b, by rw [ll], hq.go f2, fun x hx2 => (c2 x hx2).1, fun z => (c2 _ z).2 rfl, c1, by omega, fun H' e' => ⟨_, rfl, iteF ⟨_, _, rfl, (f1.trans eT).trans e'⟩⟩⟩
    · rintro σ HX ⟨v1, v2, rfl, f1⟩
      walk_at "sm"
      have f2 := e1.trans f1
      refine lcg_sq (xs := xs) (hp.go f2) (ivCC HX bs) (fun D hD => ⟨Evl.Ex.new hD, [], upd_same, .nil⟩) (fun D i HY hD h => h.1) ?_ ?_
      · rintro D i y HY hD hy ⟨g1, ys, g2, g3⟩
        obtain ⟨b, hb1, q, rfl, hq⟩ := paired_at hx hy
        obtain ⟨c1, c2, c3⟩ := hb.2.2 i b hb1
        have hqY := hq.go (f2.trans g1)
        walk_at "sm"
        have li := (List.getElem?_eq_some_iff.mp hb1).1
        have ly : ys.length ≤ 200 := by rw [paired_len g3, List.length_map, List.length_take]; have := hb.2.1; exact Nat.le_trans (Nat.min_le_right _ _) this
        have fin : ∀ (H5 : Hp) (l : Addr), Evl.Ex HY H5 → H5 l = none → ∃ acc, upd H5 l (HO.tup ((nI (sb b)).map V.int)) D = some (HO.lst acc) ∧ acc.length < sizeLine ∧ ivCC HX bs D (i + 1) (upd (upd H5 l (HO.tup ((nI (sb b)).map V.int))) D (HO.lst (acc ++ [V.ref l]))) := by
          intro H5 l e5 hl
          have e6 := e5.trans (Evl.Ex.new (o := .tup ((nI (sb b)).map V.int)) hl)
          refine ⟨ys, e6 _ _ g2, Nat.lt_of_le_of_lt ly (by decide), Evl.Ex.mut (g1.trans e6) hD, _, upd_same, ?_⟩
          have hl6 : upd H5 l (HO.tup ((nI (sb b)).map V.int)) l = some (HO.tup ((nI (sb b)).map V.int)) := upd_same
          have tk : ∀ c zs, upd H5 l (HO.tup ((nI (sb b)).map V.int)) c = some (.tup zs) → upd (upd H5 l (HO.tup ((nI (sb b)).map V.int))) D (HO.lst (ys ++ [V.ref l])) c = some (.tup zs) := fun c zs h => by
            rw [upd_ne (fun z => by rw [z, e6 _ _ g2] at h; cases h)]
            exact h
          rw [List.take_add_one, hb1, List.map_append]
          refine Paired.snoc ⟨l, rfl, tk _ _ hl6⟩ (Paired.mapP g3 fun x c z => ?_)
          obtain ⟨qq, z1, z2⟩ := z
          exact ⟨qq, z1, tk _ _ (e6 _ _ z2)⟩
        have l2 := hb.2.1
        rcases hqY with hqY | hqY
        · refine .inr ⟨q, nI b, rfl, SqT.of hqY, fun ns p1 pm pw hp1 => ⟨p1, rfl, _, .inl ⟨SqL.of upd_same, fun l hl => ?_⟩⟩⟩
          have en : ns = nI (sb b) := sb_uniq (fun x hx => by have := (c2 x hx).1; omega) c1 pm pw
          subst en
          exact fin _ l (Evl.Ex.new hp1) hl
        · refine .inl ⟨q, nI b, rfl, SqL.of hqY, fun ns p1 pm pw hp1 => ⟨p1, rfl, _, .inl ⟨SqL.of upd_same, fun l hl => ?_⟩⟩⟩
          have en : ns = nI (sb b) := sb_uniq (fun x hx => by have := (c2 x hx).1; omega) c1 pm pw
          subst en
          exact fin _ l (Evl.Ex.new hp1) hl
      · rintro D HY hD ⟨g1, ys, g2, g3⟩
        walk_at "sm"
        rw [lx, List.take_of_length_le (Nat.le_refl _)] at g3
        refine ⟨ys, .inl ⟨SqL.of g2, fun l hl => k l _ ((f2.trans g1).trans (Evl.Ex.new hl)) ⟨ys, upd_same, Paired.mapP g3 fun x c z => z.go (Kp.ex (Evl.Ex.new hl))⟩⟩⟩
end


/-! ### afters_of -/
def row (bs : List (List Nat)) (p : Nat) : List Nat := (bs[p]?).getD []
def aftUp (bs : List (List Nat)) (i q : Nat) : List Nat := (List.range i).filter fun p => decide (q ∈ row bs p)
def aft (bs : List (List Nat)) (q : Nat) : List Nat := aftUp bs bs.length q
def afts (bs : List (List Nat)) : List (List Nat) := (List.range bs.length).map (aft bs)
theorem aftUp_succ (bs : List (List Nat)) (i q : Nat) : aftUp bs (i + 1) q = aftUp bs i q ++ if q ∈ row bs i then [i] else [] := by
  unfold aftUp
  rw [List.range_succ, List.filter_append, List.filter_cons, List.filter_nil]
  by_cases h : q ∈ row bs i <;> simp [h]
theorem aftUp_len (bs : List (List Nat)) (i q : Nat) : (aftUp bs i q).length ≤ i := Nat.le_trans (List.length_filter_le _ _) (Nat.le_of_eq (List.length_range ..))
theorem take_mem {b : List Nat} {j n x : Nat} (h : b[j]? = some n) : x ∈ b.take (j + 1) ↔ x ∈ b.take j ∨ x = n := by
  rw [List.take_add_one, h, List.mem_append]
  simp
theorem take_not {b : List Nat} {j n : Nat} (h : b[j]? = some n) (nd : b.Nodup) : n ∉ b.take j := fun q => by
  obtain ⟨k, hk⟩ := List.mem_iff_getElem?.mp q
  have kj : k < j := by
    have := (List.getElem?_eq_some_iff.mp hk).1
    rw [List.length_take] at this
    omega
  rw [List.getElem?_take_of_lt kj] at hk
  obtain ⟨i1, j1⟩ := List.getElem?_eq_some_iff.mp hk
  obtain ⟨i2, j2⟩ := List.getElem?_eq_some_iff.mp h
  have := (List.getElem_inj nd).mp (j1.trans j2.symm)
  omega
theorem row_of {bs : List (List Nat)} {i : Nat} {b : List Nat} (h : bs[i]? = some b) : row bs i = b := by
  unfold row
  rw [h]
  rfl
theorem for_tupE {K : PySem.W.Frag} {n : Nat} {p : Addr} {xs : List V} {g : TG} {tb : TS} {D : Ends} {σ : L2.St} {H : Hp} (hv : σ[n]? = some (some (.ref p))) (Pv : Nat → L2.St → Hp → Prop) (h0 : Pv 0 σ H) (he : ∀ i σ HX, Pv i σ HX → HX p = some (.tup xs))
    (hs : ∀ i σ HX T y, xs[i]? = some y → Pv i σ HX → HX T = none → g (.ref T) σ (upd HX T (.tup [.int (i : Nat), y])) fun σ2 H2 => tb { D with nx := Pv (i + 1), ct := Pv (i + 1), bk := D.nx } σ2 H2) (hd : ∀ σ HX, Pv xs.length σ HX → D.nx σ HX) :
    tFor (iEnumT K (tCons (tVar n) tNil)) g tb D σ H := by
  refine ⟨_, hv, p, xs, rfl, SqT.of (he _ _ _ h0), for_en (n := xs.length) Pv h0 (fun i σ HX hi h => ⟨xs, xs[i], SqT.of (he _ _ _ h), List.getElem?_eq_getElem hi⟩) (fun σ HX h => ⟨xs, SqT.of (he _ _ _ h), rfl⟩) ?_ hd⟩
  rintro i σ HX x HY hi h ⟨Tt, y, rfl, hT, rfl, hy⟩
  exact hs i σ HX Tt y (hy xs (SqT.of (he _ _ _ h))) h hT
section
variable {P : Program} {w : World} {K : PySem.W.Frag} {mg : Str → Option Value} {base : Heap} {a : Ad}
def AfAt (H : Hp) (l : Addr) (ls : List Addr) (f : Nat → List Nat) : Prop := H l = some (.lst (ls.map V.ref)) ∧ ls.Nodup ∧ l ∉ ls ∧ ∀ (q : Nat) (c : Addr), ls[q]? = some c → H c = some (.lst ((nI (f q)).map V.int))
def spAF : Sp := fun vs H Q _ => ∃ (p : Addr) (bs : List (List Nat)), vs = [.ref p] ∧ ArrT H p bs ∧ BefOk bs ∧ ∀ q H', Evl.Ex H H' → ArrT H' q (afts bs) → Q (.ref q) H'
theorem AfAt.push {H : Hp} {l c : Addr} {ls : List Addr} {f : Nat → List Nat} {q v : Nat} (h : AfAt H l ls f) (hc : ls[q]? = some c) : AfAt (upd H c (.lst ((nI (f q ++ [v])).map V.int))) l ls (fun x => if x = q then f x ++ [v] else f x) := by
  obtain ⟨h1, h2, h3, h4⟩ := h
  have hm := List.mem_of_getElem? hc
  refine ⟨by rw [upd_ne (fun z => h3 (by rw [z]; exact hm))]; exact h1, h2, h3, fun x d hd => ?_⟩
  by_cases e : x = q
  · subst e
    rw [hc] at hd
    cases hd
    show upd H c _ c = some (.lst ((nI (if x = x then f x ++ [v] else f x)).map V.int))
    rw [upd_same, if_pos rfl]
  · show upd H c _ d = some (.lst ((nI (if x = q then f x ++ [v] else f x)).map V.int))
    rw [upd_ne (fun z => ?_), if_neg e]
    · exact h4 x d hd
    · rw [z] at hd
      obtain ⟨i1, j1⟩ := List.getElem?_eq_some_iff.mp hd
      obtain ⟨i2, j2⟩ := List.getElem?_eq_some_iff.mp hc
      exact e ((List.getElem_inj h2).mp (j1.trans j2.symm))
theorem AfAt.same {H : Hp} {l : Addr} {ls : List Addr} {f g : Nat → List Nat} (h : AfAt H l ls f) (e : ∀ q, q < ls.length → f q = g q) : AfAt H l ls g :=
  ⟨h.1, h.2.1, h.2.2.1, fun q c hc => by rw [← e q (List.getElem?_eq_some_iff.mp hc).1]; exact h.2.2.2 q c hc⟩
theorem AfAt.ex {H H' : Hp} {l : Addr} {ls : List Addr} {f : Nat → List Nat} (e : Evl.Ex H H') (h : AfAt H l ls f) : AfAt H' l ls f := ⟨e _ _ h.1, h.2.1, h.2.2.1, fun q c hc => e _ _ (h.2.2.2 q c hc)⟩
def ivA0 (H : Hp) (D : Addr) (i : Nat) (H' : Hp) : Prop := Evl.Ex H H' ∧ ∃ ls, ls.length = i ∧ AfAt H' D ls (fun _ => []) ∧ ∀ c ∈ ls, H c = none
def ivA1 (H : Hp) (p l : Addr) (ls : List Addr) (bs : List (List Nat)) : Nat → L2.St → Hp → Prop := fun i σ H' => ∃ v2 v3 v4 v5, σ = [some (.ref p), some (.ref l), v2, v3, v4, v5] ∧ Evl.Ex H H' ∧ AfAt H' l ls (aftUp bs i)
def ivA2 (H : Hp) (p l q : Addr) (ls : List Addr) (bs : List (List Nat)) (i : Nat) (b : List Nat) : Nat → L2.St → Hp → Prop := fun j σ H' => ∃ v4 v5, σ = [some (.ref p), some (.ref l), some (.int (i : Nat)), some (.ref q), v4, v5] ∧ Evl.Ex H H' ∧ AfAt H' l ls (fun x => aftUp bs i x ++ if x ∈ b.take j then [i] else [])
def ivA3 (H : Hp) (bs : List (List Nat)) (D : Addr) (i : Nat) (H' : Hp) : Prop := Evl.Ex H H' ∧ ∃ xs, H' D = some (.lst xs) ∧ Paired (rowR H') xs ((afts bs).take i)
theorem ok_afters_of (T : Txt K mg a) : FnOk P w K mg base CX0 1 a.f_afters_of a.d_afters_of ["befores"] spAF := by
  refine T.F_afters_of.ok sc_afters_of (fun vs H Q E h => ?_) (fun cdv A outer s H vs Q E hr h => ?_)
  · obtain ⟨_, _, rfl, _⟩ := h
    rfl
  · obtain ⟨p, bs, rfl, ha, hb, k⟩ := h
    obtain ⟨xs, hp, hx⟩ := ha
    have lx := paired_len hx
    refine ⟨_, (pss_cons (ps_setLc (i := 1) (own := [("_", 5)]) (g := gName 5) (tt := tYes) rfl sc_afters_of.nd rfl rfl (sw_true rfl rfl rfl (by decide +kernel)) (pi_tup (pv 0)) (blkOk_by (own := [("_", 5)]) (N := ["befores", "afters", "place", "listed", "before", "_"]) (sc := defScope s_afters_of) (by decide +kernel)) (fun _ _ _ _ _ => pg_name (i := 5) sc_afters_of.nd rfl (Or.inl rfl)) (fun _ _ _ _ _ => pts_nil) (fun _ _ _ _ _ => (pe_lst pa_nil)))
  (pss_cons (ps_for PassesOwn.never rfl (pi_enumT (by rfl) T.z_enumerate (pa_cons (pv 0) pa_nil)) (pg_tup rfl (pgs_cons (pg_name (i := 2) sc_afters_of.nd rfl (by first | exact Or.inl rfl | exact Or.inr rfl)) (pgs_cons (pg_name (i := 3) sc_afters_of.nd rfl (by first | exact Or.inl rfl | exact Or.inr rfl)) pgs_nil))) (pss_one (ps_for PassesOwn.never rfl (pi_tup (pv 3)) (pg_name (i := 4) sc_afters_of.nd rfl (by first | exact Or.inl rfl | exact Or.inr rfl)) (pss_one (ps_expr (pe_bm PySem.F.plainAttrs_list PySem.F.slot_list_append PySem.F.type_list_append mt_append (pe_ix ix_list (pv 1) (pv 4) (fun _ _ => rfl)) (pa_cons (pv 2) pa_nil)))))))
  (pss_one (ps_ret (pe_callTy call_tuple_of (by rfl) T.z_tuple (by decide +kernel) (pa_cons (pe_lc (own := [("listed", 3)]) (g := gName 3) (tt := tYes) rfl sc_afters_of.nd (pi_list (pv 1)) (blkOk_by (own := [("listed", 3)]) (N := ["befores", "afters", "place", "listed", "before", "_"]) (sc := defScope s_afters_of) (by decide +kernel)) (fun _ _ _ _ _ => pg_name (i := 3) sc_afters_of.nd rfl (Or.inl rfl)) (fun _ _ _ _ _ => pts_nil) (fun _ _ _ _ _ => (pe_callTy call_tuple_of_b (by rfl) T.z_tuple (by decide +kernel) (pa_cons (pv 3) pa_nil)))) pa_nil)))))), ?_⟩
    walk_at "sm"
    have x0 : Evl.Ex H H := Evl.Ex.refl _
    refine ⟨⟨_, SqT.of hp⟩, lcg_tup (K := K) (a := p) (xs := xs) (ivA0 H) (fun D hD => ⟨Evl.Ex.new hD, [], rfl, ⟨upd_same, List.nodup_nil, List.not_mem_nil, fun q c h => by simp at h⟩, fun c h => by simp at h⟩) (fun D i HX hD hi h => SqT.of (h.1 _ _ hp)) ?_ ?_⟩
    · rintro D i x HX hD hi ⟨f1, ls, f2, f3, f4⟩
      walk_at "sm"
      have li := (List.getElem?_eq_some_iff.mp hi).1
      have lb := hb.2.1
      refine ⟨Nat.zero_le _, fun c hc => ?_⟩
      have eC := Evl.Ex.new (o := .lst []) hc
      refine ⟨_, eC _ _ f3.1, Nat.lt_of_le_of_lt (show _ ≤ 200 by rw [List.length_map]; omega) (by decide), Evl.Ex.mut (f1.trans eC) hD, ls ++ [c], by rw [List.length_append, f2]; rfl, ?_, ?_⟩
      · have hcc : upd HX c (.lst []) c = some (.lst []) := upd_same
        have nc : ∀ d ∈ ls, d ≠ c := fun d hd z => by
          obtain ⟨q, hq⟩ := List.mem_iff_getElem?.mp hd
          have := f3.2.2.2 q d hq
          rw [z, hc] at this
          cases this
        have nD : D ≠ c := fun z => by rw [← z, f3.1] at hc; cases hc
        refine ⟨by rw [upd_same, List.map_append]; rfl, List.nodup_append.mpr ⟨f3.2.1, List.nodup_cons.mpr ⟨List.not_mem_nil, List.nodup_nil⟩, fun d hd e he => by rw [List.mem_singleton.mp he]; exact nc d hd⟩, fun z => ?_, fun q d hd => ?_⟩
        · rcases List.mem_append.mp z with z | z
          · exact f3.2.2.1 z
          · exact nD (List.mem_singleton.mp z)
        · have hd2 : upd HX c (.lst []) d = some (.lst ((nI []).map V.int)) ∧ d ≠ D := by
            rcases List.getElem?_append (l₁ := ls) (l₂ := [c]) (i := q) ▸ hd with z
            by_cases hq : q < ls.length
            · rw [List.getElem?_append_left hq] at hd
              exact ⟨eC _ _ (f3.2.2.2 q d hd), fun z => f3.2.2.1 (by rw [← z]; exact List.mem_of_getElem? hd)⟩
            · rw [List.getElem?_append_right (by omega)] at hd
              have : d = c := by
                have := List.mem_of_getElem? hd
                exact List.mem_singleton.mp this
              subst this
              exact ⟨hcc, fun z => nD z.symm⟩
          rw [upd_ne hd2.2]
          exact hd2.1
      · intro d hd
        rcases List.mem_append.mp hd with z | z
        · exact f4 d z
        · rw [List.mem_singleton.mp z]
          exact Evl.fresh_back f1 hc
    · rintro D HX hD ⟨f1, ls, f2, f3, f4⟩
      walk_at "sm"
      refine for_tupE (xs := xs) rfl (ivA1 H p D ls bs) ⟨none, none, none, none, rfl, f1, f3⟩ ?_ ?_ ?_
      · rintro i σ HY ⟨_, _, _, _, _, g1, _⟩
        exact g1 _ _ hp
      · rintro i σ HY Tt y hy ⟨v2, v3, v4, v5, rfl, g1, g2⟩ hT
        obtain ⟨b, hb1, q, rfl, hq⟩ := paired_at hx hy
        obtain ⟨c1, c2, c3⟩ := hb.2.2 i b hb1
        have eT := Evl.Ex.new (o := .tup [.int (i : Nat), .ref q]) hT
        have g3 := g2.ex eT
        have g4 := g1.trans eT
        have hlen : ls.length = bs.length := f2.trans lx
        have li := (List.getElem?_eq_some_iff.mp hb1).1
        have lb := hb.2.1
        walk_at "sm"
        refine ⟨_, SqT.of upd_same, rfl, _, _, rfl, _, _, rfl, rfl, ?_⟩
        generalize upd HY Tt (.tup [.int (i : Nat), .ref q]) = HZ at g3 g4 ⊢
        have hqZ := g4 _ _ hq
        refine ⟨_, rfl, q, rfl, ⟨_, SqT.of hqZ⟩, for_tup (K := K) (a := q) (xs := (nI b).map V.int) (ivA2 H p D q ls bs i b) ⟨v4, v5, rfl, g4, g3.same fun x _ => by simp⟩ (fun j σ HW hj ⟨_, _, _, e, _⟩ => SqT.of (e _ _ hq)) ?_ ?_⟩
        · rintro j x σ HW hj ⟨w4, w5, rfl, k1, k2⟩
          obtain ⟨n, hn, rfl⟩ := nat_at hj
          have nb : n < bs.length := (c2 n (List.mem_of_getElem? hn)).1
          obtain ⟨c, hc⟩ : ∃ c, ls[n]? = some c := ⟨_, List.getElem?_eq_getElem (by omega)⟩
          have hcW := k2.2.2.2 n c hc
          have cn : H c = none := f4 c (List.mem_of_getElem? hc)
          walk_at "sm"
          refine ixl (SqL.of k2.1) (atI_nat (by rw [List.getElem?_map, hc]; rfl)) ⟨(show tyV K "list" (.ref c) HW from .inl ⟨rfl, _, SqL.of hcW⟩), c, _, _, rfl, rfl, hcW, ?_, ?_⟩
          · have l1 := aftUp_len bs i n
            refine Nat.lt_of_le_of_lt (show _ ≤ 201 from ?_) (by decide)
            rw [nI_len]
            show (aftUp bs i n ++ if n ∈ List.take j b then [i] else []).length ≤ 201
            rw [List.length_append]
            split <;> (simp only [List.length_cons, List.length_nil]; omega)
          · have kp := k2.push (v := i) hc
            rw [nI_snoc] at kp
            refine ⟨_, _, rfl, Evl.Ex.mut k1 cn, kp.same fun x hx => ?_⟩
            have tk := take_mem hn (x := x)
            by_cases e : x = n
            · subst e
              rw [if_pos rfl, if_neg (take_not hn (c1.imp fun z => Nat.ne_of_lt z)), if_pos (tk.mpr (.inr rfl)), List.append_nil]
            · rw [if_neg e]
              congr 1
              by_cases e2 : x ∈ List.take j b
              · rw [if_pos e2, if_pos (tk.mpr (.inl e2))]
              · rw [if_neg e2, if_neg fun z => (tk.mp z).elim e2 e]
        · rintro σ HW ⟨w4, w5, rfl, k1, k2⟩
          refine ⟨_, _, _, _, rfl, k1, k2.same fun x hx => ?_⟩
          rw [nI_len, List.take_length, aftUp_succ, row_of hb1]
      · rintro σ HY ⟨v2, v3, v4, v5, rfl, g1, g2⟩
        walk_at "sm"
        have hlen : ls.length = bs.length := f2.trans lx
        have lb := hb.2.1
        have fl : ∀ q, (aft bs q).length ≤ 200 := fun q => Nat.le_trans (List.length_filter_le _ _) (by rw [List.length_range]; exact lb)
        rw [lx] at g2
        refine ⟨⟨_, SqL.of g2.1⟩, lcg_list (K := K) (a := D) (xs := ls.map V.ref) (ivA3 HY bs) (fun E0 hE => ⟨Evl.Ex.new hE, [], upd_same, .nil⟩) (fun E0 i HZ hE hi h => SqL.of (h.1 _ _ g2.1)) ?_ ?_⟩
        · rintro E0 i x HZ hE hi ⟨h1, ys, h2, h3⟩
          walk_at "sm"
          obtain ⟨c, hc, rfl⟩ : ∃ c, ls[i]? = some c ∧ x = .ref c := by
            rw [List.getElem?_map] at hi
            cases e : ls[i]? with
            | none => rw [e] at hi; cases hi
            | some c => rw [e] at hi; exact ⟨c, rfl, (Option.some.inj hi).symm⟩
          have li := (List.getElem?_eq_some_iff.mp hc).1
          have hcZ := h1 _ _ (g2.2.2.2 i c hc)
          have ha : (afts bs)[i]? = some (aft bs i) := by
            unfold afts
            rw [List.getElem?_map, List.getElem?_range (by omega)]
            rfl
          refine ⟨c, rfl, _, .inl ⟨SqL.of hcZ, fun l hl => ?_⟩⟩
          have eL := Evl.Ex.new (o := .tup ((nI (aft bs i)).map V.int)) hl
          have hll : upd HZ l (HO.tup ((nI (aft bs i)).map V.int)) l = some (HO.tup ((nI (aft bs i)).map V.int)) := upd_same
          have ly : ys.length ≤ 200 := by rw [paired_len h3, List.length_take]; exact Nat.le_trans (Nat.min_le_left _ _) (by omega)
          have hE2 := eL _ _ h2
          have e1 := h1.trans eL
          have h3' := Paired.mapP h3 fun x c z => z.go (Kp.ex eL)
          show ∃ acc, upd HZ l (HO.tup ((nI (aft bs i)).map V.int)) E0 = some (HO.lst acc) ∧ acc.length < sizeLine ∧ ivA3 HY bs E0 (i + 1) (upd (upd HZ l (HO.tup ((nI (aft bs i)).map V.int))) E0 (HO.lst (acc ++ [V.ref l])))
          generalize upd HZ l (HO.tup ((nI (aft bs i)).map V.int)) = HU at hll hE2 e1 h3' ⊢
          refine ⟨ys, hE2, Nat.lt_of_le_of_lt ly (by decide), Evl.Ex.mut e1 hE, _, upd_same, ?_⟩
          have tk : ∀ d zs, HU d = some (.tup zs) → upd HU E0 (HO.lst (ys ++ [V.ref l])) d = some (.tup zs) := fun d zs h => by
            rw [upd_ne (fun z => by rw [z, hE2] at h; cases h)]
            exact h
          rw [List.take_add_one, ha]
          exact Paired.snoc ⟨l, rfl, tk _ _ hll⟩ (Paired.mapP h3' fun x d ⟨qq, z1, z2⟩ => ⟨qq, z1, tk _ _ z2⟩)
        · rintro E0 HZ hE ⟨h1, ys, h2, h3⟩
          walk_at "sm"
          rw [List.length_map, List.take_of_length_le (by unfold afts; rw [List.length_map, List.length_range]; omega)] at h3
          exact ⟨ys, .inl ⟨SqL.of h2, fun l hl => k l _ ((g1.trans h1).trans (Evl.Ex.new hl)) ⟨ys, upd_same, Paired.mapP h3 fun x c z => z.go (Kp.ex (Evl.Ex.new hl))⟩⟩⟩
end


/-! ### ordered_of -/
theorem lcg_en {J : It} {n : Nat} {g : TG} {tt : TT} {te : TE} {vs : List Nat} {σ : L2.St} {H1 : Hp} {Q : VK} (Pv : Addr → Nat → Hp → Prop) (h0 : ∀ D, H1 D = none → Pv D 0 (upd H1 D (.lst []))) (hgo : ∀ D i H, H1 D = none → i < n → Pv D i H → J.go i H) (hstop : ∀ D H, H1 D = none → Pv D n H → J.stop n H)
    (hs : ∀ D i x H HX, H1 D = none → i < n → Pv D i H → J.yld i H x HX → g x (wipe σ vs) HX fun σ2 H2 => wipe σ2 vs = wipe σ vs ∧ tt σ2 H2 fun b H3 =>
      if b = true then te σ2 H3 fun y H4 => ∃ acc, H4 D = some (.lst acc) ∧ acc.length < sizeLine ∧ Pv D (i + 1) (upd H4 D (.lst (acc ++ [y]))) else Pv D (i + 1) H3) (hd : ∀ D H, H1 D = none → Pv D n H → Q (.ref D) H) : LcG J g tt te vs σ Q H1 := fun D hD => by
  refine ⟨fun i m H => m = n - i ∧ i ≤ n ∧ Pv D i H, ⟨n, rfl, Nat.zero_le _, h0 D hD⟩, ?_⟩
  rintro i m H ⟨rfl, hi, pv⟩
  rcases Nat.lt_or_eq_of_le hi with hl | rfl
  · exact .inr ⟨hgo D i H hD hl pv, Pv D (i + 1), fun HX q => ⟨n - (i + 1), by omega, rfl, hl, q⟩, fun x HX y => hs D i x H HX hD hl pv y⟩
  · exact .inl ⟨hstop D H hD pv, hd D H hD pv⟩
theorem lcg_listE {K : PySem.W.Frag} {n : Nat} {a : Addr} {xs : List V} {g : TG} {tt : TT} {te : TE} {vs : List Nat} {σ : L2.St} {H1 : Hp} {Q : VK} (hv : σ[n]? = some (some (.ref a))) (hq : H1 a = some (.lst xs)) (Pv : Addr → Nat → Hp → Prop) (h0 : ∀ D, H1 D = none → Pv D 0 (upd H1 D (.lst []))) (hl : ∀ D i H, H1 D = none → Pv D i H → Evl.Ex H1 H)
    (hs : ∀ D i H T y, H1 D = none → xs[i]? = some y → Pv D i H → H T = none → g (.ref T) (wipe σ vs) (upd H T (.tup [.int (i : Nat), y])) fun σ2 H2 => wipe σ2 vs = wipe σ vs ∧ tt σ2 H2 fun b H3 =>
      if b = true then te σ2 H3 fun y H4 => ∃ acc, H4 D = some (.lst acc) ∧ acc.length < sizeLine ∧ Pv D (i + 1) (upd H4 D (.lst (acc ++ [y]))) else Pv D (i + 1) H3) (hd : ∀ D H, H1 D = none → Pv D xs.length H → Q (.ref D) H) :
    iEnum K (tCons (tVar n) tNil) σ H1 fun J HX => LcG J g tt te vs σ Q HX := by
  refine ⟨_, hv, a, xs, rfl, SqL.of hq, lcg_en (n := xs.length) Pv h0 (fun D i H hD hi h => ⟨xs, xs[i], SqL.of (hl D i H hD h _ _ hq), List.getElem?_eq_getElem hi⟩) (fun D H hD h => ⟨xs, SqL.of (hl D _ H hD h _ _ hq), Nat.le_refl _⟩) ?_ hd⟩
  rintro D i x H HX hD hi h ⟨Tt, y, rfl, hT, rfl, hy⟩
  exact hs D i H Tt y hD (hy xs (SqL.of (hl D i H hD h _ _ hq))) h hT
/-- how many befores of p are not among those that are done -/
def mis (bs : List (List Nat)) (os : List Nat) (p : Nat) : Nat := ((row bs p).filter fun x => decide (x ∉ os)).length
theorem mis_nil (bs : List (List Nat)) (p : Nat) : mis bs [] p = (row bs p).length := by
  unfold mis
  rw [List.filter_eq_self.mpr fun x _ => by simp]
theorem mis_zero {bs : List (List Nat)} {os : List Nat} {p : Nat} : mis bs os p = 0 ↔ ∀ x ∈ row bs p, x ∈ os := by
  unfold mis
  rw [List.length_eq_zero_iff, List.filter_eq_nil_iff]
  exact ⟨fun h x hx => by have := h x hx; simpa using this, fun h x hx => by simpa using h x hx⟩
theorem row_mem {bs : List (List Nat)} {p x : Nat} (h : x ∈ row bs p) : ∃ b, bs[p]? = some b ∧ x ∈ b := by
  unfold row at h
  cases e : bs[p]? with
  | none => rw [e] at h; simp at h
  | some b => rw [e] at h; exact ⟨b, rfl, h⟩
theorem row_lt {bs : List (List Nat)} (k : BefOk bs) {p x : Nat} (h : x ∈ row bs p) : x < bs.length ∧ x ≠ p := by
  obtain ⟨b, h1, h2⟩ := row_mem h
  exact (k.2.2 p b h1).2.1 x h2
theorem row_nd {bs : List (List Nat)} (k : BefOk bs) (p : Nat) : (row bs p).Nodup := by
  unfold row
  cases e : bs[p]? with
  | none => exact List.nodup_nil
  | some b => exact ((k.2.2 p b e).1).imp fun z => Nat.ne_of_lt z
theorem cnt_step {os : List Nat} {t : Nat} (ht : t ∉ os) : ∀ {l : List Nat}, l.Nodup → (l.filter fun x => decide (x ∉ os)).length = (l.filter fun x => decide (x ∉ os ++ [t])).length + if t ∈ l then 1 else 0
  | [], _ => by simp
  | x :: l, h => by
    obtain ⟨h1, h2⟩ := List.nodup_cons.mp h
    have ih := cnt_step ht h2
    rw [List.filter_cons, List.filter_cons]
    by_cases e : x = t
    · subst e
      rw [if_neg h1] at ih
      rw [if_pos (by simpa using ht), if_neg (by simp), if_pos List.mem_cons_self, List.length_cons, ih]
    · have em : (t ∈ x :: l) ↔ t ∈ l := by rw [List.mem_cons]; exact ⟨fun q => q.resolve_left fun z => e z.symm, .inr⟩
      have tt : (if t ∈ x :: l then 1 else 0) = if t ∈ l then 1 else 0 := by
        by_cases m : t ∈ l
        · rw [if_pos m, if_pos (em.mpr m)]
        · rw [if_neg m, if_neg fun q => m (em.mp q)]
      rw [tt]
      by_cases g : x ∈ os
      · rw [if_neg (by simpa using g), if_neg (by simp [g]), ih]
      · rw [if_pos (by simpa using g), if_pos (by simp [g, e]), List.length_cons, List.length_cons, ih]
        omega
theorem mis_step {bs : List (List Nat)} (k : BefOk bs) {os : List Nat} {t : Nat} (ht : t ∉ os) (p : Nat) : mis bs os p = mis bs (os ++ [t]) p + if t ∈ row bs p then 1 else 0 := cnt_step ht (row_nd k p)
/-- no way back to where one was: a number for each place that falls along the arrows -/
def Acy (bs : List (List Nat)) : Prop := ∃ rk : Nat → Nat, ∀ p, ∀ x ∈ row bs p, rk x < rk p
/-- the lowest place that is not done and whose befores are -/
def nxt (bs : List (List Nat)) (os : List Nat) : Nat := ((List.range bs.length).find? fun p => decide (p ∉ os) && decide (mis bs os p = 0)).getD 0
def kah (bs : List (List Nat)) : Nat → List Nat
  | 0 => []
  | t + 1 => kah bs t ++ [nxt bs (kah bs t)]
theorem kah_len (bs : List (List Nat)) : ∀ t, (kah bs t).length = t
  | 0 => rfl
  | t + 1 => by
    show (kah bs t ++ [_]).length = t + 1
    rw [List.length_append, kah_len bs t]
    rfl
theorem left_one {os : List Nat} {n : Nat} (h : os.length < n) : ∃ p, p < n ∧ p ∉ os := by
  by_cases c : ∃ p, p < n ∧ p ∉ os
  · exact c
  · have sub : List.range n ⊆ os := fun p hp => by
      by_cases q : p ∈ os
      · exact q
      · exact absurd ⟨p, List.mem_range.mp hp, q⟩ c
    have := (List.nodup_range (n := n)).length_le_of_subset sub
    rw [List.length_range] at this
    omega
theorem ready_one {bs : List (List Nat)} (k : BefOk bs) {rk : Nat → Nat} (ac : ∀ p, ∀ x ∈ row bs p, rk x < rk p) {os : List Nat} : ∀ (n p : Nat), rk p ≤ n → p < bs.length → p ∉ os → ∃ q, q < bs.length ∧ q ∉ os ∧ mis bs os q = 0
  | n, p, hn, hp, ho => by
    by_cases c : mis bs os p = 0
    · exact ⟨p, hp, ho, c⟩
    · have : ∃ x, x ∈ row bs p ∧ x ∉ os := by
        by_cases d : ∃ x, x ∈ row bs p ∧ x ∉ os
        · exact d
        · exact absurd (mis_zero.mpr fun x hx => by
            by_cases q : x ∈ os
            · exact q
            · exact absurd ⟨x, hx, q⟩ d) c
      obtain ⟨x, hx, hxo⟩ := this
      have lt := ac p x hx
      cases n with
      | zero => omega
      | succ n => exact ready_one k ac n x (by omega) (row_lt k hx).1 hxo
theorem nxt_ok {bs : List (List Nat)} (k : BefOk bs) (ac : Acy bs) {os : List Nat} (h : os.length < bs.length) : nxt bs os < bs.length ∧ nxt bs os ∉ os ∧ mis bs os (nxt bs os) = 0 ∧ ∀ p, p < nxt bs os → p ∈ os ∨ mis bs os p ≠ 0 := by
  obtain ⟨rk, ac⟩ := ac
  obtain ⟨p, hp, ho⟩ := left_one h
  obtain ⟨q, q1, q2, q3⟩ := ready_one k ac (rk p) p (Nat.le_refl _) hp ho
  unfold nxt
  cases e : (List.range bs.length).find? fun p => decide (p ∉ os) && decide (mis bs os p = 0) with
  | none =>
    have := List.find?_eq_none.mp e q (List.mem_range.mpr q1)
    simp [q2, q3] at this
  | some r =>
    show r < bs.length ∧ r ∉ os ∧ mis bs os r = 0 ∧ ∀ p, p < r → p ∈ os ∨ mis bs os p ≠ 0
    obtain ⟨h1, as, cs, h2, h3⟩ := List.find?_eq_some_iff_append.mp e
    rw [Bool.and_eq_true, decide_eq_true_eq, decide_eq_true_eq] at h1
    have hr : r ∈ List.range bs.length := by rw [h2]; simp
    refine ⟨List.mem_range.mp hr, h1.1, h1.2, fun p hp => ?_⟩
    have hpm : p ∈ as := by
      have hp2 : p ∈ List.range bs.length := List.mem_range.mpr (Nat.lt_trans hp (List.mem_range.mp hr))
      rw [h2] at hp2
      rcases List.mem_append.mp hp2 with g | g
      · exact g
      · rcases List.mem_cons.mp g with g | g
        · omega
        · have asc := range_lt bs.length
          rw [h2] at asc
          have := (List.pairwise_cons.mp (List.pairwise_append.mp asc).2.1).1 p g
          omega
    have := h3 p hpm
    by_cases c : p ∈ os
    · exact .inl c
    · right
      intro z
      simp [c, z] at this
/-- what has been done: no place twice, the befores of each are done -/
structure Kd_ (bs : List (List Nat)) (os : List Nat) : Prop where
  nd : os.Nodup
  lt : ∀ p ∈ os, p < bs.length
  cl : ∀ p ∈ os, ∀ x ∈ row bs p, x ∈ os
theorem kah_ok {bs : List (List Nat)} (k : BefOk bs) (ac : Acy bs) : ∀ t, t ≤ bs.length → Kd_ bs (kah bs t)
  | 0, _ => ⟨List.nodup_nil, fun p h => by simp [kah] at h, fun p h => by simp [kah] at h⟩
  | t + 1, ht => by
    have ih := kah_ok k ac t (by omega)
    obtain ⟨n1, n2, n3, _⟩ := nxt_ok k ac (os := kah bs t) (by rw [kah_len]; omega)
    show Kd_ bs (kah bs t ++ [nxt bs (kah bs t)])
    refine ⟨List.nodup_append.mpr ⟨ih.nd, by simp, fun a ha b hb => by rw [List.mem_singleton.mp hb]; exact fun z => n2 (z ▸ ha)⟩, fun p hp => ?_, fun p hp x hx => ?_⟩
    · rcases List.mem_append.mp hp with g | g
      · exact ih.lt p g
      · rw [List.mem_singleton.mp g]; exact n1
    · rcases List.mem_append.mp hp with g | g
      · exact List.mem_append_left _ (ih.cl p g x hx)
      · rw [List.mem_singleton.mp g] at hx
        exact List.mem_append_left _ (mis_zero.mp n3 x hx)
/-- a number whose lowest bit is t -/
theorem low_form {r t : Nat} (h1 : r.testBit t = true) (h0 : ∀ j, j < t → r.testBit j = false) : ∃ m, r = 2 ^ t * (2 * m + 1) := by
  have e0 : r % 2 ^ t = 0 := Nat.eq_of_testBit_eq fun i => by
    rw [Nat.testBit_mod_two_pow, Nat.zero_testBit]
    by_cases h : i < t
    · rw [h0 i h, Bool.and_false]
    · rw [decide_eq_false h]; rfl
  have e1 : r / 2 ^ t % 2 = 1 := by
    rw [Nat.testBit_eq_decide_div_mod_eq] at h1
    exact of_decide_eq_true h1
  refine ⟨r / 2 ^ t / 2, ?_⟩
  have a := Nat.div_add_mod r (2 ^ t)
  have b := Nat.div_add_mod (r / 2 ^ t) 2
  rw [e0, Nat.add_zero] at a
  rw [e1] at b
  rw [b]
  exact a.symm
theorem aft_mem {bs : List (List Nat)} {t p : Nat} : p ∈ aft bs t ↔ p < bs.length ∧ t ∈ row bs p := by
  unfold aft aftUp
  rw [List.mem_filter, List.mem_range, decide_eq_true_eq]
theorem aft_nd (bs : List (List Nat)) (t : Nat) : (aft bs t).Nodup := ((range_lt _).imp fun z => Nat.ne_of_lt z).filter _
/-- the ready places -/
structure Rdy (bs : List (List Nat)) (os : List Nat) (r : Nat) : Prop where
  bit : ∀ p, r.testBit p = true ↔ p < bs.length ∧ p ∉ os ∧ mis bs os p = 0
theorem Rdy.low {bs : List (List Nat)} {os : List Nat} {r : Nat} (k : BefOk bs) (ac : Acy bs) (h : Rdy bs os r) (ht : os.length < bs.length) : ∃ m, r = 2 ^ nxt bs os * (2 * m + 1) := by
  obtain ⟨n1, n2, n3, n4⟩ := nxt_ok k ac ht
  refine low_form ((h.bit _).mpr ⟨n1, n2, n3⟩) fun j hj => ?_
  cases e : r.testBit j with
  | false => rfl
  | true =>
    obtain ⟨_, a, b⟩ := (h.bit j).mp e
    rcases n4 j hj with z | z
    · exact absurd z a
    · exact absurd b z
theorem Rdy.none {bs : List (List Nat)} {os : List Nat} {r : Nat} (kd : Kd_ bs os) (hl : os.length = bs.length) (h : Rdy bs os r) : r = 0 := Nat.eq_of_testBit_eq fun i => by
  rw [Nat.zero_testBit]
  cases e : r.testBit i with
  | false => rfl
  | true =>
    obtain ⟨h1, h2, _⟩ := (h.bit i).mp e
    have sub : i :: os ⊆ List.range bs.length := fun p hp => by
      rcases List.mem_cons.mp hp with rfl | g
      · exact List.mem_range.mpr h1
      · exact List.mem_range.mpr (kd.lt p g)
    have := (List.nodup_cons.mpr ⟨h2, kd.nd⟩).length_le_of_subset sub
    rw [List.length_cons, List.length_range] at this
    omega
def mj (bs : List (List Nat)) (os : List Nat) (t j p : Nat) : Nat := if p ∈ (aft bs t).take j then mis bs (os ++ [t]) p else mis bs os p
/-- within the walk over the afters of t: the first j of them are told -/
structure Rdj (bs : List (List Nat)) (os : List Nat) (t j r : Nat) : Prop where
  bit : ∀ p, r.testBit p = true ↔ p < bs.length ∧ p ∉ os ++ [t] ∧ mj bs os t j p = 0
theorem mj_zero (bs : List (List Nat)) (os : List Nat) (t p : Nat) : mj bs os t 0 p = mis bs os p := by
  unfold mj
  rw [List.take_zero, if_neg List.not_mem_nil]
theorem Rdy.start {bs : List (List Nat)} {os : List Nat} {t r : Nat} (h : Rdy bs os r) (h1 : t < bs.length) (h2 : t ∉ os) (h3 : mis bs os t = 0) : Rdj bs os t 0 (r ^^^ 2 ^ t) := by
  refine ⟨fun p => ?_⟩
  rw [Nat.testBit_xor, bit_pow, mj_zero]
  by_cases e : p = t
  · subst e
    rw [decide_eq_true rfl, (h.bit p).mpr ⟨h1, h2, h3⟩]
    exact ⟨fun q => absurd q (by decide), fun q => absurd (List.mem_append_right _ (List.mem_singleton.mpr rfl)) q.2.1⟩
  · rw [decide_eq_false e, Bool.xor_false, h.bit p]
    constructor
    · rintro ⟨a, b, c⟩
      exact ⟨a, fun z => (List.mem_append.mp z).elim b fun y => e (List.mem_singleton.mp y), c⟩
    · rintro ⟨a, b, c⟩
      exact ⟨a, fun z => b (List.mem_append_left _ z), c⟩
theorem mj_at {bs : List (List Nat)} (k : BefOk bs) {os : List Nat} {t j c : Nat} (ht : t ∉ os) (hc : (aft bs t)[j]? = some c) : mj bs os t j c = mis bs (os ++ [t]) c + 1 := by
  unfold mj
  rw [if_neg (take_not hc (aft_nd bs t)), mis_step k ht c, if_pos (aft_mem.mp (List.mem_of_getElem? hc)).2]
theorem mj_succ {bs : List (List Nat)} {os : List Nat} {t j c : Nat} (hc : (aft bs t)[j]? = some c) (p : Nat) : mj bs os t (j + 1) p = if p = c then mis bs (os ++ [t]) c else mj bs os t j p := by
  unfold mj
  have tk := take_mem hc (x := p)
  by_cases e : p = c
  · subst e
    rw [if_pos rfl, if_pos (tk.mpr (.inr rfl))]
  · rw [if_neg e]
    by_cases m : p ∈ (aft bs t).take j
    · rw [if_pos m, if_pos (tk.mpr (.inl m))]
    · rw [if_neg m, if_neg fun q => (tk.mp q).elim m e]
theorem mj_done {bs : List (List Nat)} (k : BefOk bs) {os : List Nat} {t p : Nat} (ht : t ∉ os) (hp : p < bs.length) : mj bs os t (aft bs t).length p = mis bs (os ++ [t]) p := by
  unfold mj
  rw [List.take_length]
  by_cases m : p ∈ aft bs t
  · rw [if_pos m]
  · rw [if_neg m, mis_step k ht p, if_neg fun q => m (aft_mem.mpr ⟨hp, q⟩)]
    rfl
theorem Rdj.step {bs : List (List Nat)} (k : BefOk bs) {os : List Nat} {t j r c : Nat} (kd : Kd_ bs os) (ht : t ∉ os) (h : Rdj bs os t j r) (hc : (aft bs t)[j]? = some c) : Rdj bs os t (j + 1) (if mis bs (os ++ [t]) c = 0 then r ||| 2 ^ c else r) := by
  have hb := h.bit
  refine ⟨fun p => ?_⟩
  have cm := aft_mem.mp (List.mem_of_getElem? hc)
  have cn : c ∉ os ++ [t] := fun z => by
    rcases List.mem_append.mp z with g | g
    · exact ht (kd.cl c g t cm.2)
    · exact (row_lt k cm.2).2 (List.mem_singleton.mp g).symm
  have c0 : r.testBit c = false := by
    cases e : r.testBit c with
    | false => rfl
    | true =>
      have := ((hb c).mp e).2.2
      rw [mj_at k ht hc] at this
      omega
  rw [mj_succ hc]
  by_cases e : p = c
  · subst e
    rw [if_pos rfl]
    by_cases z : mis bs (os ++ [t]) p = 0
    · rw [if_pos z, Nat.testBit_or, bit_pow, decide_eq_true rfl, Bool.or_true]
      exact ⟨fun _ => ⟨cm.1, cn, z⟩, fun _ => rfl⟩
    · rw [if_neg z, c0]
      exact ⟨fun q => absurd q (by decide), fun q => absurd q.2.2 z⟩
  · rw [if_neg e, ← hb p]
    by_cases z : mis bs (os ++ [t]) c = 0
    · rw [if_pos z, Nat.testBit_or, bit_pow, decide_eq_false e, Bool.or_false]
    · rw [if_neg z]
theorem Rdj.done {bs : List (List Nat)} (k : BefOk bs) {os : List Nat} {t r : Nat} (ht : t ∉ os) (h : Rdj bs os t (aft bs t).length r) : Rdy bs (os ++ [t]) r := by
  refine ⟨fun p => ?_⟩
  rw [h.bit p]
  constructor
  · rintro ⟨h2, h1, h3⟩
    rw [mj_done k ht h2] at h3
    exact ⟨h2, h1, h3⟩
  · rintro ⟨h2, h1, h3⟩
    exact ⟨h2, h1, by rw [mj_done k ht h2]; exact h3⟩
/-- a row of numbers by place -/
def vL (f : Nat → Nat) (n : Nat) : List V := (List.range n).map fun p => V.int ((f p : Nat) : Int)
theorem vL_len (f : Nat → Nat) (n : Nat) : (vL f n).length = n := by unfold vL; rw [List.length_map, List.length_range]
theorem vL_at {f : Nat → Nat} {n k : Nat} (h : k < n) : (vL f n)[k]? = some (.int ((f k : Nat) : Int)) := by
  unfold vL
  rw [List.getElem?_map, List.getElem?_range h]
  rfl
theorem vL_set {f g : Nat → Nat} {n k v : Nat} (h : k < n) (e : ∀ p, g p = if p = k then v else f p) : (vL f n).set k (.int ((v : Nat) : Int)) = vL g n := by
  refine List.ext_getElem? fun i => ?_
  rw [List.getElem?_set]
  by_cases hi : i < n
  · rw [vL_at hi, vL_at hi, vL_len]
    by_cases ki : k = i
    · subst ki
      rw [if_pos rfl, if_pos h, e, if_pos rfl]
    · rw [if_neg ki, e, if_neg fun z => ki z.symm]
  · rw [if_neg (by omega), List.getElem?_eq_none (by rw [vL_len]; omega), List.getElem?_eq_none (by rw [vL_len]; omega)]
theorem vL_congr {f g : Nat → Nat} {n : Nat} (h : ∀ p, p < n → f p = g p) : vL f n = vL g n := List.map_congr_left fun p hp => by rw [h p (List.mem_range.mp hp)]
theorem vL_succ (f : Nat → Nat) (n : Nat) : vL f (n + 1) = vL f n ++ [.int ((f n : Nat) : Int)] := by
  unfold vL
  rw [List.range_succ, List.map_append]
  rfl
section
variable {P : Program} {w : World} {K : PySem.W.Frag} {mg : Str → Option Value} {base : Heap} {a : Ad}
def spOR : Sp := fun vs H Q _ => ∃ (p q : Addr) (bs : List (List Nat)), vs = [.ref p, .ref q] ∧ ArrT H p bs ∧ ArrT H q (afts bs) ∧ BefOk bs ∧ Acy bs ∧ ∀ t H', Evl.Ex H H' → H' t = some (.tup ((nI (kah bs bs.length)).map V.int)) → Q (.ref t) H'
def ivO0 (H : Hp) (bs : List (List Nat)) (D : Addr) (i : Nat) (H' : Hp) : Prop := Evl.Ex H H' ∧ H' D = some (.lst (vL (fun p => (row bs p).length) i))
def r0 (bs : List (List Nat)) (i : Nat) : List Nat := (List.range i).filter fun p => decide ((row bs p).length = 0)
def ivO1 (H : Hp) (bs : List (List Nat)) (D : Addr) (i : Nat) (H' : Hp) : Prop := Evl.Ex H H' ∧ H' D = some (.lst ((nI (r0 bs i)).map V.int))
def ivO3 (H : Hp) (p q M O : Addr) (bs : List (List Nat)) (m : Nat) (σ : L2.St) (H' : Hp) : Prop := ∃ (t r : Nat) (v5 v6 v7 v8 v9 : Option V), m = bs.length - t ∧ t ≤ bs.length ∧ σ = [some (.ref p), some (.ref q), some (.ref M), some (.int (r : Nat)), some (.ref O), v5, v6, v7, v8, v9] ∧ Evl.Ex H H' ∧
  H' M = some (.lst (vL (mis bs (kah bs t)) bs.length)) ∧ H' O = some (.lst ((nI (kah bs t)).map V.int)) ∧ Rdy bs (kah bs t) r
def ivO4 (H : Hp) (p q M O : Addr) (bs : List (List Nat)) (t u : Nat) : Nat → L2.St → Hp → Prop := fun j σ H' => ∃ (r : Nat) (v5 v6 v7 v8 v9 : Option V), σ = [some (.ref p), some (.ref q), some (.ref M), some (.int (r : Nat)), some (.ref O), v5, v6, v7, v8, v9] ∧ Evl.Ex H H' ∧
  H' M = some (.lst (vL (mj bs (kah bs t) u j) bs.length)) ∧ H' O = some (.lst ((nI (kah bs t ++ [u])).map V.int)) ∧ Rdj bs (kah bs t) u j r
theorem ok_ordered_of (T : Txt K mg a) : FnOk P w K mg base CX0 2 a.f_ordered_of a.d_ordered_of ["befores", "afters"] spOR := by
  refine T.F_ordered_of.ok sc_ordered_of (fun vs H Q E h => ?_) (fun cdv A outer s H vs Q E hr h => ?_)
  · obtain ⟨_, _, _, rfl, _⟩ := h
    rfl
  · obtain ⟨p, q, bs, rfl, ⟨xs, hp, hx⟩, hq, hb, ac, k⟩ := h
    have lx := paired_len hx
    refine ⟨_, (pss_cons (ps_setLc (i := 2) (own := [("listed", 8)]) (g := gName 8) (tt := tYes) rfl sc_ordered_of.nd rfl rfl (sw_true rfl rfl rfl (by decide +kernel)) (pi_tup (pv 0)) (blkOk_by (own := [("listed", 8)]) (N := ["befores", "afters", "missing", "ready", "ordered", "lowest", "place", "after", "listed", "many"]) (sc := defScope s_ordered_of) (by decide +kernel)) (fun _ _ _ _ _ => pg_name (i := 8) sc_ordered_of.nd rfl (Or.inl rfl)) (fun _ _ _ _ _ => pts_nil) (fun _ _ _ _ _ => (pe_callB call_len_seq_b (by rfl) T.z_len (by decide +kernel) (pa_cons (pv 8) pa_nil))))
  (pss_cons (ps_set (i := 3) sc_ordered_of.nd rfl (by first | exact Or.inl rfl | exact Or.inr rfl) (pe_call (ok_mask_of T) (hr.mono (by decide)) rfl T.m_mask_of T.F_mask_of.kp T.b_mask_of .nil pass0 (pa_cons (pe_lc (own := [("place", 6), ("many", 9)]) (g := gTup K 2 (gCons (gName 6) (gCons (gName 9) (gNil))))  rfl sc_ordered_of.nd (pi_enum (by rfl) T.z_enumerate (pa_cons (pv 2) pa_nil)) (blkOk_by (own := [("place", 6), ("many", 9)]) (N := ["befores", "afters", "missing", "ready", "ordered", "lowest", "place", "after", "listed", "many"]) (sc := defScope s_ordered_of) (by decide +kernel)) (fun _ _ _ _ _ => pg_tup rfl (pgs_cons (pg_name (i := 6) sc_ordered_of.nd rfl (Or.inl rfl)) (pgs_cons (pg_name (i := 9) sc_ordered_of.nd rfl (Or.inl rfl)) pgs_nil))) (fun _ _ _ _ _ => (pts_one (pt_cmpR op_eq (pv 9) pe_int (nomark _)))) (fun _ _ _ _ _ => (pv 6))) pa_nil)))
  (pss_cons (ps_set (i := 4) sc_ordered_of.nd rfl (by first | exact Or.inl rfl | exact Or.inr rfl) (pe_lst pa_nil))
  (pss_cons (ps_while (by first | exact passes_of rfl | exact PassesOwn.never) (pt_truth (pv 3) (by intro _; rfl)) (pss_cons (ps_set (i := 5) sc_ordered_of.nd rfl (by first | exact Or.inl rfl | exact Or.inr rfl) (pe_op op_low (pv 3) (pe_un un_neg (pv 3))))
  (pss_cons (ps_set (i := 6) sc_ordered_of.nd rfl (by first | exact Or.inl rfl | exact Or.inr rfl) (pe_op op_sub (pe_bits (pv 5)) pe_int))
  (pss_cons (ps_aug (i := 3) sc_ordered_of.nd rfl (by first | exact Or.inl rfl | exact Or.inr rfl) (pv 5) ip_xorN)
  (pss_cons (ps_expr (pe_bm PySem.F.plainAttrs_list PySem.F.slot_list_append PySem.F.type_list_append mt_append (pv 4) (pa_cons (pv 6) pa_nil)))
  (pss_one (ps_for PassesOwn.never rfl (pi_tup (pe_ix ix_tup (pv 1) (pv 6) (fun _ _ => rfl))) (pg_name (i := 7) sc_ordered_of.nd rfl (by first | exact Or.inl rfl | exact Or.inr rfl)) (pss_cons (ps_augS (pv 2) (pv 7) get_list pe_int ip_sub set_list)
  (pss_one (ps_if (pt_cmpR op_eq (pe_ix ix_list (pv 2) (pv 7) (fun _ _ => rfl)) pe_int (nomark _)) (pss_one (ps_aug (i := 3) sc_ordered_of.nd rfl (by first | exact Or.inl rfl | exact Or.inr rfl) (pe_op op_shlK pe_int (pv 7)) ip_orN))
    pss_nil))))))))))
  (pss_one (ps_ret (pe_callTy call_tuple_of (by rfl) T.z_tuple (by decide +kernel) (pa_cons (pv 4) pa_nil)))))))), ?_⟩
    walk_at "sm"
    refine ⟨⟨_, SqT.of hp⟩, lcg_tup (K := K) (a := p) (xs := xs) (ivO0 H bs) (fun D hD => ⟨Evl.Ex.new hD, upd_same⟩) (fun D i HX hD hi h => SqT.of (h.1 _ _ hp)) ?_ ?_⟩
    · rintro D i x HX hD hi ⟨f1, f2⟩
      obtain ⟨b, hb1, c, rfl, hc⟩ := paired_at hx hi
      walk_at "sm"
      have li := (List.getElem?_eq_some_iff.mp hb1).1
      have lb := hb.2.1
      refine ⟨_, .inr (SqT.of (f1 _ _ hc)), _, f2, Nat.lt_of_le_of_lt (show _ ≤ 200 by rw [vL_len]; omega) (by decide), f1.mut hD, ?_⟩
      rw [upd_same, vL_succ, nI_len, row_of hb1]
    · rintro M HX hM ⟨f1, f2⟩
      walk_at "sm"
      refine lcg_listE (xs := vL (fun p => (row bs p).length) xs.length) rfl f2 (ivO1 HX bs) (fun D hD => ⟨Evl.Ex.new hD, upd_same⟩) (fun D i HY hD h => h.1) ?_ ?_
      · rintro D i HY Tt y hD hy ⟨g1, g2⟩ hT
        have hi2 : i < xs.length := by
          have := (List.getElem?_eq_some_iff.mp hy).1
          rw [vL_len] at this
          exact this
        rw [vL_at hi2] at hy
        obtain rfl := Option.some.inj hy
        have eT := Evl.Ex.new (o := .tup [.int (i : Nat), .int (((row bs i).length : Nat) : Int)]) hT
        have lb := hb.2.1
        have lr : (r0 bs i).length ≤ i := Nat.le_trans (List.length_filter_le _ _) (Nat.le_of_eq (List.length_range ..))
        have rs : r0 bs (i + 1) = r0 bs i ++ if (row bs i).length = 0 then [i] else [] := by
          unfold r0
          rw [List.range_succ, List.filter_append, List.filter_cons, List.filter_nil]
          by_cases z : (row bs i).length = 0
          · rw [if_pos z, if_pos (decide_eq_true z)]
          · rw [if_neg z, if_neg (by rw [decide_eq_false z]; decide)]
        walk_at "sm"
        refine ⟨_, SqT.of upd_same, rfl, _, _, rfl, _, _, rfl, rfl, rfl, ite2 (fun z => ?_) fun z => ?_⟩
        · have z2 : (row bs i).length = 0 := by
            have := V.int.inj z
            omega
          refine ⟨_, eT _ _ g2, Nat.lt_of_le_of_lt (show _ ≤ 200 by rw [nI_len]; omega) (by decide), (g1.trans eT).mut hD, ?_⟩
          rw [upd_same, rs, if_pos z2, nI_snoc]
        · have z2 : ¬ (row bs i).length = 0 := fun h => z (by rw [h]; rfl)
          refine ⟨g1.trans eT, ?_⟩
          rw [rs, if_neg z2, List.append_nil]
          exact eT _ _ g2
      · rintro D HY hD ⟨g1, g2⟩
        walk_at "sm"
        have nM : M ≠ D := fun z => by rw [← z, f2] at hD; cases hD
        rw [vL_len, lx] at g2
        rw [lx] at f2
        have e1 := f1.trans g1
        have mem0 : ∀ i, i ∈ r0 bs bs.length ↔ i < bs.length ∧ (row bs i).length = 0 := fun i => by
          unfold r0
          rw [List.mem_filter, List.mem_range, decide_eq_true_eq]
        refine ⟨D, r0 bs bs.length, rfl, .inr g2, fun x hx => by have := ((mem0 x).mp hx).1; have := hb.2.1; omega, Nat.zero_le _, fun O hO => ?_⟩
        have rdy : Rdy bs [] (msk (r0 bs bs.length)) := ⟨fun x => by
          rw [msk_bit, decide_eq_true_eq, mem0, mis_nil]
          exact ⟨fun z => ⟨z.1, by simp, z.2⟩, fun z => ⟨z.1, z.2.2⟩⟩⟩
        have eO := Evl.Ex.new (o := .lst []) hO
        have nMO : M ≠ O := fun z => by
          have := g1 _ _ f2
          rw [z, hO] at this
          cases this
        have hO0 := Evl.fresh_back e1 hO
        refine ⟨ivO3 H p q M O bs, ⟨_, 0, _, none, none, none, none, none, rfl, Nat.zero_le _, rfl, e1.trans eO, (eO _ _ (g1 _ _ f2)).trans (by rw [show kah bs 0 = [] from rfl, vL_congr fun x _ => (mis_nil bs x).symm]), upd_same, rdy⟩, ?_⟩
        rintro m σ HW ⟨t, r, v5, v6, v7, v8, v9, rfl, ht, rfl, h1, h2, h3, h4⟩
        walk_at "sm"
        refine ⟨_, rfl, ?_⟩
        rcases Nat.lt_or_eq_of_le ht with tl | rfl
        · have kd := kah_ok hb ac t (by omega)
          have kl := kah_len bs t
          obtain ⟨x1, x2, x3, _⟩ := nxt_ok hb ac (os := kah bs t) (by omega)
          obtain ⟨mm, hmm⟩ := h4.low hb ac (by omega)
          have ks : kah bs (t + 1) = kah bs t ++ [nxt bs (kah bs t)] := rfl
          obtain ⟨u, hu⟩ : ∃ u, nxt bs (kah bs t) = u := ⟨_, rfl⟩
          rw [hu] at x1 x2 x3 hmm ks
          have rn : ((r : Int) != 0) = true := by
            have p2 : 0 < 2 ^ u := Nat.pow_pos (by decide)
            have : 0 < r := by rw [hmm]; exact Nat.mul_pos p2 (by omega)
            simp; omega
          rw [rn]
          refine iteT ⟨fun σ1 H1 => ∃ m1, m1 < bs.length - t ∧ ivO3 H p q M O bs m1 σ1 H1, fun σ1 H1 z => z, ?_⟩
          walk_at "sm"
          refine ⟨r, rfl, rfl, u, ⟨mm, hmm⟩, ⟨_, rfl, _, rfl, ?_⟩⟩
          rw [bits_pow]
          have lb := hb.2.1
          have i1 : (((u + 1 : Nat) : Int)) - 1 = (u : Int) := by omega
          refine ⟨_, rfl, r, rfl, 2 ^ u, rfl, (show tyV K "list" (.ref O) HW from .inl ⟨rfl, _, SqL.of h3⟩), O, _, _, rfl, rfl, h3, Nat.lt_of_le_of_lt (show _ ≤ 200 by rw [nI_len, kl]; omega) (by decide), ?_⟩
          rw [i1]
          have h3' : upd HW O (.lst ((nI (kah bs t)).map V.int ++ [.int (u : Nat)])) O = some (.lst ((nI (kah bs t ++ [u])).map V.int)) := by rw [upd_same, nI_snoc]
          have h2' : upd HW O (.lst ((nI (kah bs t)).map V.int ++ [.int (u : Nat)])) M = some (.lst (vL (mj bs (kah bs t) u 0) bs.length)) := by rw [upd_ne nMO, h2, vL_congr fun x _ => (mj_zero bs (kah bs t) u x).symm]
          have h1' := Evl.Ex.mut (o := .lst ((nI (kah bs t)).map V.int ++ [.int (u : Nat)])) h1 hO0
          have h4' := h4.start x1 x2 x3
          generalize upd HW O (.lst ((nI (kah bs t)).map V.int ++ [.int (u : Nat)])) = HV at h1' h2' h3' ⊢
          have ha : (afts bs)[u]? = some (aft bs u) := by
            unfold afts
            rw [List.getElem?_map, List.getElem?_range x1]
            rfl
          obtain ⟨ys, hq1, hq2⟩ := hq
          obtain ⟨y, hy1, c, rfl, hc⟩ := paired_of hq2 ha
          have hcV := h1' _ _ hc
          refine ⟨_, rfl, _, rfl, ixt (h1' _ _ hq1) (atI_nat hy1) ⟨c, rfl, ⟨_, SqT.of hcV⟩, for_tup (K := K) (a := c) (xs := (nI (aft bs u)).map V.int) (ivO4 H p q M O bs t u) ⟨_, _, _, _, _, _, rfl, h1', h2', h3', h4'⟩ (fun j σ HU hj ⟨_, _, _, _, _, _, _, e, _⟩ => SqT.of (e _ _ hc)) ?_ ?_⟩⟩
          · rintro j x σ HU hj ⟨r, v5, v6, v7, v8, v9, rfl, k1, k2, k3, k4⟩
            obtain ⟨d, hd, rfl⟩ := nat_at hj
            have cm := aft_mem.mp (List.mem_of_getElem? hd)
            walk_at "sm"
            have ixd : ixN (vL (mj bs (kah bs t) u j) bs.length).length (d : Int) = some d := by
              unfold ixN
              rw [vL_len, if_pos (Int.natCast_nonneg d), if_pos (by omega)]
              rfl
            have ev : (((mj bs (kah bs t) u j d : Nat) : Int)) - 1 = ((mis bs (kah bs t ++ [u]) d : Nat) : Int) := by
              rw [mj_at hb x2 hd]
              omega
            refine ⟨_, rfl, _, rfl, M, _, d, _, rfl, rfl, k2, vL_at cm.1, _, _, rfl, rfl, M, _, (d : Int), d, rfl, rfl, k2, ixd, ?_⟩
            have hM0 : H M = none := Evl.fresh_back (Evl.Ex.refl H) hM
            dsimp only
            rw [ev, vL_set cm.1 (g := mj bs (kah bs t) u (j + 1)) fun p => mj_succ hd p]
            have k1' := Evl.Ex.mut (o := .lst (vL (mj bs (kah bs t) u (j + 1)) bs.length)) k1 hM0
            have k2' : upd HU M (.lst (vL (mj bs (kah bs t) u (j + 1)) bs.length)) M = some (.lst (vL (mj bs (kah bs t) u (j + 1)) bs.length)) := upd_same
            have k3' : upd HU M (.lst (vL (mj bs (kah bs t) u (j + 1)) bs.length)) O = some (.lst ((nI (kah bs t ++ [u])).map V.int)) := by rw [upd_ne (Ne.symm nMO)]; exact k3
            generalize upd HU M (.lst (vL (mj bs (kah bs t) u (j + 1)) bs.length)) = HU2 at k1' k2' k3' ⊢
            have st := k4.step hb kd x2 hd
            walk_at "sm"
            refine ixl (SqL.of k2') (atI_nat (vL_at cm.1)) ⟨rfl, ?_⟩
            rw [mj_succ hd, if_pos rfl]
            refine ite2 (fun z => ?_) fun z => ?_
            · have z2 : mis bs (kah bs t ++ [u]) d = 0 := by
                have := V.int.inj z
                omega
              rw [if_pos z2] at st
              exact ⟨d, rfl, by have := cm.1; omega, r, rfl, 2 ^ d, rfl, _, _, _, _, _, _, rfl, k1', k2', k3', st⟩
            · have z2 : ¬ mis bs (kah bs t ++ [u]) d = 0 := fun h => z (by rw [h]; rfl)
              rw [if_neg z2] at st
              exact ⟨_, _, _, _, _, _, rfl, k1', k2', k3', st⟩
          · rintro σ HU ⟨r, v5, v6, v7, v8, v9, rfl, k1, k2, k3, k4⟩
            rw [nI_len] at k2 k4
            refine ⟨_, by omega, t + 1, r, v5, v6, v7, v8, v9, rfl, tl, rfl, k1, ?_, ?_, ?_⟩
            · rw [ks]; exact k2.trans (by rw [vL_congr fun x hx => mj_done hb x2 hx])
            · rw [ks]; exact k3
            · rw [ks]; exact k4.done hb x2
        · obtain rfl := h4.none (kah_ok hb ac _ (Nat.le_refl _)) (kah_len _ _)
          exact iteF ⟨_, .inl ⟨SqL.of h3, fun l hl => k l _ (h1.trans (Evl.Ex.new hl)) upd_same⟩⟩
end


/-! ### check_roads, is_place, Bare.__init__ -/
section
variable {P : Program} {w : World} {K : PySem.W.Frag} {mg : Str → Option Value} {base : Heap} {a : Ad}
theorem BefOk.arr {bs : List (List Nat)} (k : BefOk bs) : ArrOk bs := ⟨k.2.1, fun b hb => by
  obtain ⟨i, hi⟩ := List.mem_iff_getElem?.mp hb
  obtain ⟨h1, h2, h3⟩ := k.2.2 i b hi
  have li := (List.getElem?_eq_some_iff.mp hi).1
  exact ⟨by omega, fun q hq => (h2 q hq).1⟩⟩
/-- every place is the end or leads to it -/
def Roads (bs : List (List Nat)) (e : Nat) : Prop := ∀ q, q < bs.length → q = e ∨ Rc bs 0 e q
def spCR : Sp := fun vs H Q _ => ∃ (p : Addr) (bs : List (List Nat)) (e : Nat), vs = [.ref p, .int e] ∧ ArrT H p bs ∧ ArrOk bs ∧ e < bs.length ∧ Roads bs e ∧ ∀ H', Evl.Ex H H' → Q .non H'
def ivCR (p : Addr) (e r : Nat) (H : Hp) : Nat → L2.St → Hp → Prop := fun _ σ H' => ∃ v, σ = [some (.ref p), some (.int e), some (.int (r : Nat)), v] ∧ H' = H
theorem ok_check_roads (T : Txt K mg a) : FnOk P w K mg base (L2.CX P w) 3 a.f_check_roads a.d_check_roads ["befores", "end"] spCR := by
  refine T.F_check_roads.okX sc_check_roads (fun vs H Q E h => ?_) (fun cdv A outer s H vs Q E hr h => ?_)
  · obtain ⟨_, _, _, rfl, _⟩ := h
    rfl
  · obtain ⟨p, bs, e, rfl, ha, hb, he, hrd, k⟩ := h
    refine ⟨_, (pss_cons (ps_set (i := 2) sc_check_roads.nd rfl (by first | exact Or.inl rfl | exact Or.inr rfl) (pe_op op_orN (pe_call (ok_reached_along T) (hr.mono (by decide)) rfl T.m_reached_along T.F_reached_along.kp T.b_reached_along.choose_spec.2 T.b_reached_along.choose_spec.1 pass0 (pa_cons (pv 0) (pa_cons (pv 1) pa_nil))) (pe_op op_shlK pe_int (pv 1))))
  (pss_one (ps_for (passes_of rfl) rfl (pi_range1 (by rfl) T.z_range (pa_cons (pe_callB call_len_seq (by rfl) T.z_len (by decide +kernel) (pa_cons (pv 0) pa_nil)) pa_nil)) (pg_name (i := 3) sc_check_roads.nd rfl (by first | exact Or.inl rfl | exact Or.inr rfl)) (pss_one (ps_if (pt_not (pt_truth (pe_op op_odd (pe_op op_shrK (pv 2) (pv 3)) pe_int) (by intro _; rfl))) (pss_one (ps_raise rfl (takes_of rfl rfl rfl rfl) (pmk_oex T.x_BadBare T.xi_BadBare T.xt_BadBare (ok_BadBare_init T) (hr.mono (by decide)) T.b_BadBare___init__ .nil pass0 rfl T.m_BadBare (pa_cons (pv 3) (pa_cons pe_str pa_nil)))))
    pss_nil))))), ?_⟩
    walk_at "sm"
    refine ⟨p, bs, e, 0, rfl, ha.arr, hb, he, fun r H1 e1 hr1 => ⟨e, rfl, by have := hb.1; omega, r, rfl, 2 ^ e, rfl, ?_⟩⟩
    obtain ⟨xs, hp, hx⟩ := ha
    have lx := paired_len hx
    have hp1 := e1 _ _ hp
    have on : ∀ q, q < bs.length → (r ||| 2 ^ e).testBit q = true := fun q hq => by
      rw [Nat.testBit_or, bit_pow, Bool.or_eq_true, decide_eq_true_eq, hr1]
      exact (hrd q hq).symm
    refine ⟨_, rfl, p, rfl, xs, .inr (SqT.of hp1), _, rfl, by omega, by have := hb.1; omega, for_range (lo := 0) (n := ((xs.length : Nat) : Int).toNat) (ivCR p e (r ||| 2 ^ e) H1) ⟨none, rfl, rfl⟩ ?_ ?_⟩
    · rintro i σ HX hi ⟨v, rfl, rfl⟩
      have hi2 : i < bs.length := by omega
      walk_at "sm"
      refine ⟨r ||| 2 ^ e, rfl, i, by omega, _, rfl, _, rfl, ?_⟩
      rw [tru_bit, on i hi2]
      exact iteF ⟨_, rfl, rfl⟩
    · rintro σ HX ⟨v, rfl, rfl⟩
      exact k _ e1
def spIP (C : Addr) : Sp := fun vs H Q _ => ∃ (x p dx : Addr) (xs : List V) (e : Nat), vs = [.ref x, .int e] ∧ H x = some (.ins C dx [("befores", .ref p)]) ∧ H p = some (.tup xs) ∧ e < xs.length ∧ Q (.bl true) H
theorem ok_is_place (T : Txt K mg a) : FnOk P w K mg base CX0 3 a.f_is_place a.d_is_place ["bare", "thing"] (spIP a.c_Bare) := by
  refine T.F_is_place.ok sc_is_place (fun vs H Q E h => ?_) (fun cdv A outer s H vs Q E hr h => ?_)
  · obtain ⟨_, _, _, _, _, rfl, _⟩ := h
    rfl
  · obtain ⟨x, p, dx, xs, e, rfl, hx, hp, he, k⟩ := h
    refine ⟨_, (pss_one (ps_ret (pe_call (ok_is_within T) (hr.mono (by decide)) rfl T.m_is_within T.F_is_within.kp T.b_is_within .nil pass0 (pa_cons (pv 1) (pa_cons pe_int (pa_cons (pe_op op_sub (pe_callB call_len_seq (by rfl) T.z_len (by decide +kernel) (pa_cons (pe_fld (pv 0) rfl) pa_nil)) pe_int) pa_nil)))))), ?_⟩
    walk_at "sm"
    refine ⟨_, _, _, hx, T.ic_Bare.cl, T.na_Bare_befores, _, rfl, p, rfl, xs, .inr (SqT.of hp), .int e, 0, _, rfl, plain_int, ?_⟩
    rw [show wiB (.int (e : Int)) 0 ((xs.length : Int) - 1) = true from (by show (decide ((0 : Int) ≤ (e : Int)) && decide ((e : Int) ≤ (xs.length : Int) - 1)) = true; rw [decide_eq_true (show (0 : Int) ≤ (e : Int) by omega), decide_eq_true (show (e : Int) ≤ (xs.length : Int) - 1 by omega)]; rfl)]
    exact k
def BareAt (C : Addr) (H : Hp) (x : Addr) (bs : List (List Nat)) (e : Nat) : Prop := ∃ dx p af od nd, H x = some (.ins C dx [("befores", .ref p), ("end", .int e), ("afters", .ref af), ("ordered", .ref od), ("needs", .ref nd)]) ∧ ArrT H p bs ∧ ArrT H af (afts bs) ∧
  H od = some (.tup ((nI (kah bs bs.length)).map V.int)) ∧ H nd = some (.tup ((nI (bs.map msk)).map V.int))
theorem BareAt.go {C : Addr} {H H' : Hp} {x : Addr} {bs : List (List Nat)} {e : Nat} (k : Evl.Ex H H') (h : BareAt C H x bs e) : BareAt C H' x bs e := by
  obtain ⟨dx, p, af, od, nd, h1, h2, h3, h4, h5⟩ := h
  exact ⟨dx, p, af, od, nd, k _ _ h1, h2.go (Kp.ex k), h3.go (Kp.ex k), k _ _ h4, k _ _ h5⟩
/-- check_rings is not asked for -/
def spNo : Sp := fun _ _ _ _ => False
theorem ok_check_rings (T : Txt K mg a) : FnOk P w K mg base (L2.CX P w) 3 a.f_check_rings a.d_check_rings ["befores"] spNo := by
  refine T.F_check_rings.okX sc_check_rings (fun vs H Q E h => h.elim) (fun cdv A outer s H vs Q E hr h => h.elim)
def spBI (a : Ad) : Sp := fun vs H Q _ => ∃ (x dx p : Addr) (b0 : List (List Nat)) (e : Nat), vs = [.ref x, .ref p, .int e] ∧ H x = some (.ins a.c_Bare dx []) ∧ ArrG H p b0 ∧ BefG b0 ∧ Acy (b0.map sb) ∧ e < b0.length ∧ Roads (b0.map sb) e ∧ ∀ H', Fr x H H' → BareAt a.c_Bare H' x (b0.map sb) e → Q .non H'
def ivBM (H : Hp) (bs : List (List Nat)) (D : Addr) (i : Nat) (H' : Hp) : Prop := Evl.Ex H H' ∧ H' D = some (.lst ((nI ((bs.take i).map msk)).map V.int))
theorem ok_Bare_init (T : Txt K mg a) : FnOk P w K mg base (L2.CX P w) 5 a.f_Bare___init__ a.d_Bare___init__ ["self", "befores", "end"] (spBI a) := by
  refine T.F_Bare___init__.okX sc_Bare___init__ (fun vs H Q E h => ?_) (fun cdv A outer s H vs Q E hr h => ?_)
  · obtain ⟨_, _, _, _, _, rfl, _⟩ := h
    rfl
  · obtain ⟨x, dx, p, b0, e, rfl, hx, ha, hb0, hac, he, hrd, k⟩ := h
    have hb := hb0.ok
    refine ⟨_, (pss_cons (ps_fld (pv 0) (pe_call (ok_checked_befores T) (hr.mono (by decide)) rfl T.m_checked_befores T.F_checked_befores.kp T.b_checked_befores .nil (passes_call (takes_of rfl rfl rfl rfl) (fun _ _ _ _ q => q)) (pa_cons (pv 1) pa_nil)) rfl)
  (pss_cons (ps_if (pt_not (pt_val (pe_call (ok_is_place T) (hr.mono (by decide)) rfl T.m_is_place T.F_is_place.kp T.b_is_place .nil pass0 (pa_cons (pv 0) (pa_cons (pv 2) pa_nil))))) (pss_one (ps_raise rfl (takes_of rfl rfl rfl rfl) (pmk_oex T.x_BadBare T.xi_BadBare T.xt_BadBare (ok_BadBare_init T) (hr.mono (by decide)) T.b_BadBare___init__ .nil pass0 rfl T.m_BadBare (pa_cons (pe_un un_neg pe_int) (pa_cons pe_str pa_nil)))))
    pss_nil)
  (pss_cons (ps_fld (pv 0) (pv 2) rfl)
  (pss_cons (ps_fld (pv 0) (pe_call (ok_afters_of T) (hr.mono (by decide)) rfl T.m_afters_of T.F_afters_of.kp T.b_afters_of .nil pass0 (pa_cons (pe_fld (pv 0) rfl) pa_nil)) rfl)
  (pss_cons (ps_fld (pv 0) (pe_call (ok_ordered_of T) (hr.mono (by decide)) rfl T.m_ordered_of T.F_ordered_of.kp T.b_ordered_of .nil pass0 (pa_cons (pe_fld (pv 0) rfl) (pa_cons (pe_fld (pv 0) rfl) pa_nil))) rfl)
  (pss_cons (ps_if (pt_cmpR op_lt (pe_callB call_len_seq (by rfl) T.z_len (by decide +kernel) (pa_cons (pe_fld (pv 0) rfl) pa_nil)) (pe_callB call_len_seq (by rfl) T.z_len (by decide +kernel) (pa_cons (pe_fld (pv 0) rfl) pa_nil)) (nomark _)) (pss_one (ps_expr (pe_call (ok_check_rings T) (hr.mono (by decide)) rfl T.m_check_rings T.F_check_rings.kp T.b_check_rings .nil (passes_call (takes_of rfl rfl rfl rfl) (fun _ _ _ _ q => q)) (pa_cons (pe_fld (pv 0) rfl) pa_nil))))
    pss_nil)
  (pss_cons (ps_expr (pe_call (ok_check_roads T) (hr.mono (by decide)) rfl T.m_check_roads T.F_check_roads.kp T.b_check_roads .nil (passes_call (takes_of rfl rfl rfl rfl) (fun _ _ _ _ q => q)) (pa_cons (pe_fld (pv 0) rfl) (pa_cons (pv 2) pa_nil))))
  (pss_one (ps_fld (pv 0) (pe_callTy call_tuple_of (by rfl) T.z_tuple (by decide +kernel) (pa_cons (pe_lc (own := [("listed", 3)]) (g := gName 3) (tt := tYes) rfl sc_Bare___init__.nd (pi_tup (pe_fld (pv 0) rfl)) (blkOk_by (own := [("listed", 3)]) (N := ["self", "befores", "end", "listed"]) (sc := defScope s_Bare___init__) (by decide +kernel)) (fun _ _ _ _ _ => pg_name (i := 3) sc_Bare___init__.nd rfl (Or.inl rfl)) (fun _ _ _ _ _ => pts_nil) (fun _ _ _ _ _ => (pe_call (ok_mask_of T) (hr.mono (by decide)) rfl T.m_mask_of T.F_mask_of.kp T.b_mask_of .nil pass0 (pa_cons (pv 3) pa_nil)))) pa_nil)) rfl))))))))), ?_⟩
    walk_at "sm"
    refine ⟨p, b0, rfl, ha, hb0, fun p0 H1 e1 h1 => ?_⟩
    replace he : e < (b0.map sb).length := by rw [List.length_map]; exact he
    obtain ⟨bs, hbs⟩ : ∃ bs, b0.map sb = bs := ⟨_, rfl⟩
    rw [hbs] at h1 hb hac he hrd k
    have x1 := e1 _ _ hx
    have fld : ∀ f, f = "befores" ∨ f = "end" ∨ f = "afters" ∨ f = "ordered" ∨ f = "needs" → NoAttr K a.c_Bare f := fun f h => by
      rcases h with rfl | rfl | rfl | rfl | rfl
      · exact T.na_Bare_befores
      · exact T.na_Bare_end
      · exact T.na_Bare_afters
      · exact T.na_Bare_ordered
      · exact T.na_Bare_needs
    refine ⟨_, _, _, x1, T.ic_Bare.cl, T.na_Bare_befores, by decide, ?_⟩
    have k1 := Kp.fr (H' := upd H1 x (.ins a.c_Bare dx (putF "befores" (.ref p0) []))) x1 Fr.upd
    have f1 := (Fr.of (p := x) e1).trans (H2 := upd H1 x (.ins a.c_Bare dx (putF "befores" (.ref p0) []))) Fr.upd
    have x2 : upd H1 x (.ins a.c_Bare dx (putF "befores" (.ref p0) [])) x = some (.ins a.c_Bare dx [("befores", .ref p0)]) := upd_same
    have h2 := h1.go k1
    generalize upd H1 x (.ins a.c_Bare dx (putF "befores" (.ref p0) [])) = H2 at k1 f1 x2 h2 ⊢
    obtain ⟨xs, hp2, hxs⟩ := id h2
    refine ⟨x, p0, dx, xs, e, rfl, x2, hp2, by rw [paired_len hxs]; exact he, _, rfl, iteF ⟨_, _, _, x2, T.ic_Bare.cl, T.na_Bare_end, (by show 1 < 1000; omega), _, _, _, upd_same, T.ic_Bare.cl, T.na_Bare_befores, _, rfl, ?_⟩⟩
    have k2 := Kp.fr (H' := upd H2 x (.ins a.c_Bare dx (putF "end" (.int e) [("befores", .ref p0)]))) x2 Fr.upd
    have f2 := f1.trans (H2 := upd H2 x (.ins a.c_Bare dx (putF "end" (.int e) [("befores", .ref p0)]))) Fr.upd
    have x3 : upd H2 x (.ins a.c_Bare dx (putF "end" (.int e) [("befores", .ref p0)])) x = some (.ins a.c_Bare dx [("befores", .ref p0), ("end", .int e)]) := upd_same
    have h3 := h2.go k2
    generalize upd H2 x (.ins a.c_Bare dx (putF "end" (.int e) [("befores", .ref p0)])) = H3 at k2 f2 x3 h3 ⊢
    refine ⟨p0, bs, rfl, h3, hb, fun af H4 e4 ha4 => ?_⟩
    have x4 := e4 _ _ x3
    have h4 := h3.go (Kp.ex e4)
    have f4 := f2.trans (Fr.of e4)
    refine ⟨_, _, _, x4, T.ic_Bare.cl, T.na_Bare_afters, (by show 2 < 1000; omega), _, _, _, upd_same, T.ic_Bare.cl, T.na_Bare_befores, _, rfl, ?_⟩
    have k5 := Kp.fr (H' := upd H4 x (.ins a.c_Bare dx (putF "afters" (.ref af) [("befores", .ref p0), ("end", .int e)]))) x4 Fr.upd
    have f5 := f4.trans (H2 := upd H4 x (.ins a.c_Bare dx (putF "afters" (.ref af) [("befores", .ref p0), ("end", .int e)]))) Fr.upd
    have x5 : upd H4 x (.ins a.c_Bare dx (putF "afters" (.ref af) [("befores", .ref p0), ("end", .int e)])) x = some (.ins a.c_Bare dx [("befores", .ref p0), ("end", .int e), ("afters", .ref af)]) := upd_same
    have h5 := h4.go k5
    have ha5 := ha4.go k5
    generalize upd H4 x (.ins a.c_Bare dx (putF "afters" (.ref af) [("befores", .ref p0), ("end", .int e)])) = H5 at k5 f5 x5 h5 ha5 ⊢
    walk_at "sm"
    refine ⟨_, _, _, x5, T.ic_Bare.cl, T.na_Bare_afters, _, rfl, p0, af, bs, rfl, h5, ha5, hb, hac, fun od H6 e6 ho6 => ?_⟩
    have x6 := e6 _ _ x5
    have h6 := h5.go (Kp.ex e6)
    have ha6 := ha5.go (Kp.ex e6)
    have f6 := f5.trans (Fr.of e6)
    have x7 : upd H6 x (.ins a.c_Bare dx (putF "ordered" (.ref od) [("befores", .ref p0), ("end", .int e), ("afters", .ref af)])) x = some (.ins a.c_Bare dx [("befores", .ref p0), ("end", .int e), ("afters", .ref af), ("ordered", .ref od)]) := upd_same
    have k7 := Kp.fr (H' := upd H6 x (.ins a.c_Bare dx (putF "ordered" (.ref od) [("befores", .ref p0), ("end", .int e), ("afters", .ref af)]))) x6 Fr.upd
    have f7 := f6.trans (H2 := upd H6 x (.ins a.c_Bare dx (putF "ordered" (.ref od) [("befores", .ref p0), ("end", .int e), ("afters", .ref af)]))) Fr.upd
    have h7 := h6.go k7
    have ha7 := ha6.go k7
    have ho7 := k7.1 _ _ ho6
    refine ⟨_, _, _, x6, T.ic_Bare.cl, T.na_Bare_ordered, (by show 3 < 1000; omega), ?_⟩
    generalize upd H6 x (.ins a.c_Bare dx (putF "ordered" (.ref od) [("befores", .ref p0), ("end", .int e), ("afters", .ref af)])) = H7 at x7 k7 f7 h7 ha7 ho7 ⊢
    obtain ⟨xs7, hp7, hxs7⟩ := id h7
    refine ⟨_, _, _, x7, T.ic_Bare.cl, T.na_Bare_ordered, _, rfl, od, rfl, _, .inr (SqT.of ho7), _, _, _, x7, T.ic_Bare.cl, T.na_Bare_befores, _, rfl, p0, rfl, xs7, .inr (SqT.of hp7), ?_⟩
    have l7 := paired_len hxs7
    refine iteN (by rw [nI_len, kah_len, l7]; omega) ?_
    walk_at "sm"
    refine ⟨_, _, _, x7, T.ic_Bare.cl, T.na_Bare_befores, _, rfl, p0, bs, e, rfl, h7, hb.arr, he, hrd, fun H8 e8 => ?_⟩
    have x8 := e8 _ _ x7
    have h8 := h7.go (Kp.ex e8)
    have ha8 := ha7.go (Kp.ex e8)
    have ho8 := e8 _ _ ho7
    have f8 := f7.trans (Fr.of e8)
    obtain ⟨xs8, hp8, hxs8⟩ := id h8
    have l8 := paired_len hxs8
    refine ⟨_, _, _, x8, T.ic_Bare.cl, T.na_Bare_befores, _, rfl, p0, rfl, ⟨_, SqT.of hp8⟩, lcg_tup (K := K) (a := p0) (xs := xs8) (ivBM H8 bs) (fun D hD => ⟨Evl.Ex.new hD, upd_same⟩) (fun D i HX hD hi h => SqT.of (h.1 _ _ hp8)) ?_ ?_⟩
    · rintro D i y HX hD hi ⟨g1, g2⟩
      obtain ⟨b, hb1, q, rfl, hq⟩ := paired_at hxs8 hi
      obtain ⟨c1, c2, c3⟩ := hb.2.2 i b hb1
      have li := (List.getElem?_eq_some_iff.mp hb1).1
      have lb := hb.2.1
      walk_at "sm"
      refine ⟨q, b, rfl, .inl (g1 _ _ hq), fun n hn => by have := c2 n hn; omega, _, g2, Nat.lt_of_le_of_lt (show _ ≤ 200 by rw [nI_len, List.length_map, List.length_take]; omega) (by decide), g1.mut hD, ?_⟩
      rw [upd_same, List.take_add_one, hb1, List.map_append, nI_app]
      rfl
    · rintro D HX hD ⟨g1, g2⟩
      walk_at "sm"
      rw [l8, List.take_length] at g2
      refine ⟨_, .inl ⟨SqL.of g2, fun l hl => ?_⟩⟩
      have e9 := (e8.trans g1).trans (Evl.Ex.new (o := .tup ((nI (bs.map msk)).map V.int)) hl)
      have g9 := g1.trans (Evl.Ex.new (o := .tup ((nI (bs.map msk)).map V.int)) hl)
      have hl9 : upd HX l (.tup ((nI (bs.map msk)).map V.int)) l = some (.tup ((nI (bs.map msk)).map V.int)) := upd_same
      generalize upd HX l (.tup ((nI (bs.map msk)).map V.int)) = H9 at e9 g9 hl9 ⊢
      have x9 := g9 _ _ x8
      have kz := Kp.fr (H' := upd H9 x (.ins a.c_Bare dx (putF "needs" (.ref l) [("befores", .ref p0), ("end", .int e), ("afters", .ref af), ("ordered", .ref od)]))) x9 Fr.upd
      refine ⟨_, _, _, x9, T.ic_Bare.cl, T.na_Bare_needs, (by show 4 < 1000; omega), k _ ((f8.trans (Fr.of g9)).trans Fr.upd) ?_⟩
      exact ⟨dx, p0, af, od, l, upd_same, (h8.go (Kp.ex g9)).go kz, (ha8.go (Kp.ex g9)).go kz, kz.1 _ _ (g9 _ _ ho8), kz.1 _ _ hl9⟩
end


/-! ### the game of hues (pure) -/
/-- reds and blues: some red place has all its befores blue -/
def ov (bs : List (List Nat)) (r b : Nat) : Bool := (List.range bs.length).any fun p => r.testBit p && (row bs p).all fun x => b.testBit x
def up (bs : List (List Nat)) (r b : Nat) : List Nat := (List.range bs.length).filter fun p => !(r ||| b).testBit p
theorem up_mem {bs : List (List Nat)} {r b p : Nat} : p ∈ up bs r b ↔ p < bs.length ∧ r.testBit p = false ∧ b.testBit p = false := by
  unfold up
  rw [List.mem_filter, List.mem_range, Nat.testBit_or, Bool.not_eq_true', Bool.or_eq_false_iff]
theorem up_nd (bs : List (List Nat)) (r b : Nat) : (up bs r b).Nodup := ((range_lt _).imp fun z => Nat.ne_of_lt z).filter _
theorem up_len (bs : List (List Nat)) (r b : Nat) : (up bs r b).length ≤ bs.length := Nat.le_trans (List.length_filter_le _ _) (Nat.le_of_eq (List.length_range ..))
theorem bit_add {r p x : Nat} : (r ||| 2 ^ p).testBit x = (r.testBit x || decide (x = p)) := by rw [Nat.testBit_or, bit_pow]
theorem filt_one {q : Nat} : ∀ {l : List Nat}, l.Nodup → q ∈ l → (l.filter fun p => decide (p ≠ q)).length + 1 = l.length
  | x :: l, h, m => by
    obtain ⟨h1, h2⟩ := List.nodup_cons.mp h
    rw [List.filter_cons]
    by_cases e : x = q
    · subst e
      rw [if_neg (by simp), List.filter_eq_self.mpr fun y hy => by have : y ≠ x := fun z => h1 (z ▸ hy); simpa using this]
      rfl
    · rw [if_pos (by simpa using e), List.length_cons, List.length_cons]
      have := filt_one h2 ((List.mem_cons.mp m).resolve_left fun z => e z.symm)
      omega
theorem up_red {bs : List (List Nat)} {r b p : Nat} (h : p ∈ up bs r b) : (up bs (r ||| 2 ^ p) b).length + 1 = (up bs r b).length := by
  have e : up bs (r ||| 2 ^ p) b = (up bs r b).filter fun x => decide (x ≠ p) := by
    unfold up
    rw [List.filter_filter]
    refine List.filter_congr fun x _ => ?_
    simp only [Nat.testBit_or, bit_pow]
    by_cases c : x = p <;> simp [c]
  rw [e]
  exact filt_one (up_nd bs r b) h
theorem up_blue {bs : List (List Nat)} {r b p : Nat} (h : p ∈ up bs r b) : (up bs r (b ||| 2 ^ p)).length + 1 = (up bs r b).length := by
  have e : up bs r (b ||| 2 ^ p) = (up bs r b).filter fun x => decide (x ≠ p) := by
    unfold up
    rw [List.filter_filter]
    refine List.filter_congr fun x _ => ?_
    simp only [Nat.testBit_or, bit_pow]
    by_cases c : x = p <;> simp [c]
  rw [e]
  exact filt_one (up_nd bs r b) h
def mnL (l : List Nat) : Nat := (l.min?).getD 0
theorem mnL_mem {l : List Nat} (h : l ≠ []) : mnL l ∈ l ∧ ∀ x ∈ l, mnL l ≤ x := by
  cases e : l.min? with
  | none => exact absurd (List.min?_eq_none_iff.mp e) h
  | some m =>
    unfold mnL
    rw [e]
    exact (List.min?_eq_some_iff).mp e
theorem mnL_uniq {l : List Nat} {m : Nat} (h1 : m ∈ l) (h2 : ∀ x ∈ l, m ≤ x) : m = mnL l := by
  obtain ⟨a, b⟩ := mnL_mem (l := l) (fun z => by rw [z] at h1; cases h1)
  have := b m h1
  have := h2 _ a
  omega
/-- how many names are needed behind a painting: at most k places are not painted -/
def nbF (bs : List (List Nat)) : Nat → Nat → Nat → Nat
  | 0, r, b => if ov bs r b = true then 0 else 1
  | k + 1, r, b => if ov bs r b = true then 0 else 1 + mnL ((up bs r b).map fun p => max (nbF bs k (r ||| 2 ^ p) b) (nbF bs k r (b ||| 2 ^ p)))
def nb (bs : List (List Nat)) (r b : Nat) : Nat := nbF bs (up bs r b).length r b
theorem nbF_nb (bs : List (List Nat)) : ∀ (k r b : Nat), (up bs r b).length ≤ k → nbF bs k r b = nb bs r b
  | 0, r, b, h => by
    unfold nb
    rw [Nat.le_zero.mp h]
  | k + 1, r, b, h => by
    have ih := nbF_nb bs k
    unfold nb
    cases e : (up bs r b).length with
    | zero =>
      have : up bs r b = [] := List.length_eq_zero_iff.mp e
      show (if ov bs r b = true then 0 else 1 + mnL ((up bs r b).map _)) = (if ov bs r b = true then 0 else 1)
      rw [this]
      rfl
    | succ l =>
      show (if ov bs r b = true then 0 else 1 + mnL ((up bs r b).map fun p => max (nbF bs k (r ||| 2 ^ p) b) (nbF bs k r (b ||| 2 ^ p)))) = (if ov bs r b = true then 0 else 1 + mnL ((up bs r b).map fun p => max (nbF bs l (r ||| 2 ^ p) b) (nbF bs l r (b ||| 2 ^ p))))
      have : (up bs r b).map (fun p => max (nbF bs k (r ||| 2 ^ p) b) (nbF bs k r (b ||| 2 ^ p))) = (up bs r b).map fun p => max (nbF bs l (r ||| 2 ^ p) b) (nbF bs l r (b ||| 2 ^ p)) := by
        refine List.map_congr_left fun p hp => ?_
        have h1 := up_red hp
        have h2 := up_blue hp
        rw [ih _ _ (by omega), ih _ _ (by omega)]
        unfold nb
        rw [show (up bs (r ||| 2 ^ p) b).length = l by omega, show (up bs r (b ||| 2 ^ p)).length = l by omega]
      rw [this]
def wrs (bs : List (List Nat)) (r b p : Nat) : Nat := max (nb bs (r ||| 2 ^ p) b) (nb bs r (b ||| 2 ^ p))
theorem nb_eq (bs : List (List Nat)) (r b : Nat) : nb bs r b = if ov bs r b = true then 0 else 1 + mnL ((up bs r b).map (wrs bs r b)) := by
  rw [← nbF_nb bs ((up bs r b).length + 1) r b (Nat.le_succ _)]
  show (if ov bs r b = true then 0 else 1 + mnL ((up bs r b).map fun p => max (nbF bs (up bs r b).length (r ||| 2 ^ p) b) (nbF bs (up bs r b).length r (b ||| 2 ^ p)))) = _
  have : (up bs r b).map (fun p => max (nbF bs (up bs r b).length (r ||| 2 ^ p) b) (nbF bs (up bs r b).length r (b ||| 2 ^ p))) = (up bs r b).map (wrs bs r b) := by
    refine List.map_congr_left fun p hp => ?_
    have h1 := up_red hp
    have h2 := up_blue hp
    rw [nbF_nb bs _ _ _ (by omega), nbF_nb bs _ _ _ (by omega)]
    rfl
  rw [this]
/-- a painting that is one: a red place, all painted places are the web's -/
structure Pnt (bs : List (List Nat)) (r b : Nat) : Prop where
  red : ∃ p, p < bs.length ∧ r.testBit p = true
  dis : ∀ p, r.testBit p = true → b.testBit p = false
  low : ∀ p, r.testBit p = true ∨ b.testBit p = true → p < bs.length
theorem Pnt.addR {bs : List (List Nat)} {r b p : Nat} (h : Pnt bs r b) (hp : p ∈ up bs r b) : Pnt bs (r ||| 2 ^ p) b := by
  obtain ⟨h1, h2, h3⟩ := up_mem.mp hp
  refine ⟨⟨p, h1, by rw [bit_add, decide_eq_true rfl, Bool.or_true]⟩, fun x hx => ?_, fun x hx => ?_⟩
  · rw [bit_add, Bool.or_eq_true, decide_eq_true_eq] at hx
    rcases hx with g | rfl
    · exact h.dis x g
    · exact h3
  · rw [bit_add, Bool.or_eq_true, decide_eq_true_eq] at hx
    rcases hx with (g | rfl) | g
    · exact h.low x (.inl g)
    · exact h1
    · exact h.low x (.inr g)
theorem Pnt.addB {bs : List (List Nat)} {r b p : Nat} (h : Pnt bs r b) (hp : p ∈ up bs r b) : Pnt bs r (b ||| 2 ^ p) := by
  obtain ⟨h1, h2, h3⟩ := up_mem.mp hp
  refine ⟨h.red, fun x hx => ?_, fun x hx => ?_⟩
  · rw [bit_add, h.dis x hx, Bool.false_or]
    exact decide_eq_false fun z => by rw [z, h2] at hx; cases hx
  · rw [bit_add, Bool.or_eq_true, decide_eq_true_eq] at hx
    rcases hx with g | g | rfl
    · exact h.low x (.inl g)
    · exact h.low x (.inr g)
    · exact h1
/-- where nothing is over, a place is left to be painted -/
theorem up_some {bs : List (List Nat)} (k : BefOk bs) (ac : Acy bs) {r b : Nat} (h : Pnt bs r b) (ho : ov bs r b = false) : up bs r b ≠ [] := by
  obtain ⟨rk, ac⟩ := ac
  have go : ∀ (n p : Nat), rk p ≤ n → p < bs.length → r.testBit p = true → ∃ q, q ∈ up bs r b := by
    intro n
    induction n with
    | zero =>
      intro p hn hp hr
      have : ¬ ((row bs p).all fun x => b.testBit x) = true := fun z => by
        have : ov bs r b = true := List.any_eq_true.mpr ⟨p, List.mem_range.mpr hp, by rw [hr, z]; rfl⟩
        rw [ho] at this; cases this
      rw [List.all_eq_true] at this
      by_cases c : ∃ x, x ∈ row bs p ∧ b.testBit x = false
      · obtain ⟨x, hx, _⟩ := c
        have := ac p x hx
        omega
      · exact absurd (fun x hx => by
          cases e : b.testBit x with
          | true => rfl
          | false => exact absurd ⟨x, hx, e⟩ c) this
    | succ n ih =>
      intro p hn hp hr
      have : ¬ ((row bs p).all fun x => b.testBit x) = true := fun z => by
        have : ov bs r b = true := List.any_eq_true.mpr ⟨p, List.mem_range.mpr hp, by rw [hr, z]; rfl⟩
        rw [ho] at this; cases this
      rw [List.all_eq_true] at this
      by_cases c : ∃ x, x ∈ row bs p ∧ b.testBit x = false
      · obtain ⟨x, hx, hb⟩ := c
        have lt := ac p x hx
        have xl := (row_lt k hx).1
        cases e : r.testBit x with
        | true => exact ih x (by omega) xl e
        | false => exact ⟨x, up_mem.mpr ⟨xl, e, hb⟩⟩
      · exact absurd (fun x hx => by
          cases e : b.testBit x with
          | true => rfl
          | false => exact absurd ⟨x, hx, e⟩ c) this
  obtain ⟨p, hp, hr⟩ := h.red
  obtain ⟨q, hq⟩ := go (rk p) p (Nat.le_refl _) hp hr
  exact List.ne_nil_of_mem hq
theorem nb_le {bs : List (List Nat)} (k : BefOk bs) (ac : Acy bs) : ∀ (n r b : Nat), (up bs r b).length ≤ n → Pnt bs r b → nb bs r b ≤ (up bs r b).length
  | n, r, b, hn, h => by
    rw [nb_eq]
    cases e : ov bs r b with
    | true => rw [if_pos rfl]; omega
    | false =>
      rw [if_neg (by decide)]
      have ne := up_some k ac h e
      obtain ⟨p, l, hp⟩ := List.exists_cons_of_ne_nil ne
      have pm : p ∈ up bs r b := by rw [hp]; exact List.mem_cons_self
      obtain ⟨_, q2⟩ := mnL_mem (l := (up bs r b).map (wrs bs r b)) (by rw [hp]; simp)
      have q3 := q2 _ (List.mem_map_of_mem pm)
      have h1 := up_red pm
      have h2 := up_blue pm
      cases n with
      | zero => omega
      | succ n =>
        have i1 := nb_le k ac n _ _ (by omega) (h.addR pm)
        have i2 := nb_le k ac n _ _ (by omega) (h.addB pm)
        have : wrs bs r b p ≤ (up bs r b).length - 1 := by unfold wrs; omega
        omega
theorem nb_zero {bs : List (List Nat)} {r b : Nat} : nb bs r b = 0 ↔ ov bs r b = true := by
  rw [nb_eq]
  cases ov bs r b with
  | true => exact ⟨fun _ => rfl, fun _ => rfl⟩
  | false =>
    rw [if_neg (by decide)]
    exact ⟨fun z => by omega, fun z => absurd z (by decide)⟩
/-- plans: a place, what is done if it is red, if it is blue; and what is none -/
inductive Pl | leaf | node (p : Int) (x y : Pl) | bad (d : PyData)
def Pl.D : Pl → PyData
  | .leaf => .tuple []
  | .node p x y => .tuple [.int p, x.D, y.D]
  | .bad d => d
def Pl.nw (bs : List (List Nat)) : Pl → Nat → Nat → Option Str
  | .bad _, _, _ => some "form"
  | .leaf, r, b => if ov bs r b = true then none else some "early"
  | .node p x y, r, b => if ov bs r b = true then some "idle" else if ¬ (0 ≤ p ∧ p < bs.length) ∨ (r ||| b).testBit p.toNat = true then some "place" else
    match x.nw bs (r ||| 2 ^ p.toNat) b with
    | some w => some w
    | none => y.nw bs r (b ||| 2 ^ p.toNat)
def Pl.dep : Pl → Nat
  | .node _ x y => 1 + max x.dep y.dep
  | _ => 0
/-- the plan that is told -/
def npl (bs : List (List Nat)) : Nat → Nat → Nat → Pl
  | 0, _, _ => .leaf
  | k + 1, r, b => if nb bs r b = 0 then .leaf else
    let p := ((up bs r b).find? fun p => decide (wrs bs r b p < nb bs r b)).getD 0
    .node p (npl bs k (r ||| 2 ^ p) b) (npl bs k r (b ||| 2 ^ p))
theorem help_one {bs : List (List Nat)} (k : BefOk bs) (ac : Acy bs) {r b : Nat} (h : Pnt bs r b) (hz : nb bs r b ≠ 0) : ∃ p, (up bs r b).find? (fun p => decide (wrs bs r b p < nb bs r b)) = some p ∧ p ∈ up bs r b ∧ wrs bs r b p + 1 = nb bs r b := by
  have ho : ov bs r b = false := by
    cases e : ov bs r b with
    | false => rfl
    | true => exact absurd (nb_zero.mpr e) hz
  have eq := nb_eq bs r b
  rw [ho, if_neg (by decide)] at eq
  have ne := up_some k ac h ho
  obtain ⟨m1, m2⟩ := mnL_mem (l := (up bs r b).map (wrs bs r b)) (by simpa using ne)
  obtain ⟨q, hq, hq2⟩ := List.mem_map.mp m1
  cases e : (up bs r b).find? fun p => decide (wrs bs r b p < nb bs r b) with
  | none =>
    have := List.find?_eq_none.mp e q hq
    simp only [decide_eq_true_eq] at this
    omega
  | some p =>
    have h1 := List.find?_some e
    have h2 := List.mem_of_find?_eq_some e
    simp only [decide_eq_true_eq] at h1
    have := m2 _ (List.mem_map_of_mem h2)
    exact ⟨p, rfl, h2, by omega⟩
/-- the plan that is told is right, and as deep as the names -/
theorem npl_ok {bs : List (List Nat)} (k : BefOk bs) (ac : Acy bs) : ∀ (n r b : Nat), (up bs r b).length ≤ n → Pnt bs r b → (npl bs n r b).nw bs r b = none ∧ (npl bs n r b).dep = nb bs r b
  | n, r, b, hn, h => by
    by_cases z : nb bs r b = 0
    · have ho := nb_zero.mp z
      have : npl bs n r b = .leaf := by
        cases n with
        | zero => rfl
        | succ n =>
          unfold npl
          rw [if_pos z]
      rw [this, z]
      refine ⟨?_, rfl⟩
      unfold Pl.nw
      rw [if_pos ho]
    · have ho : ov bs r b = false := by
        cases e : ov bs r b with
        | false => rfl
        | true => exact absurd (nb_zero.mpr e) z
      obtain ⟨p, e, pm, w⟩ := help_one k ac h z
      have h1 := up_red pm
      have h2 := up_blue pm
      obtain ⟨u1, u2, u3⟩ := up_mem.mp pm
      cases n with
      | zero => omega
      | succ n =>
        have en : npl bs (n + 1) r b = .node p (npl bs n (r ||| 2 ^ p) b) (npl bs n r (b ||| 2 ^ p)) := by
          show (if nb bs r b = 0 then Pl.leaf else _) = _
          rw [if_neg z, e]
          rfl
        obtain ⟨i1, i2⟩ := npl_ok k ac n _ _ (by omega) (h.addR pm)
        obtain ⟨j1, j2⟩ := npl_ok k ac n _ _ (by omega) (h.addB pm)
        rw [en]
        constructor
        · show (if ov bs r b = true then _ else if ¬ (0 ≤ (p : Int) ∧ (p : Int) < bs.length) ∨ (r ||| b).testBit (p : Int).toNat = true then _ else match Pl.nw bs (npl bs n (r ||| 2 ^ p) b) (r ||| 2 ^ (p : Int).toNat) b with
            | some w => some w
            | none => Pl.nw bs (npl bs n r (b ||| 2 ^ p)) r (b ||| 2 ^ (p : Int).toNat)) = none
          rw [ho, if_neg (by decide), Int.toNat_natCast, if_neg, i1]
          · exact j1
          · rintro (q | q)
            · exact q ⟨by omega, by omega⟩
            · rw [Nat.testBit_or, u2, u3] at q
              cases q
        · show 1 + max (npl bs n (r ||| 2 ^ p) b).dep (npl bs n r (b ||| 2 ^ p)).dep = _
          rw [i2, j2, ← w]
          unfold wrs
          omega


/-! ### errors with one field; len of an own object -/
def spInit1 (C : Addr) (f1 : Str) : Sp := fun vs H Q _ => ∃ (e : Addr) (x : V), vs = [.ref e, x] ∧ H e = some (exo e C none) ∧
  ∀ (d : Addr) (H' : Hp), H d = none → d ≠ e → Fr e H H' → H' e = some (exo e C (some d)) → H' d = some (exd d [(f1, x)]) → Q .non H'
theorem mk1 {C : Addr} {f1 : Str} {x : V} {H1 : Hp} {Q : XK} (k : ∀ (d : Addr) (H' : Hp), Evl.Ex H1 H' → H' d = some (.xd [(f1, x)]) → Q (.ref C) (some d) H') :
    mkO C (spInit1 C f1) [] [x] H1 Q := by
  refine ⟨by show 1 ≤ 1000; omega, fun e he => ⟨e, x, rfl, upd_same, fun d H' hd hne hf h1 h2 => ⟨rfl, d, _, h1, h2, ?_, ?_⟩⟩⟩
  · rw [upd_ne hne] at hd
    exact hd
  · refine k d _ (fun b o hb => ?_) upd_same
    have nbe : b ≠ e := ne_of_none hb he
    rw [upd_ne hne] at hd
    have nbd : b ≠ d := ne_of_none hb hd
    rw [upd_ne nbd, del_ne nbe]
    exact hf b o nbe (by rw [upd_ne nbe]; exact hb)

section
variable {X : Cx} {n : Nat} {CX : CXT} {C f : Addr} {fd : FuncData} {ps : List Str} {sp : Sp} {E : XK} {A : Around} {pins : List (Addr × Obj)} {σ : L2.St} {H : Hp} {s : Shared} {a : Addr} {R : Value → Shared → Prop}
theorem call_one (F : FnOk X.prog X.w X.K X.mg X.base CX n f fd ps sp) (hb : Binds X.K fd ps []) (hx : Passes CX X E) (sb : L2.Sub X n A) (I : Inv X pins σ H s) {Qv : VK} (h : sp [.ref a] H Qv E)
    (q : ∀ v H' s' z, Inv X pins σ H' s' → RelV v z → Qv v H' → R z s') : wpAny (model X.prog X.w) A (call (.ref f) [.ref a]) R X.xe s := by
  have here := I.env0
  have e0 : Env0 X.prog X.w X.K X.mg X.base A X.stack s H := { here with frames := by rw [sb.fr]; exact here.frames }
  have hl := F.len _ _ _ _ h
  have one : Vals [V.ref a] [Value.ref a] := .cons rfl .nil
  have hbd := hb s [.ref a] I.kIn (by simpa using hl)
  refine wpAny_call (codeAny_mono (F.run A X.stack s H ⟨[.ref a], []⟩ [.ref a] [.ref a] Qv E sb.room e0 (by simpa using hbd) one h) fun r s' hq => ?_)
  cases r with
  | error e => exact hx pins σ H s e s' I hq
  | ok fl => cases fl with
    | ret w' =>
      obtain ⟨z, H', I', rz, ez⟩ := I.after hq
      exact q z H' s' w' I' rz ez
    | next => exact False.elim hq
    | brk => exact False.elim hq
    | cont => exact False.elim hq
/-- len(x) of an object with the own __len__ -/
def rLenI (C : Addr) (sp : Sp) (E : XK) : List V → Hp → VK → Prop := fun xs H Q => ∃ a dx fs, xs = [.ref a] ∧ H a = some (.ins C dx fs) ∧ sp [.ref a] H (fun v H' => ∃ n : Nat, v = .int n ∧ n ≤ 1000000 ∧ Q (.int n) H') E
theorem call_lenI (F : FnOk X.prog X.w X.K X.mg X.base CX n f fd ps sp) (hs : PySem.W.findIn X.K (.ref C) "__len__" = some (some (.ref f))) (hf : PySem.W.isFn X.K (.ref f) = true) (hb : Binds X.K fd ps []) (hx : Passes CX X E) (hr : Room (n + 1) X.A) : CallR X (.builtin "len") (rLenI C sp E) := by
  intro pins s σ H xs us Q I r h
  obtain ⟨a, dx, fs, rfl, ha, h⟩ := h
  obtain ⟨u1, rfl, r1⟩ := vals1 r
  obtain rfl : u1 = Value.ref a := r1
  obtain ⟨mA, J, _⟩ := ins_get I.hok ha
  obtain ⟨od, J, _⟩ := J.look
  obtain ⟨m, hF⟩ := I.fr
  have room : Room n X.A.in1 := ⟨hr.hd, by have := hr.dp; show X.A.depth + 3 * n + 5 < recursionLimit; omega, by have := hr.un; show X.A.units + 1 + 16 * n + 200 < cLine; omega⟩
  refine PySem.W.len_K hF I.ok.mod.kin J hs hf ?_
  refine call_one F hb hx ⟨room, rfl⟩ I h fun v H' s' z I' rz ez => ?_
  obtain ⟨k, rfl, hk, q⟩ := ez
  obtain ⟨t, rfl⟩ := rz
  refine ⟨⟨by omega, by omega⟩, .int k, H', I'.kept (t' := _) fun _ _ z => z, ⟨_, rfl⟩, q⟩
end
section
variable {P : Program} {w : World} {K : PySem.W.Frag} {mg : Str → Option Value} {base : Heap} {a : Ad}
theorem ok_TooMany_init (T : Txt K mg a) : FnOk P w K mg base CX0 1 a.f_TooMany___init__ a.d_TooMany___init__ ["self", "most"] (spInit1 a.c_TooMany "most") := by
  refine T.F_TooMany___init__.ok sc_TooMany___init__ (fun vs H Q E h => ?_) (fun cdv A outer s H vs Q E hr h => ?_)
  · obtain ⟨e, x, rfl, _⟩ := h
    rfl
  · obtain ⟨e, x, rfl, he, k⟩ := h
    refine ⟨_, pss_one (ps_asg (pv 1) (pg_ost (pv 0))), ?_⟩
    refine ⟨_, rfl, _, rfl, e, a.c_TooMany, rfl, T.x_TooMany, T.xn_TooMany_most, .inl ⟨he, fun dx hdx hne => ?_⟩⟩
    refine k dx _ hdx hne (fun b o nb hb => ?_) upd_same (by rw [upd_ne hne, upd_same])
    rw [upd_ne nb, upd_ne (ne_of_none hb hdx)]
    exact hb
theorem ok_BadPainting_init (T : Txt K mg a) : FnOk P w K mg base CX0 1 a.f_BadPainting___init__ a.d_BadPainting___init__ ["self", "what"] (spInit1 a.c_BadPainting "what") := by
  refine T.F_BadPainting___init__.ok sc_BadPainting___init__ (fun vs H Q E h => ?_) (fun cdv A outer s H vs Q E hr h => ?_)
  · obtain ⟨e, x, rfl, _⟩ := h
    rfl
  · obtain ⟨e, x, rfl, he, k⟩ := h
    refine ⟨_, pss_one (ps_asg (pv 1) (pg_ost (pv 0))), ?_⟩
    refine ⟨_, rfl, _, rfl, e, a.c_BadPainting, rfl, T.x_BadPainting, T.xn_BadPainting_what, .inl ⟨he, fun dx hdx hne => ?_⟩⟩
    refine k dx _ hdx hne (fun b o nb hb => ?_) upd_same (by rw [upd_ne hne, upd_same])
    rw [upd_ne nb, upd_ne (ne_of_none hb hdx)]
    exact hb
def spBL_ (a : Ad) : Sp := fun vs H Q _ => ∃ (x : Addr) (bs : List (List Nat)) (e : Nat), vs = [.ref x] ∧ BareAt a.c_Bare H x bs e ∧ Q (.int bs.length) H
theorem ok_Bare_len (T : Txt K mg a) : FnOk P w K mg base CX0 1 a.f_Bare___len__ a.d_Bare___len__ ["self"] (spBL_ a) := by
  refine T.F_Bare___len__.ok sc_Bare___len__ (fun vs H Q E h => ?_) (fun cdv A outer s H vs Q E hr h => ?_)
  · obtain ⟨_, _, _, rfl, _⟩ := h
    rfl
  · obtain ⟨x, bs, e, rfl, hB, k⟩ := h
    obtain ⟨dx, p, af, od, nd, h1, ⟨xs, h2, h3⟩, _⟩ := hB
    have lx := paired_len h3
    refine ⟨_, (pss_one (ps_ret (pe_callB call_len_seq (by rfl) T.z_len (by decide +kernel) (pa_cons (pe_fld (pv 0) rfl) pa_nil)))), ?_⟩
    walk_at "sm"
    refine ⟨_, _, _, h1, T.ic_Bare.cl, T.na_Bare_befores, _, rfl, p, rfl, xs, .inr (SqT.of h2), ?_⟩
    rw [lx]
    exact k
def spCS_ (a : Ad) : Sp := fun vs H Q E => ∃ (x : Addr) (bs : List (List Nat)) (e : Nat), vs = [.ref x] ∧ BareAt a.c_Bare H x bs e ∧ bs.length ≤ 200 ∧ (bs.length ≤ 8 → Q (.ref x) H) ∧ (8 < bs.length → ∀ d H', Evl.Ex H H' → H' d = some (.xd [("most", .int 8)]) → E (.ref a.c_TooMany) (some d) H')
theorem ok_check_small (T : Txt K mg a) : FnOk P w K mg base (L2.CX P w) 3 a.f_check_small a.d_check_small ["bare"] (spCS_ a) := by
  refine T.F_check_small.okX sc_check_small (fun vs H Q E h => ?_) (fun cdv A outer s H vs Q E hr h => ?_)
  · obtain ⟨_, _, _, rfl, _⟩ := h
    rfl
  · obtain ⟨x, bs, e, rfl, hB, hl, k1, k2⟩ := h
    refine ⟨_, (pss_cons (ps_if (pt_cmpR op_gt (pe_callB (call_lenI (ok_Bare_len T) T.at_Bare___len__ T.fn_Bare___len__ T.b_Bare___len__ pass0 (hr.mono (by decide))) (by rfl) T.z_len (by decide +kernel) (pa_cons (pv 0) pa_nil)) (pe_glob rfl T.g_MOST_SEARCHED.choose_spec.1 T.g_MOST_SEARCHED.choose_spec.2) (nomark _)) (pss_one (ps_raise rfl (takes_of rfl rfl rfl rfl) (pmk_oex T.x_TooMany T.xi_TooMany T.xt_TooMany (ok_TooMany_init T) (hr.mono (by decide)) T.b_TooMany___init__ .nil pass0 rfl T.m_TooMany (pa_cons (pe_glob rfl T.g_MOST_SEARCHED.choose_spec.1 T.g_MOST_SEARCHED.choose_spec.2) pa_nil))))
    pss_nil)
  (pss_one (ps_ret (pv 0)))), ?_⟩
    have hB' := hB
    obtain ⟨dx, p, af, od, nd, h1, _⟩ := hB'
    walk_at "sm"
    refine ⟨x, dx, _, rfl, h1, x, bs, e, rfl, hB, bs.length, rfl, by omega, ?_⟩
    by_cases c : bs.length ≤ 8
    · exact ⟨_, rfl, iteN (by omega) (k1 c)⟩
    · exact ⟨_, rfl, iteP (by omega) (mk1 (k2 (by omega)))⟩
def spPl (a : Ad) : Sp := fun vs H Q _ => ∃ (x : Addr) (bs : List (List Nat)) (e : Nat) (v : V), vs = [.ref x, v] ∧ BareAt a.c_Bare H x bs e ∧ PlainV H v ∧ Q (.bl (wiB v 0 ((bs.length : Int) - 1))) H
theorem ok_is_placeG (T : Txt K mg a) : FnOk P w K mg base CX0 3 a.f_is_place a.d_is_place ["bare", "thing"] (spPl a) := by
  refine T.F_is_place.ok sc_is_place (fun vs H Q E h => ?_) (fun cdv A outer s H vs Q E hr h => ?_)
  · obtain ⟨_, _, _, _, rfl, _⟩ := h
    rfl
  · obtain ⟨x, bs, e, v, rfl, hB, hv, k⟩ := h
    obtain ⟨dx, p, af, od, nd, h1, ⟨xs, h2, h3⟩, _⟩ := hB
    have lx := paired_len h3
    refine ⟨_, (pss_one (ps_ret (pe_call (ok_is_within T) (hr.mono (by decide)) rfl T.m_is_within T.F_is_within.kp T.b_is_within .nil pass0 (pa_cons (pv 1) (pa_cons pe_int (pa_cons (pe_op op_sub (pe_callB call_len_seq (by rfl) T.z_len (by decide +kernel) (pa_cons (pe_fld (pv 0) rfl) pa_nil)) pe_int) pa_nil)))))), ?_⟩
    walk_at "sm"
    refine ⟨_, _, _, h1, T.ic_Bare.cl, T.na_Bare_befores, _, rfl, p, rfl, xs, .inr (SqT.of h2), v, 0, _, rfl, hv, ?_⟩
    rw [lx]
    exact k
end


/-! ### paintings that are handed in -/
section
variable {X : Cx}
theorem PG_or {t : Expr} {r1 r2 : TG} (h1 : PG X t r1) (h2 : PG X t r2) : PG X t (fun v σ H Q => r1 v σ H Q ∨ r2 v σ H Q) :=
  ⟨fun pins s σ H v u Q I r h => h.elim (h1.run pins s σ H v u Q I r) (h2.run pins s σ H v u Q I r)⟩
end
def isP (n : Nat) (y : V) : Bool := wiB y 0 ((n : Int) - 1)
theorem isP_int {n p : Nat} : isP n (.int p) = decide (p < n) := by
  show (decide ((0 : Int) ≤ (p : Int)) && decide ((p : Int) ≤ (n : Int) - 1)) = _
  rw [decide_eq_true (show (0 : Int) ≤ (p : Int) by omega), Bool.true_and]
  exact decide_eq_decide.mpr ⟨fun h => by omega, fun h => by omega⟩
theorem isP_true {n : Nat} {y : V} (h : isP n y = true) : ∃ p : Nat, y = .int p ∧ p < n := by
  cases y with
  | int i =>
    have : (decide ((0 : Int) ≤ i) && decide (i ≤ (n : Int) - 1)) = true := h
    rw [Bool.and_eq_true, decide_eq_true_eq, decide_eq_true_eq] at this
    exact ⟨i.toNat, by rw [Int.toNat_of_nonneg this.1], by omega⟩
  | _ => cases h
/-- what is told as different places: they, or none -/
def UlV (H : Hp) (n : Nat) (v : V) : Option (List Nat) → Prop
  | some l => ∃ q, v = .ref q ∧ SqAt H q ((nI l).map V.int) ∧ l.Nodup ∧ ∀ p ∈ l, p < n
  | none => (PlainV H v ∧ sqV v = false) ∨ ∃ q ys, v = .ref q ∧ SqAt H q ys ∧ ys.length ≤ 60 ∧ (∀ y ∈ ys, PlainV H y) ∧ (ys.all (isP n) = false ∨ ∃ l : List Nat, ys = (nI l).map V.int ∧ (∀ p ∈ l, p < n) ∧ ¬ l.Nodup)
theorem UlV.go {H H' : Hp} {n : Nat} {v : V} {o : Option (List Nat)} (e : Evl.Ex H H') (h : UlV H n v o) : UlV H' n v o := by
  cases o with
  | some l =>
    obtain ⟨q, h1, h2, h3⟩ := h
    exact ⟨q, h1, h2.go e, h3⟩
  | none =>
    rcases h with h | ⟨q, ys, h1, h2, h3, h4, h5⟩
    · exact .inl ⟨h.1.go e, h.2⟩
    · exact .inr ⟨q, ys, h1, h2.go e, h3, fun y hy => (h4 y hy).go e, h5⟩
section
variable {P : Program} {w : World} {K : PySem.W.Frag} {mg : Str → Option Value} {base : Heap} {a : Ad}
def spUl (a : Ad) : Sp := fun vs H Q _ => ∃ (x : Addr) (bs : List (List Nat)) (e : Nat) (v : V) (o : Option (List Nat)), vs = [.ref x, v] ∧ BareAt a.c_Bare H x bs e ∧ bs.length ≤ 60 ∧ UlV H bs.length v o ∧ ∀ H', Evl.Ex H H' → Q (.bl o.isSome) H'
def ivUl (H : Hp) (ys : List V) (n : Nat) (D : Addr) (i : Nat) (H' : Hp) : Prop := Evl.Ex H H' ∧ H' D = some (.lst (((ys.take i).map (isP n)).map V.bl))
theorem ints_plain' {H : Hp} (ns : List Int) : ∀ z ∈ ns.map V.int, PlainV H z := fun z hz => by
  obtain ⟨n, _, rfl⟩ := List.mem_map.mp hz
  exact plain_int
theorem ok_is_unlike (T : Txt K mg a) : FnOk P w K mg base CX0 5 a.f_is_unlike a.d_is_unlike ["bare", "thing"] (spUl a) := by
  refine T.F_is_unlike.ok sc_is_unlike (fun vs H Q E h => ?_) (fun cdv A outer s H vs Q E hr h => ?_)
  · obtain ⟨_, _, _, _, _, rfl, _⟩ := h
    rfl
  · obtain ⟨x, bs, e, v, o, rfl, hB, hn, hv, k⟩ := h
    refine ⟨_, (pss_cons (ps_if (PW.pt (pw_or (pt_not (pt_val (pe_call (ok_is_sequence T) (hr.mono (by decide)) rfl T.m_is_sequence T.F_is_sequence.kp T.b_is_sequence .nil pass0 (pa_cons (pv 1) pa_nil)))) (pw_or1 (pt_not (pt_val (pe_callB (cr_all rfl) (by rfl) T.z_all (by decide +kernel) (pa_cons (pe_lc (own := [("place", 2)]) (g := gName 2) (tt := tYes) rfl sc_is_unlike.nd (pi_or (pi_list (pv 1)) (pi_tup (pv 1))) (blkOk_by (own := [("place", 2)]) (N := ["bare", "thing", "place"]) (sc := defScope s_is_unlike) (by decide +kernel)) (fun _ _ _ _ _ => pg_name (i := 2) sc_is_unlike.nd rfl (Or.inl rfl)) (fun _ _ _ _ _ => pts_nil) (fun _ _ _ _ _ => (pe_call (ok_is_placeG T) (hr.mono (by decide)) rfl T.m_is_place T.F_is_place.kp T.b_is_place .nil pass0 (pa_cons (pv 0) (pa_cons (pv 2) pa_nil))))) pa_nil))))))) (pss_one (ps_ret pe_bl))
    pss_nil)
  (pss_one (ps_ret (pe_cmpR op_eq (pe_callB call_lenS (by rfl) T.z_len (by decide +kernel) (pa_cons (pe_callTy (call_setIs rfl) (by rfl) T.z_set (by decide +kernel) (pa_cons (pv 1) pa_nil)) pa_nil)) (pe_callB call_len_seq (by rfl) T.z_len (by decide +kernel) (pa_cons (pv 1) pa_nil)) (nomark _))))), ?_⟩
    walk_at "sm"
    have hcase : (PlainV H v ∧ sqV v = false ∧ o = none) ∨ ∃ q ys, v = .ref q ∧ SqAt H q ys ∧ ys.length ≤ 60 ∧ (∀ y ∈ ys, PlainV H y) ∧ (ys.all (isP bs.length) = false ∧ o = none ∨ ∃ l : List Nat, ys = (nI l).map V.int ∧ (∀ p ∈ l, p < bs.length) ∧ (o.isSome = decide l.Nodup)) := by
      cases o with
      | some l =>
        obtain ⟨q, rfl, hq, nd, hl⟩ := hv
        have lq : l.length ≤ bs.length := by
          have := nd.length_le_of_subset (fun p hp => List.mem_range.mpr (hl p hp) : l ⊆ List.range bs.length)
          rwa [List.length_range] at this
        exact .inr ⟨q, _, rfl, hq, by rw [nI_len]; omega, ints_plain' _, .inr ⟨l, rfl, hl, by rw [decide_eq_true nd]; rfl⟩⟩
      | none =>
        rcases hv with ⟨h1, h2⟩ | ⟨q, ys, rfl, hq, hy, hpl, hb⟩
        · exact .inl ⟨h1, h2, rfl⟩
        · exact .inr ⟨q, ys, rfl, hq, hy, hpl, hb.imp (fun z => ⟨z, rfl⟩) fun ⟨l, h1, h2, h3⟩ => ⟨l, h1, h2, by rw [decide_eq_false h3]; rfl⟩⟩
    rcases hcase with ⟨h1, h2, rfl⟩ | ⟨q, ys, rfl, hq, hy, hpl, ho⟩
    · exact ⟨v, rfl, h1, fun H1 e1 => ⟨_, rfl, by rw [h2]; exact iteT (k _ e1)⟩⟩
    · refine ⟨.ref q, rfl, hq.plain, fun H1 e1 => ⟨_, rfl, iteF ?_⟩⟩
      have hq1 := hq.go e1
      have hB1 := hB.go e1
      refine (lcg_sq (K := K) hq1 (ivUl H1 ys bs.length) (fun D hD => ⟨Evl.Ex.new hD, upd_same⟩) (fun D i HX hD h => h.1) ?_ ?_).imp (fun z => ⟨q, rfl, z⟩) fun z => ⟨q, rfl, z⟩
      · rintro D i y HX hD hi ⟨f1, f2⟩
        walk_at "sm"
        refine ⟨x, bs, e, y, rfl, hB1.go f1, (hpl y (List.mem_of_getElem? hi)).go (e1.trans f1), _, f2, Nat.lt_of_le_of_lt (show _ ≤ 100 by rw [List.length_map, List.length_map, List.length_take]; omega) (by decide), f1.mut hD, ?_⟩
        rw [upd_same, List.take_add_one, hi, List.map_append, List.map_append]
        rfl
      · rintro D HX hD ⟨f1, f2⟩
        rw [List.take_length] at f2
        refine ⟨D, _, rfl, SqL.of f2, _, rfl, ?_⟩
        have ea : (ys.map (isP bs.length)).all id = ys.all (isP bs.length) := by rw [List.all_map]; rfl
        rw [ea]
        rcases ho with ⟨ha, rfl⟩ | ⟨l, rfl, hl, hd⟩
        · rw [ha]
          exact iteT (k _ (e1.trans f1))
        · have all : ((nI l).map V.int).all (isP bs.length) = true := by
            rw [List.all_eq_true]
            intro b hb
            obtain ⟨z, hz, rfl⟩ := List.mem_map.mp hb
            obtain ⟨p, hp, rfl⟩ := mem_ints.mp hz
            rw [isP_int, decide_eq_true (hl p hp)]
          rw [all]
          have hq2 := hq1.go f1
          rw [nI_len] at hy
          refine iteF ⟨q, nI l, rfl, hq2.sq, by rw [List.length_map]; omega, fun p2 c hc hcn hp2 => ⟨p2, rfl, _, c, upd_same, q, rfl, _, (hq2.go (Evl.Ex.new hp2)).sq, ?_⟩⟩
          have nn : (nI l).Nodup ↔ l.Nodup := by
            refine ⟨fun z => ?_, nI_nodup⟩
            exact List.Pairwise.imp (fun h e => h (by rw [e])) (List.pairwise_map.mp z)
          have : decide ((c : Int) = (((nI l).map V.int).length : Int)) = o.isSome := by
            rw [hd, nI_len]
            refine decide_eq_decide.mpr ⟨fun z => nn.mp (hcn.mp (by rw [List.length_map]; exact_mod_cast z)), fun z => ?_⟩
            have := hcn.mpr (nn.mpr z)
            rw [List.length_map] at this
            exact_mod_cast this
          rw [this]
          exact k _ ((e1.trans f1).trans (Evl.Ex.new hp2))
end


theorem op_in_seq_b {X : Cx} {s : Shared} {H : Hp} {scope : Scope} {env : Env} {fp : List Addr} : OpR (X.blk s H scope env fp) (compareOp .In) (rIn X.K false) := op_in_seq (X := X.blk s H scope env fp)
/-- a painting that is handed in: what is wrong, or the reds and the blues -/
def PtAt (H : Hp) (n : Nat) (pnt : V) : Sum Str (List Nat × List Nat) → Prop
  | .inl w => (w = "painting" ∧ ((PlainV H pnt ∧ sqV pnt = false) ∨ ∃ q ys, pnt = .ref q ∧ SqAt H q ys ∧ ys.length ≠ 2 ∧ ys.length ≤ 60)) ∨ ∃ q rv bv, pnt = .ref q ∧ SqAt H q [rv, bv] ∧
      ((w = "reds" ∧ (UlV H n rv none ∨ UlV H n rv (some []))) ∨ ∃ l, UlV H n rv (some l) ∧ l ≠ [] ∧ ((w = "blues" ∧ UlV H n bv none) ∨ ∃ m, UlV H n bv (some m) ∧ w = "both" ∧ ∃ p, p ∈ l ∧ p ∈ m))
  | .inr (l, m) => ∃ q rv bv, pnt = .ref q ∧ SqAt H q [rv, bv] ∧ UlV H n rv (some l) ∧ l ≠ [] ∧ UlV H n bv (some m) ∧ ∀ p ∈ m, p ∉ l
def RzP (C : Addr) (f : Str) (v : V) (H : Hp) (E : XK) : Prop := ∀ (d : Addr) (H' : Hp), Evl.Ex H H' → H' d = some (.xd [(f, v)]) → E (.ref C) (some d) H'
theorem RzP.go {C : Addr} {f : Str} {v : V} {H H1 : Hp} {E : XK} (h : RzP C f v H E) (e : Evl.Ex H H1) : RzP C f v H1 E := fun d H' e' q => h d H' (e.trans e') q
section
variable {P : Program} {w : World} {K : PySem.W.Frag} {mg : Str → Option Value} {base : Heap} {a : Ad}
def spCPt (a : Ad) : Sp := fun vs H Q E => ∃ (x : Addr) (bs : List (List Nat)) (e : Nat) (pnt : V), vs = [.ref x, pnt] ∧ BareAt a.c_Bare H x bs e ∧ bs.length ≤ 60 ∧ PlainV H pnt ∧ ((8 < bs.length ∧ RzP a.c_TooMany "most" (.int 8) H E) ∨
  (bs.length ≤ 8 ∧ ∃ o, PtAt H bs.length pnt o ∧ match o with
    | .inl w => RzP a.c_BadPainting "what" (.str w) H E
    | .inr (l, m) => ∀ t t1 t2 H', Evl.Ex H H' → H' t = some (.tup [.ref t1, .ref t2]) → H' t1 = some (.tup ((nI (sb l)).map V.int)) → H' t2 = some (.tup ((nI (sb m)).map V.int)) → Q (.ref t) H'))
/-- sorted(thing) of different places -/
theorem srt_ul {HX : Hp} {n : Nat} {v : V} {l : List Nat} {R : VK} (h : UlV HX n v (some l)) (hn : n ≤ 200) (k : ∀ p H', Evl.Ex HX H' → H' p = some (.lst ((nI (sb l)).map V.int)) → R (.ref p) H') : rSortedI K [v] HX R ∨ rSortedIT K [v] HX R := by
  obtain ⟨q, rfl, hq, nd, hl⟩ := h
  have fin : ∀ (ns' : List Int) (p : Addr), ns'.Perm (nI l) → ns'.Pairwise (· ≤ ·) → HX p = none → R (.ref p) (upd HX p (.lst (ns'.map V.int))) := fun ns' p pm pw hp => by
    have en := sb_uniq (fun x hx => by have := hl x hx; omega) nd pm pw
    subst en
    exact k p _ (Evl.Ex.new hp) upd_same
  rcases hq with g | g
  · exact .inr ⟨q, nI l, rfl, SqT.of g, fun ns' p pm pw hp => fin ns' p pm pw hp⟩
  · exact .inl ⟨q, nI l, rfl, SqL.of g, fun ns' p pm pw hp => fin ns' p pm pw hp⟩
def ivUb (H : Hp) (l m : List Nat) (D : Addr) (i : Nat) (H' : Hp) : Prop := Evl.Ex H H' ∧ H' D = some (.lst (((m.take i).map fun p => decide (p ∈ l)).map V.bl))
def mdCP (x : Addr) (pnt rv bv : V) (H : Hp) : L2.St → Hp → Prop := fun σ H' => σ = [some (.ref x), some pnt, some rv, some bv, none] ∧ H' = H
theorem ok_check_painting (T : Txt K mg a) : FnOk P w K mg base (L2.CX P w) 6 a.f_check_painting a.d_check_painting ["bare", "painting"] (spCPt a) := by
  refine T.F_check_painting.okX sc_check_painting (fun vs H Q E h => ?_) (fun cdv A outer s H vs Q E hr h => ?_)
  · obtain ⟨_, _, _, _, rfl, _⟩ := h
    rfl
  · obtain ⟨x, bs, e, pnt, rfl, hB, hn, hp, k⟩ := h
    refine ⟨_, (pss_cons (ps_expr (pe_call (ok_check_small T) (hr.mono (by decide)) rfl T.m_check_small T.F_check_small.kp T.b_check_small .nil (passes_call (takes_of rfl rfl rfl rfl) (fun _ _ _ _ q => q)) (pa_cons (pv 0) pa_nil)))
  (pss_cons (ps_if (PW.pt (pw_or (pt_not (pt_val (pe_call (ok_is_sequence T) (hr.mono (by decide)) rfl T.m_is_sequence T.F_is_sequence.kp T.b_is_sequence .nil pass0 (pa_cons (pv 1) pa_nil)))) (pw_or1 (pt_cmpR op_ne (pe_callB call_len_seq (by rfl) T.z_len (by decide +kernel) (pa_cons (pv 1) pa_nil)) pe_int (nomark _))))) (pss_one (ps_raise rfl (takes_of rfl rfl rfl rfl) (pmk_oex T.x_BadPainting T.xi_BadPainting T.xt_BadPainting (ok_BadPainting_init T) (hr.mono (by decide)) T.b_BadPainting___init__ .nil pass0 rfl T.m_BadPainting (pa_cons pe_str pa_nil))))
    pss_nil)
  (Evl.pss_cut (ps_asg (pv 1) (PG_or (pg_tup rfl (pgs_cons (pg_name (i := 2) sc_check_painting.nd rfl (by first | exact Or.inl rfl | exact Or.inr rfl)) (pgs_cons (pg_name (i := 3) sc_check_painting.nd rfl (by first | exact Or.inl rfl | exact Or.inr rfl)) pgs_nil))) (pg_lst rfl (pgs_cons (pg_name (i := 2) sc_check_painting.nd rfl (by first | exact Or.inl rfl | exact Or.inr rfl)) (pgs_cons (pg_name (i := 3) sc_check_painting.nd rfl (by first | exact Or.inl rfl | exact Or.inr rfl)) pgs_nil)))))
  (pss_cons (ps_if (PW.pt (pw_or (pt_not (pt_val (pe_call (ok_is_unlike T) (hr.mono (by decide)) rfl T.m_is_unlike T.F_is_unlike.kp T.b_is_unlike .nil pass0 (pa_cons (pv 0) (pa_cons (pv 2) pa_nil))))) (pw_or1 (pt_cmpR op_eq (pe_callB call_len_seq (by rfl) T.z_len (by decide +kernel) (pa_cons (pv 2) pa_nil)) pe_int (nomark _))))) (pss_one (ps_raise rfl (takes_of rfl rfl rfl rfl) (pmk_oex T.x_BadPainting T.xi_BadPainting T.xt_BadPainting (ok_BadPainting_init T) (hr.mono (by decide)) T.b_BadPainting___init__ .nil pass0 rfl T.m_BadPainting (pa_cons pe_str pa_nil))))
    pss_nil)
  (pss_cons (ps_if (pt_not (pt_val (pe_call (ok_is_unlike T) (hr.mono (by decide)) rfl T.m_is_unlike T.F_is_unlike.kp T.b_is_unlike .nil pass0 (pa_cons (pv 0) (pa_cons (pv 3) pa_nil))))) (pss_one (ps_raise rfl (takes_of rfl rfl rfl rfl) (pmk_oex T.x_BadPainting T.xi_BadPainting T.xt_BadPainting (ok_BadPainting_init T) (hr.mono (by decide)) T.b_BadPainting___init__ .nil pass0 rfl T.m_BadPainting (pa_cons pe_str pa_nil))))
    pss_nil)
  (pss_cons (ps_if (pt_val (pe_callB (cr_any rfl) (by rfl) T.z_any (by decide +kernel) (pa_cons (pe_lc (own := [("place", 4)]) (g := gName 4) (tt := tYes) rfl sc_check_painting.nd (pi_or (pi_list (pv 3)) (pi_tup (pv 3))) (blkOk_by (own := [("place", 4)]) (N := ["bare", "painting", "reds", "blues", "place"]) (sc := defScope s_check_painting) (by decide +kernel)) (fun _ _ _ _ _ => pg_name (i := 4) sc_check_painting.nd rfl (Or.inl rfl)) (fun _ _ _ _ _ => pts_nil) (fun _ _ _ _ _ => (pe_cmpR op_in_seq_b (pv 4) (pv 2) (by rfl)))) pa_nil))) (pss_one (ps_raise rfl (takes_of rfl rfl rfl rfl) (pmk_oex T.x_BadPainting T.xi_BadPainting T.xt_BadPainting (ok_BadPainting_init T) (hr.mono (by decide)) T.b_BadPainting___init__ .nil pass0 rfl T.m_BadPainting (pa_cons pe_str pa_nil))))
    pss_nil)
  (pss_one (ps_ret (pe_tup (pa_cons (pe_callTy call_tuple_of (by rfl) T.z_tuple (by decide +kernel) (pa_cons (pe_callB (CallR.or cr_sortedI cr_sortedIT) (by rfl) T.z_sorted (by decide +kernel) (pa_cons (pv 2) pa_nil)) pa_nil)) (pa_cons (pe_callTy call_tuple_of (by rfl) T.z_tuple (by decide +kernel) (pa_cons (pe_callB (CallR.or cr_sortedI cr_sortedIT) (by rfl) T.z_sorted (by decide +kernel) (pa_cons (pv 3) pa_nil)) pa_nil)) pa_nil))))))))))), ?_⟩
    walk_at "sm"
    refine ⟨x, bs, e, rfl, hB, by omega, fun h8 => ?_, fun h8 => ?_⟩
    · rcases k with ⟨h9, _⟩ | ⟨_, o, ho, k⟩
      · omega
      · refine ⟨pnt, rfl, hp, fun H1 e1 => ⟨_, rfl, ?_⟩⟩
        have bad : ∀ (z : Str) (HX : Hp), Evl.Ex H HX → o = .inl z → mkO a.c_BadPainting (spInit1 a.c_BadPainting "what") [] [.str z] HX fun cls d H' => E cls d H' := fun z HX eX ez => by
          rw [ez] at k
          exact mk1 (RzP.go (C := a.c_BadPainting) k eX)
        have hc : (o = .inl "painting" ∧ ((PlainV H pnt ∧ sqV pnt = false) ∨ ∃ q ys, pnt = .ref q ∧ SqAt H q ys ∧ ys.length ≠ 2)) ∨ ∃ q rv bv, pnt = .ref q ∧ SqAt H q [rv, bv] ∧ ((UlV H bs.length rv none ∨ UlV H bs.length rv (some [])) ∧ o = .inl "reds" ∨
            ∃ l, UlV H bs.length rv (some l) ∧ l ≠ [] ∧ (UlV H bs.length bv none ∧ o = .inl "blues" ∨ ∃ m, UlV H bs.length bv (some m) ∧ ((∃ p, p ∈ l ∧ p ∈ m) ∧ o = .inl "both" ∨ (∀ p ∈ m, p ∉ l) ∧ o = .inr (l, m)))) := by
          cases o with
          | inl z =>
            rcases ho with ⟨rfl, h | ⟨q, ys, h1, h2, h3, _⟩⟩ | ⟨q, rv, bv, h1, h2, ⟨rfl, h⟩ | ⟨l, h3, h4, ⟨rfl, h⟩ | ⟨m, h5, rfl, h⟩⟩⟩
            · exact .inl ⟨rfl, .inl h⟩
            · exact .inl ⟨rfl, .inr ⟨q, ys, h1, h2, h3⟩⟩
            · exact .inr ⟨q, rv, bv, h1, h2, .inl ⟨h, rfl⟩⟩
            · exact .inr ⟨q, rv, bv, h1, h2, .inr ⟨l, h3, h4, .inl ⟨h, rfl⟩⟩⟩
            · exact .inr ⟨q, rv, bv, h1, h2, .inr ⟨l, h3, h4, .inr ⟨m, h5, .inl ⟨h, rfl⟩⟩⟩⟩
          | inr lm =>
            obtain ⟨l, m⟩ := lm
            obtain ⟨q, rv, bv, h1, h2, h3, h4, h5, h6⟩ := ho
            exact .inr ⟨q, rv, bv, h1, h2, .inr ⟨l, h3, h4, .inr ⟨m, h5, .inr ⟨h6, rfl⟩⟩⟩⟩
        rcases hc with ⟨ez, ⟨_, h2⟩ | ⟨q, ys, rfl, h2, h3⟩⟩ | ⟨q, rv, bv, rfl, hq, hc⟩
        · rw [h2]
          exact iteT (bad _ _ e1 ez)
        · refine iteF ⟨q, rfl, ys, (h2.go e1).sq, iteT' ?_ (bad _ _ e1 ez)⟩
          rw [decide_eq_false (fun z => h3 (by exact_mod_cast z))]
          rfl
        · have hq1 := hq.go e1
          have hB1 := hB.go e1
          refine iteF ⟨q, rfl, _, hq1.sq, iteF' (by simp) ⟨mdCP x (.ref q) rv bv H1, ?_, ?_⟩⟩
          · walk_at "sm"
            rcases hq1 with g | g
            · exact .inl ⟨_, SqT.of g, rfl, _, _, rfl, _, _, rfl, rfl, rfl, rfl⟩
            · refine .inr ⟨q, _, rfl, SqL.of g, rfl, ?_⟩
              walk_at "sm"
              exact ⟨rfl, rfl⟩
          · rintro σ _ ⟨rfl, rfl⟩
            walk_at "sm"
            have red : ∃ or_, UlV H bs.length rv or_ ∧ ((or_ = none ∨ or_ = some []) ∧ o = .inl "reds" ∨ ∃ l, or_ = some l ∧ l ≠ [] ∧ (UlV H bs.length bv none ∧ o = .inl "blues" ∨ ∃ m, UlV H bs.length bv (some m) ∧ ((∃ p, p ∈ l ∧ p ∈ m) ∧ o = .inl "both" ∨ (∀ p ∈ m, p ∉ l) ∧ o = .inr (l, m)))) := by
              rcases hc with ⟨h | h, ez⟩ | ⟨l, h1, h2, h3⟩
              · exact ⟨none, h, .inl ⟨.inl rfl, ez⟩⟩
              · exact ⟨some [], h, .inl ⟨.inr rfl, ez⟩⟩
              · exact ⟨some l, h1, .inr ⟨l, rfl, h2, h3⟩⟩
            obtain ⟨or_, hr1, hr2⟩ := red
            refine ⟨x, bs, e, rv, or_, rfl, hB1, hn, hr1.go e1, fun H2 e2 => ⟨_, rfl, ?_⟩⟩
            have e12 := e1.trans e2
            rcases hr2 with ⟨rfl | rfl, ez⟩ | ⟨l, rfl, lne, hc2⟩
            · exact iteT (bad _ _ e12 ez)
            · obtain ⟨qr, rfl, hqr, _, _⟩ := hr1
              exact iteF ⟨qr, rfl, _, (hqr.go e12).sq, iteP rfl (bad _ _ e12 ez)⟩
            · have hr1' := hr1.go e12
              obtain ⟨qr, rfl, hqr, nr, lr⟩ := hr1'
              have l0 : l.length ≠ 0 := fun z => lne (List.length_eq_zero_iff.mp z)
              have blue : ∃ ob, UlV H bs.length bv ob ∧ (ob = none ∧ o = .inl "blues" ∨ ∃ m, ob = some m ∧ ((∃ p, p ∈ l ∧ p ∈ m) ∧ o = .inl "both" ∨ (∀ p ∈ m, p ∉ l) ∧ o = .inr (l, m))) := by
                rcases hc2 with ⟨h, ez⟩ | ⟨m, h1, h2⟩
                · exact ⟨none, h, .inl ⟨rfl, ez⟩⟩
                · exact ⟨some m, h1, .inr ⟨m, rfl, h2⟩⟩
              obtain ⟨ob, hb1, hb2⟩ := blue
              refine iteF ⟨qr, rfl, _, hqr.sq, iteN (by rw [nI_len]; omega) ⟨x, bs, e, bv, ob, rfl, hB1.go e2, hn, hb1.go e12, fun H3 e3 => ⟨_, rfl, ?_⟩⟩⟩
              have e13 := e12.trans e3
              rcases hb2 with ⟨rfl, ez⟩ | ⟨m, rfl, hb2⟩
              · exact iteT (bad _ _ e13 ez)
              · have hb3 := hb1.go e13
                have hr3 := hr1.go e13
                have hqr3 := hqr.go e3
                obtain ⟨qb, rfl, hqb, nbl, lb⟩ := hb3
                have lm : m.length ≤ bs.length := by
                  have := nbl.length_le_of_subset (fun p hp => List.mem_range.mpr (lb p hp) : m ⊆ List.range bs.length)
                  rwa [List.length_range] at this
                refine iteF ((lcg_sq (K := K) hqb (ivUb H3 l m) (fun D hD => ⟨Evl.Ex.new hD, upd_same⟩) (fun D i HX hD h => h.1) ?_ ?_).imp (fun z => ⟨qb, rfl, z⟩) fun z => ⟨qb, rfl, z⟩)
                · rintro D i y HX hD hi ⟨f1, f2⟩
                  obtain ⟨n, hn1, rfl⟩ := nat_at hi
                  walk_at "sm"
                  refine ⟨qr, _, rfl, (hqr3.go f1).sq, rfl, flat_nats l, _, f2, Nat.lt_of_le_of_lt (show _ ≤ 100 by rw [List.length_map, List.length_map, List.length_take]; omega) (by decide), f1.mut hD, ?_⟩
                  rw [upd_same, List.take_add_one, hn1, List.map_append, List.map_append]
                  show _ = some (HO.lst (_ ++ [V.bl (decide (n ∈ l))]))
                  have : inV (.int (n : Int)) ((nI l).map V.int) = decide (n ∈ l) := by
                    by_cases c : n ∈ l
                    · rw [decide_eq_true c]
                      unfold inV
                      rw [List.any_eq_true]
                      exact ⟨.int (n : Int), List.mem_map.mpr ⟨(n : Int), mem_ints.mpr ⟨n, c, rfl⟩, rfl⟩, decide_eq_true rfl⟩
                    · rw [decide_eq_false c]
                      exact inV_nat c
                  rw [← this]
                  rfl
                · rintro D HX hD ⟨f1, f2⟩
                  rw [nI_len, List.take_length] at f2
                  have ea : (m.map fun p => decide (p ∈ l)).any id = m.any fun p => decide (p ∈ l) := by rw [List.any_map]; rfl
                  refine ⟨D, _, rfl, SqL.of f2, _, rfl, ?_⟩
                  rw [ea]
                  rcases hb2 with ⟨⟨p, p1, p2⟩, ez⟩ | ⟨dis, ez⟩
                  · rw [show (m.any fun p => decide (p ∈ l)) = true from List.any_eq_true.mpr ⟨p, p2, decide_eq_true p1⟩]
                    exact iteT (bad _ _ (e13.trans f1) ez)
                  · rw [show (m.any fun p => decide (p ∈ l)) = false from by
                      cases c : m.any fun p => decide (p ∈ l) with
                      | false => rfl
                      | true =>
                        obtain ⟨p, p1, p2⟩ := List.any_eq_true.mp c
                        exact absurd (of_decide_eq_true p2) (dis p p1)]
                    rw [ez] at k
                    refine iteF (srt_ul (hr3.go f1) (by omega) fun p1 H4 e4 o4 => ⟨p1, rfl, _, .inl ⟨SqL.of o4, fun t1 ht1 => ?_⟩⟩)
                    have y4 := Evl.Ex.new (o := .tup ((nI (sb l)).map V.int)) ht1
                    refine srt_ul ((hb1.go (e13.trans f1)).go (e4.trans y4)) (by omega) fun p2 H5 e5 o5 => ⟨p2, rfl, _, .inl ⟨SqL.of o5, fun t2 ht2 => ⟨sz (by decide), fun t ht => ?_⟩⟩⟩
                    have y5 := Evl.Ex.new (o := .tup ((nI (sb m)).map V.int)) ht2
                    have e6 := Evl.Ex.new (o := .tup [.ref t1, .ref t2]) ht
                    exact k t t1 t2 _ ((((((e13.trans f1).trans e4).trans y4).trans e5).trans y5).trans e6) upd_same (e6 _ _ (y5 _ _ (e5 _ _ upd_same))) (e6 _ _ upd_same)
    · rcases k with ⟨_, k⟩ | ⟨h9, _⟩
      · exact k
      · omega
end


/-! ### hues -/
theorem pt_truth_b {X : Cx} {s : Shared} {H : Hp} {scope : Scope} {env : Env} {fp : List Addr} {a : Expr} {ta : TE} (h : PE (X.blk s H scope env fp) a ta) (h2 : ∀ (whole : Sem Value), PySem.isTrue a (X.blk s H scope env fp).env whole = do
          let v ← whole
          standAt a.pos
          holding [v] (truthy v)) : PT (X.blk s H scope env fp) a fun σ H Q => ta σ H fun x H' => ∃ k, TruV X.K x H' k ∧ Q k H' := pt_truth h h2
section
variable {X : Cx}
theorem op_andNot : OpR X (binaryOp .BitAnd) (fun x y H Q => ∃ n b : Nat, x = .int n ∧ y = .int (Builtin.bitNot (b : Int)) ∧ ∀ k : Nat, (k = 0 ↔ ∀ i, n.testBit i = true → b.testBit i = true) → Q (.int k) H) := by
  intro pins s σ H x y v u Q I r1 r2 h
  obtain ⟨n, b, rfl, rfl, q⟩ := h
  refine op_and pins s σ H _ _ v u Q I r1 r2 ⟨_, _, rfl, rfl, ?_⟩
  have sub : n &&& b ≤ n := Nat.and_le_left
  have e : Builtin.bitAnd (n : Int) (Builtin.bitNot (b : Int)) = ((n - (n &&& b) : Nat) : Int) := by
    unfold Builtin.bitAnd Builtin.bitNot
    rw [decide_eq_true (show (0 : Int) ≤ (n : Int) by omega), decide_eq_false (show ¬ (0 : Int) ≤ -(b : Int) - 1 by omega)]
    show (n : Int) - ((((n : Int).toNat) &&& (-(-(b : Int) - 1) - 1).toNat : Nat) : Int) = _
    rw [show (-(-(b : Int) - 1) - 1).toNat = b by omega, Int.toNat_natCast]
    omega
  show Q (.int (Builtin.bitAnd _ _)) H
  rw [e]
  refine q _ ⟨fun z i hi => ?_, fun z => ?_⟩
  · have : n &&& b = n := by omega
    rw [← this, Nat.testBit_and, Bool.and_eq_true] at hi
    exact hi.2
  · have : n &&& b = n := Nat.eq_of_testBit_eq fun i => by
      rw [Nat.testBit_and]
      cases c : n.testBit i with
      | false => rfl
      | true => rw [z i c]; rfl
    omega
end
/-- reds and blues as a tuple -/
def HuAt (H : Hp) (v : V) (r b : Nat) : Prop := ∃ t, v = .ref t ∧ H t = some (.tup [.int r, .int b])
theorem HuAt.go {H H' : Hp} {v : V} {r b : Nat} (e : Evl.Ex H H') (h : HuAt H v r b) : HuAt H' v r b := by
  obtain ⟨t, h1, h2⟩ := h
  exact ⟨t, h1, e _ _ h2⟩
theorem msk_sb {l : List Nat} (h : ∀ x ∈ l, x < 200) : msk (sb l) = msk l := Nat.eq_of_testBit_eq fun i => by
  rw [msk_bit, msk_bit]
  exact decide_eq_decide.mpr (sb_mem h)
section
variable {P : Program} {w : World} {K : PySem.W.Frag} {mg : Str → Option Value} {base : Heap} {a : Ad}
def spCH (a : Ad) : Sp := fun vs H Q E => ∃ (x : Addr) (bs : List (List Nat)) (e : Nat) (pnt : V), vs = [.ref x, pnt] ∧ BareAt a.c_Bare H x bs e ∧ bs.length ≤ 60 ∧ PlainV H pnt ∧ ((8 < bs.length ∧ RzP a.c_TooMany "most" (.int 8) H E) ∨
  (bs.length ≤ 8 ∧ ∃ o, PtAt H bs.length pnt o ∧ match o with
    | .inl w => RzP a.c_BadPainting "what" (.str w) H E
    | .inr (l, m) => ∀ v H', Evl.Ex H H' → HuAt H' v (msk (sb l)) (msk (sb m)) → Q v H'))
theorem ok_checked_hues (T : Txt K mg a) : FnOk P w K mg base (L2.CX P w) 7 a.f_checked_hues a.d_checked_hues ["bare", "painting"] (spCH a) := by
  refine T.F_checked_hues.okX sc_checked_hues (fun vs H Q E h => ?_) (fun cdv A outer s H vs Q E hr h => ?_)
  · obtain ⟨_, _, _, _, rfl, _⟩ := h
    rfl
  · obtain ⟨x, bs, e, pnt, rfl, hB, hn, hp, k⟩ := h
    refine ⟨_, (pss_cons (ps_asg (pe_call (ok_check_painting T) (hr.mono (by decide)) rfl T.m_check_painting T.F_check_painting.kp T.b_check_painting .nil (passes_call (takes_of rfl rfl rfl rfl) (fun _ _ _ _ q => q)) (pa_cons (pv 0) (pa_cons (pv 1) pa_nil))) (pg_tup rfl (pgs_cons (pg_name (i := 2) sc_checked_hues.nd rfl (by first | exact Or.inl rfl | exact Or.inr rfl)) (pgs_cons (pg_name (i := 3) sc_checked_hues.nd rfl (by first | exact Or.inl rfl | exact Or.inr rfl)) pgs_nil))))
  (pss_one (ps_ret (pe_tup (pa_cons (pe_call (ok_mask_of T) (hr.mono (by decide)) rfl T.m_mask_of T.F_mask_of.kp T.b_mask_of .nil pass0 (pa_cons (pv 2) pa_nil)) (pa_cons (pe_call (ok_mask_of T) (hr.mono (by decide)) rfl T.m_mask_of T.F_mask_of.kp T.b_mask_of .nil pass0 (pa_cons (pv 3) pa_nil)) pa_nil)))))), ?_⟩
    walk_at "sm"
    refine ⟨x, bs, e, pnt, rfl, hB, hn, hp, ?_⟩
    rcases k with k | ⟨h8, o, ho, k⟩
    · exact .inl k
    · refine .inr ⟨h8, o, ho, ?_⟩
      cases o with
      | inl z => exact k
      | inr lm =>
        obtain ⟨l, m⟩ := lm
        intro t t1 t2 H1 e1 o0 o1 o2
        have bd : ∀ (l : List Nat), ∀ n ∈ sb l, n ≤ 1000 := fun l n hn => by
          unfold sb at hn
          have := List.mem_range.mp (List.mem_filter.mp hn).1
          omega
        walk_at "sm"
        exact ⟨_, SqT.of o0, rfl, _, _, rfl, _, _, rfl, rfl, t1, _, rfl, .inl o1, bd l, t2, _, rfl, .inl o2, bd m, sz (by decide), fun q hq => k _ _ (e1.trans (Evl.Ex.new hq)) ⟨q, rfl, upd_same⟩⟩
def spFH (a : Ad) : Sp := fun vs H Q _ => ∃ (x : Addr) (bs : List (List Nat)) (e : Nat), vs = [.ref x] ∧ BareAt a.c_Bare H x bs e ∧ e ≤ 200 ∧ ∀ v H', Evl.Ex H H' → HuAt H' v (2 ^ e) 0 → Q v H'
theorem ok_first_hues (T : Txt K mg a) : FnOk P w K mg base CX0 1 a.f_first_hues a.d_first_hues ["bare"] (spFH a) := by
  refine T.F_first_hues.ok sc_first_hues (fun vs H Q E h => ?_) (fun cdv A outer s H vs Q E hr h => ?_)
  · obtain ⟨_, _, _, rfl, _⟩ := h
    rfl
  · obtain ⟨x, bs, e, rfl, hB, he, k⟩ := h
    obtain ⟨dx, p, af, od, nd, h1, _⟩ := hB
    refine ⟨_, (pss_one (ps_ret (pe_tup (pa_cons (pe_op op_shlK pe_int (pe_fld (pv 0) rfl)) (pa_cons pe_int pa_nil))))), ?_⟩
    walk_at "sm"
    refine ⟨_, _, _, h1, T.ic_Bare.cl, T.na_Bare_end, _, rfl, e, rfl, by omega, sz (by decide), fun q hq => k _ _ (Evl.Ex.new hq) ⟨q, rfl, upd_same⟩⟩
def spPO (a : Ad) : Sp := fun vs H Q _ => ∃ (x : Addr) (bs : List (List Nat)) (e r b : Nat) (v : V), vs = [.ref x, v] ∧ BareAt a.c_Bare H x bs e ∧ BefOk bs ∧ HuAt H v r b ∧ ∀ H', Evl.Ex H H' → Q (.bl (ov bs r b)) H'
def ivPO (H : Hp) (x : Addr) (v : V) (bs : List (List Nat)) (r b : Nat) : Nat → L2.St → Hp → Prop := fun i σ H' => ∃ v4 v5, σ = [some (.ref x), some v, some (.int r), some (.int b), v4, v5] ∧ Evl.Ex H H' ∧ ∀ p, p < i → (r.testBit p && (row bs p).all fun x => b.testBit x) = false
theorem ok_is_painted_over (T : Txt K mg a) : FnOk P w K mg base CX0 2 a.f_is_painted_over a.d_is_painted_over ["bare", "hues"] (spPO a) := by
  refine T.F_is_painted_over.ok sc_is_painted_over (fun vs H Q E h => ?_) (fun cdv A outer s H vs Q E hr h => ?_)
  · obtain ⟨_, _, _, _, _, _, rfl, _⟩ := h
    rfl
  · obtain ⟨x, bs, e, r, b, v, rfl, hB, hbo, ⟨t, rfl, ht⟩, k⟩ := h
    obtain ⟨dx, p, af, od, nd, h1, h2, h3, h4, h5⟩ := hB
    refine ⟨_, (pss_cons (ps_asg (pv 1) (pg_tup rfl (pgs_cons (pg_name (i := 2) sc_is_painted_over.nd rfl (by first | exact Or.inl rfl | exact Or.inr rfl)) (pgs_cons (pg_name (i := 3) sc_is_painted_over.nd rfl (by first | exact Or.inl rfl | exact Or.inr rfl)) pgs_nil))))
  (pss_cons (ps_for PassesOwn.never rfl (pi_enumT (by rfl) T.z_enumerate (pa_cons (pe_fld (pv 0) rfl) pa_nil)) (pg_tup rfl (pgs_cons (pg_name (i := 4) sc_is_painted_over.nd rfl (by first | exact Or.inl rfl | exact Or.inr rfl)) (pgs_cons (pg_name (i := 5) sc_is_painted_over.nd rfl (by first | exact Or.inl rfl | exact Or.inr rfl)) pgs_nil))) (pss_one (ps_if (PW.pt (pw_and (pt_truth (pe_op op_odd (pe_op op_shrK (pv 2) (pv 4)) pe_int) (by intro _; rfl)) (pw_and1 (pt_cmpR op_eq (pe_op op_andNot (pv 5) (pe_un un_inv (pv 3))) pe_int (nomark _))))) (pss_one (ps_ret pe_bl))
    pss_nil)))
  (pss_one (ps_ret pe_bl)))), ?_⟩
    walk_at "sm"
    have hbl := hbo.2.1
    refine ⟨_, SqT.of ht, rfl, _, _, rfl, _, _, rfl, rfl, ?_⟩
    have lm : ((nI (bs.map msk)).map V.int).length = bs.length := by rw [nI_len, List.length_map]
    refine ⟨_, rfl, x, _, _, _, _, rfl, h1, T.ic_Bare.cl, T.na_Bare_needs, rfl, nd, _, rfl, SqT.of h5, for_en (n := bs.length) (ivPO H x (.ref t) bs r b) ⟨none, none, rfl, Evl.Ex.refl _, fun p hp => absurd hp (Nat.not_lt_zero _)⟩ (fun i σ HX hi ⟨_, _, _, f, _⟩ => ⟨_, _, SqT.of (f _ _ h5), List.getElem?_eq_getElem (by rw [lm]; exact hi)⟩) (fun σ HX ⟨_, _, _, f, _⟩ => ⟨_, SqT.of (f _ _ h5), lm⟩) ?_ ?_⟩
    · rintro i σ HX y HY hi ⟨v4, v5, rfl, f1, up⟩ ⟨Tt, z, rfl, hT, rfl, hz⟩
      have hz2 := hz _ (SqT.of (f1 _ _ h5))
      obtain ⟨nn, hn, rfl⟩ := nat_at hz2
      rw [List.getElem?_map] at hn
      obtain ⟨bb, hb⟩ : ∃ bb, bs[i]? = some bb := ⟨_, List.getElem?_eq_getElem hi⟩
      rw [hb] at hn
      obtain rfl := Option.some.inj hn
      have eT := Evl.Ex.new (o := .tup [.int (i : Nat), .int (msk bb : Nat)]) hT
      have f2 := f1.trans eT
      walk_at "sm"
      refine ⟨_, SqT.of upd_same, rfl, _, _, rfl, _, _, rfl, rfl, ?_⟩
      generalize upd HX Tt (.tup [.int (i : Nat), .int (msk bb : Nat)]) = H2 at f2 ⊢
      refine ⟨r, rfl, i, rfl, _, rfl, _, rfl, ?_⟩
      rw [tru_bit]
      have rowb := row_of hb
      have next : (r.testBit i && (row bs i).all fun x => b.testBit x) = false → ivPO H x (.ref t) bs r b (i + 1) [some (.ref x), some (.ref t), some (.int r), some (.int b), some (.int (i : Nat)), some (.int (msk bb : Nat))] H2 := fun h => ⟨_, _, rfl, f2, fun p hp => by
        rcases Nat.lt_or_eq_of_le (Nat.le_of_lt_succ hp) with q | rfl
        · exact up p q
        · exact h⟩
      cases hr2 : r.testBit i with
      | false => exact iteF (next (by rw [hr2]; rfl))
      | true =>
        refine iteT ⟨_, rfl, b, rfl, fun kk hk => ?_⟩
        have all : ((row bs i).all fun x => b.testBit x) = true ↔ kk = 0 := by
          rw [hk, List.all_eq_true, rowb]
          constructor
          · intro z j hj
            rw [msk_bit, decide_eq_true_eq] at hj
            exact z j hj
          · intro z j hj
            exact z j (by rw [msk_bit, decide_eq_true_eq]; exact hj)
        by_cases c : kk = 0
        · subst c
          have : ov bs r b = true := List.any_eq_true.mpr ⟨i, List.mem_range.mpr hi, by rw [hr2, all.mpr rfl]; rfl⟩
          refine iteP rfl ?_
          have kk2 := k H2 f2
          rw [this] at kk2
          exact kk2
        · refine iteN (fun z : (kk : Int) = 0 => c (by omega)) (next ?_)
          rw [hr2, Bool.true_and]
          cases d : (row bs i).all fun x => b.testBit x with
          | false => rfl
          | true => exact absurd (all.mp d) c
    · rintro σ HX ⟨v4, v5, rfl, f1, up⟩
      walk_at "sm"
      have : ov bs r b = false := by
        cases c : ov bs r b with
        | false => rfl
        | true =>
          obtain ⟨p, p1, p2⟩ := List.any_eq_true.mp c
          rw [up p (List.mem_range.mp p1)] at p2
          cases p2
      have kk := k HX f1
      rw [this] at kk
      exact kk
def spUp (a : Ad) : Sp := fun vs H Q _ => ∃ (x : Addr) (bs : List (List Nat)) (e r b : Nat) (v : V), vs = [.ref x, v] ∧ BareAt a.c_Bare H x bs e ∧ bs.length ≤ 200 ∧ HuAt H v r b ∧ ∀ D H', Evl.Ex H H' → H' D = some (.lst ((nI (up bs r b)).map V.int)) → Q (.ref D) H'
def ivUp (H : Hp) (r b : Nat) (D : Addr) (i : Nat) (H' : Hp) : Prop := Evl.Ex H H' ∧ H' D = some (.lst ((nI ((List.range i).filter fun p => !(r ||| b).testBit p)).map V.int))
theorem ok_unpainted (T : Txt K mg a) : FnOk P w K mg base CX0 3 a.f_unpainted a.d_unpainted ["bare", "hues"] (spUp a) := by
  refine T.F_unpainted.ok sc_unpainted (fun vs H Q E h => ?_) (fun cdv A outer s H vs Q E hr h => ?_)
  · obtain ⟨_, _, _, _, _, _, rfl, _⟩ := h
    rfl
  · obtain ⟨x, bs, e, r, b, v, rfl, hB, hl, ⟨t, rfl, ht⟩, k⟩ := h
    have hB' := hB
    obtain ⟨dx, p, af, od, nd, h1, _⟩ := hB'
    refine ⟨_, (pss_cons (ps_set (i := 2) sc_unpainted.nd rfl (by first | exact Or.inl rfl | exact Or.inr rfl) (pe_op op_orN (pe_ix ix_tup (pv 1) pe_int (fun _ _ => rfl)) (pe_ix ix_tup (pv 1) pe_int (fun _ _ => rfl))))
  (pss_one (ps_ret (pe_lc (own := [("place", 3)]) (g := gName 3)  rfl sc_unpainted.nd (pi_range1 (by rfl) T.z_range (pa_cons (pe_callB (call_lenI (ok_Bare_len T) T.at_Bare___len__ T.fn_Bare___len__ T.b_Bare___len__ pass0 (hr.mono (by decide))) (by rfl) T.z_len (by decide +kernel) (pa_cons (pv 0) pa_nil)) pa_nil)) (blkOk_by (own := [("place", 3)]) (N := ["bare", "hues", "taken", "place"]) (sc := defScope s_unpainted) (by decide +kernel)) (fun _ _ _ _ _ => pg_name (i := 3) sc_unpainted.nd rfl (Or.inl rfl)) (fun _ _ _ _ _ => (pts_one (pt_not (pt_truth_b (pe_op op_odd (pe_op op_shrK (pv 2) (pv 3)) pe_int) (by intro _; rfl))))) (fun _ _ _ _ _ => (pv 3)))))), ?_⟩
    walk_at "sm"
    refine ix0 ht (ix1 ht ⟨r, rfl, b, rfl, ?_⟩)
    refine ⟨x, dx, _, rfl, h1, x, bs, e, rfl, hB, bs.length, rfl, by omega, _, rfl, by omega, by omega, lcg_range (lo := 0) (n := (bs.length : Int).toNat) (ivUp H r b) (fun D hD => ⟨Evl.Ex.new hD, upd_same⟩) (fun D i HX hD hi hv => ?_) fun D HX hD hv => ?_⟩
    · obtain ⟨f1, f2⟩ := hv
      rw [show (0 : Int) + (i : Int) = ((i : Nat) : Int) by omega]
      walk_at "sm"
      refine ⟨r ||| b, rfl, i, rfl, _, rfl, _, rfl, ?_⟩
      rw [tru_bit]
      have li : ((List.range i).filter fun p => !(r ||| b).testBit p).length ≤ i := Nat.le_trans (List.length_filter_le _ _) (Nat.le_of_eq (List.length_range ..))
      have rs : (List.range (i + 1)).filter (fun p => !(r ||| b).testBit p) = (List.range i).filter (fun p => !(r ||| b).testBit p) ++ if (r ||| b).testBit i = true then [] else [i] := by
        rw [List.range_succ, List.filter_append, List.filter_cons, List.filter_nil]
        cases (r ||| b).testBit i <;> rfl
      cases c : (r ||| b).testBit i with
      | true =>
        rw [c, if_pos rfl, List.append_nil] at rs
        refine iteF ⟨f1, ?_⟩
        rw [rs]
        exact f2
      | false =>
        rw [c, if_neg (by decide)] at rs
        refine iteT ⟨_, f2, Nat.lt_of_le_of_lt (show _ ≤ 200 by rw [nI_len]; omega) (by decide), f1.mut hD, ?_⟩
        rw [upd_same, rs, nI_snoc]
    · obtain ⟨f1, f2⟩ := hv
      rw [Int.toNat_natCast] at f2
      exact k D HX f1 f2
def spPa : Sp := fun vs H Q _ => ∃ (r b p : Nat) (v : V) (c : Bool), vs = [v, .int p, .bl c] ∧ HuAt H v r b ∧ p ≤ 1000 ∧ ∀ v' H', Evl.Ex H H' → HuAt H' v' (if c = true then r ||| 2 ^ p else r) (if c = true then b else b ||| 2 ^ p) → Q v' H'
theorem ok_painted (T : Txt K mg a) : FnOk P w K mg base CX0 1 a.f_painted a.d_painted ["hues", "place", "is_red"] spPa := by
  refine T.F_painted.ok sc_painted (fun vs H Q E h => ?_) (fun cdv A outer s H vs Q E hr h => ?_)
  · obtain ⟨_, _, _, _, _, rfl, _⟩ := h
    rfl
  · obtain ⟨r, b, p, v, c, rfl, ⟨t, rfl, ht⟩, hp, k⟩ := h
    refine ⟨_, (pss_cons (ps_asg (pv 0) (pg_tup rfl (pgs_cons (pg_name (i := 3) sc_painted.nd rfl (by first | exact Or.inl rfl | exact Or.inr rfl)) (pgs_cons (pg_name (i := 4) sc_painted.nd rfl (by first | exact Or.inl rfl | exact Or.inr rfl)) pgs_nil))))
  (pss_one (ps_ret (pe_ifExp (pt_truth (pv 2) (by intro _; rfl)) (pe_tup (pa_cons (pe_op op_orN (pv 3) (pe_op op_shlK pe_int (pv 1))) (pa_cons (pv 4) pa_nil))) (pe_tup (pa_cons (pv 3) (pa_cons (pe_op op_orN (pv 4) (pe_op op_shlK pe_int (pv 1))) pa_nil))))))), ?_⟩
    walk_at "sm"
    refine ⟨_, SqT.of ht, rfl, _, _, rfl, _, _, rfl, rfl, c, rfl, ?_⟩
    cases c with
    | true => exact iteT ⟨p, rfl, by omega, r, rfl, 2 ^ p, rfl, sz (by decide), fun q hq => k _ _ (Evl.Ex.new hq) ⟨q, rfl, upd_same⟩⟩
    | false => exact iteF ⟨p, rfl, by omega, b, rfl, 2 ^ p, rfl, sz (by decide), fun q hq => k _ _ (Evl.Ex.new hq) ⟨q, rfl, upd_same⟩⟩
end


/-! ### the memo: paintings and how many names are needed behind them -/
theorem hu1 {n : Nat} (h : n + 64 < cLine) : n + 1 < cLine := by omega
theorem nd_len {α : Type} [DecidableEq α] : ∀ {l m : List α}, l.Nodup → (∀ x ∈ l, x ∈ m) → l.length ≤ m.length
  | [], m, _, _ => Nat.zero_le _
  | x :: l, m, h, s => by
    obtain ⟨h1, h2⟩ := List.nodup_cons.mp h
    have xm := s x List.mem_cons_self
    have := nd_len (m := m.erase x) h2 fun y hy => (List.mem_erase_of_ne fun z => h1 (by rw [← z]; exact hy)).mpr (s y (List.mem_cons_of_mem _ hy))
    rw [List.length_erase_of_mem xm] at this
    have := List.length_pos_of_mem xm
    rw [List.length_cons]
    omega
def kk2 (r b : Nat) : List L2.Key := [.inl (r : Int), .inl (b : Int)]
theorem kk2_inj {r b r' b' : Nat} (h : kk2 r b = kk2 r' b') : r = r' ∧ b = b' := by
  unfold kk2 at h
  have h1 := List.cons.inj h
  have h2 := List.cons.inj h1.2
  exact ⟨by exact_mod_cast Sum.inl.inj h1.1, by exact_mod_cast Sum.inl.inj h2.1⟩
def allK : List (List L2.Key) := (List.range 256).flatMap fun r => (List.range 256).map fun b => kk2 r b
theorem allK_len : allK.length = 65536 := by
  unfold allK
  rw [List.length_flatMap]
  simp only [List.length_map, List.length_range]
  rw [List.map_const', List.sum_replicate_nat, List.length_range]
def Mm (H : Hp) (d : Addr) (g : Nat → Nat → Option Nat) : Prop := ∃ kvs : List (List L2.Key × V), H d = some (.dT kvs) ∧ (kvs.map (·.1)).Nodup ∧ (∀ k ∈ kvs.map (·.1), ∃ r b, r < 256 ∧ b < 256 ∧ k = kk2 r b) ∧ ∀ r b, valV kvs (kk2 r b) = (g r b).map fun v => V.int (v : Nat)
def upM (g : Nat → Nat → Option Nat) (r b v : Nat) : Nat → Nat → Option Nat := fun r' b' => if r' = r ∧ b' = b then some v else g r' b'
theorem putK_keys (kvs : List (List L2.Key × V)) (k : List L2.Key) (v : V) : (putK kvs k v).map (·.1) = if (valV kvs k).isSome = true then kvs.map (·.1) else kvs.map (·.1) ++ [k] := by
  unfold putK
  rw [valV_any]
  by_cases c : (valV kvs k).isSome = true
  · rw [if_pos c, if_pos c, List.map_map]
    refine List.map_congr_left fun x _ => ?_
    show (if x.1 = k then (x.1, v) else x).1 = x.1
    split <;> rfl
  · rw [if_neg c, if_neg c, List.map_append]
    rfl
theorem valV_mem {kvs : List (List L2.Key × V)} {k : List L2.Key} (h : k ∈ kvs.map (·.1)) : (valV kvs k).isSome = true := by
  rw [← valV_any, List.any_eq_true]
  obtain ⟨x, h1, h2⟩ := List.mem_map.mp h
  exact ⟨x, h1, decide_eq_true h2⟩
theorem Mm.len {H : Hp} {d : Addr} {kvs : List (List L2.Key × V)} (h2 : (kvs.map (·.1)).Nodup) (h3 : ∀ k ∈ kvs.map (·.1), ∃ r b, r < 256 ∧ b < 256 ∧ k = kk2 r b) : kvs.length ≤ 65536 := by
  have := nd_len (m := allK) h2 fun k hk => by
    obtain ⟨r, b, h4, h5, rfl⟩ := h3 k hk
    exact List.mem_flatMap.mpr ⟨r, List.mem_range.mpr h4, List.mem_map.mpr ⟨b, List.mem_range.mpr h5, rfl⟩⟩
  rw [allK_len, List.length_map] at this
  exact this
theorem Mm.new {H : Hp} {d : Addr} : Mm (upd H d (.dT [])) d fun _ _ => none := ⟨[], upd_same, List.nodup_nil, fun k hk => (nomatch hk), fun _ _ => rfl⟩
theorem Mm.dget {H : Hp} {d t : Addr} {g : Nat → Nat → Option Nat} {r b : Nat} (h : Mm H d g) (ht : H t = some (.tup [.int r, .int b])) : DGet H d (.ref t) ((g r b).map fun v => V.int (v : Nat)) := by
  obtain ⟨kvs, h1, _, _, h4⟩ := h
  rw [← h4]
  exact DGet.t (k := kk2 r b) h1 ht
theorem Mm.put {H : Hp} {d t : Addr} {g : Nat → Nat → Option Nat} {r b : Nat} (v : Nat) (h : Mm H d g) (ht : H t = some (.tup [.int r, .int b])) (hr : r < 256) (hb : b < 256) : ∃ H', DPut H d (.ref t) (.int v) H' ∧ Fr d H H' ∧ Mm H' d (upM g r b v) := by
  obtain ⟨kvs, h1, h2, h3, h4⟩ := h
  have hl := Mm.len (H := H) (d := d) h2 h3
  refine ⟨_, DPut.t (k := kk2 r b) h1 ht (Nat.lt_of_le_of_lt hl (by rw [sizeLine_eq]; decide)), Fr.upd, _, upd_same, ?_, ?_, fun r' b' => ?_⟩
  · rw [putK_keys]
    split
    · exact h2
    · next c =>
      rw [List.nodup_append]
      refine ⟨h2, List.nodup_cons.mpr ⟨(nomatch ·), List.nodup_nil⟩, fun x hx y hy => ?_⟩
      obtain rfl := List.mem_singleton.mp hy
      rintro rfl
      exact c (valV_mem hx)
  · intro k hk
    rw [putK_keys] at hk
    split at hk
    · exact h3 k hk
    · rcases List.mem_append.mp hk with q | q
      · exact h3 k q
      · exact ⟨r, b, hr, hb, List.mem_singleton.mp q⟩
  · rw [valV_put, h4]
    unfold upM
    by_cases c : r' = r ∧ b' = b
    · rw [if_pos c, if_pos (by rw [c.1, c.2])]
      rfl
    · rw [if_neg c, if_neg fun z => c (kk2_inj z)]
/-- all but dicts stands -/
def Kd (H H' : Hp) : Prop := ∀ b o, (∀ kvs, o ≠ .dT kvs) → H b = some o → H' b = some o
theorem Mm.kd {H H' : Hp} {d : Addr} {g : Nat → Nat → Option Nat} (h : Mm H d g) (f : Fr d H H') : Kd H H' := fun b o n e => by
  obtain ⟨kvs, h1, _⟩ := h
  refine f b o (fun z => ?_) e
  subst z
  rw [h1] at e
  exact n kvs (Option.some.inj e).symm
theorem Kd.ex {H H' : Hp} (e : Evl.Ex H H') : Kd H H' := fun b o _ h => e b o h
theorem Kd.trans {H H1 H2 : Hp} (h : Kd H H1) (h' : Kd H1 H2) : Kd H H2 := fun b o n e => h' b o n (h b o n e)
theorem Kd.kp {H H' : Hp} (h : Kd H H') : Kp H H' := ⟨fun b xs e => h b _ (fun _ z => nomatch z) e, fun b xs e => h b _ (fun _ z => nomatch z) e⟩
theorem BareAt.kd {C : Addr} {H H' : Hp} {x : Addr} {bs : List (List Nat)} {e : Nat} (k : Kd H H') (h : BareAt C H x bs e) : BareAt C H' x bs e := by
  obtain ⟨dx, p, af, od, nd, h1, h2, h3, h4, h5⟩ := h
  exact ⟨dx, p, af, od, nd, k _ _ (fun _ z => nomatch z) h1, h2.go k.kp, h3.go k.kp, k _ _ (fun _ z => nomatch z) h4, k _ _ (fun _ z => nomatch z) h5⟩
theorem HuAt.kd {H H' : Hp} {v : V} {r b : Nat} (k : Kd H H') (h : HuAt H v r b) : HuAt H' v r b := by
  obtain ⟨t, h1, h2⟩ := h
  exact ⟨t, h1, k _ _ (fun _ z => nomatch z) h2⟩
theorem Mm.go {H H' : Hp} {d : Addr} {g : Nat → Nat → Option Nat} (e : Evl.Ex H H') (h : Mm H d g) : Mm H' d g := by
  obtain ⟨kvs, h1, h2⟩ := h
  exact ⟨kvs, e _ _ h1, h2⟩
theorem Mm.ne {H : Hp} {d l : Addr} {g : Nat → Nat → Option Nat} (h : Mm H d g) (hl : H l = none) : d ≠ l := by
  obtain ⟨kvs, h1, _⟩ := h
  exact ne_of_none h1 hl
theorem Mm.upd {H : Hp} {d l : Addr} {o : HO} {g : Nat → Nat → Option Nat} (h : Mm H d g) (n : d ≠ l) : Mm (upd H l o) d g := by
  obtain ⟨kvs, h1, h2⟩ := h
  exact ⟨kvs, by rw [upd_ne n]; exact h1, h2⟩
def GoodM (bs : List (List Nat)) (n : Nat) (g : Nat → Nat → Option Nat) : Prop := ∀ r b v, g r b = some v → (up bs r b).length < n → v = nb bs r b
def FarM (bs : List (List Nat)) (n : Nat) (g g' : Nat → Nat → Option Nat) : Prop := ∀ r b, n ≤ (up bs r b).length → g' r b = g r b
theorem FarM.trans {bs : List (List Nat)} {n : Nat} {g1 g2 g3 : Nat → Nat → Option Nat} (h : FarM bs n g1 g2) (h' : FarM bs n g2 g3) : FarM bs n g1 g3 := fun r b e => by rw [h' r b e, h r b e]
theorem GoodM.le {bs : List (List Nat)} {n m : Nat} {g : Nat → Nat → Option Nat} (h : GoodM bs n g) (e : m ≤ n) : GoodM bs m g := fun r b v h1 h2 => h r b v h1 (by omega)
theorem FarM.le {bs : List (List Nat)} {n m : Nat} {g g' : Nat → Nat → Option Nat} (h : FarM bs n g g') (e : n ≤ m) : FarM bs m g g' := fun r b h1 => h r b (by omega)
theorem Pnt.lt {bs : List (List Nat)} {r b : Nat} (h : Pnt bs r b) (hl : bs.length ≤ 8) : r < 256 ∧ b < 256 := by
  have go : ∀ n : Nat, (∀ p, n.testBit p = true → p < bs.length) → n < 256 := fun n hn => Nat.lt_pow_two_of_testBit n (n := 8) fun i hi => by
    cases e : n.testBit i with
    | false => rfl
    | true => have := hn i e; omega
  exact ⟨go r fun p hp => h.low p (.inl hp), go b fun p hp => h.low p (.inr hp)⟩
section
variable {P : Program} {w : World} {K : PySem.W.Frag} {mg : Str → Option Value} {base : Heap} {a : Ad}
def spNB (a : Ad) (f : Nat) : Sp := fun vs H Q _ => ∃ (x : Addr) (bs : List (List Nat)) (e : Nat) (hv : V) (d : Addr) (r b : Nat) (g : Nat → Nat → Option Nat), vs = [.ref x, hv, .ref d] ∧ BareAt a.c_Bare H x bs e ∧ BefOk bs ∧ Acy bs ∧ bs.length ≤ 8 ∧ HuAt H hv r b ∧ Pnt bs r b ∧ (up bs r b).length < f ∧ Mm H d g ∧
  GoodM bs ((up bs r b).length + 1) g ∧ ∀ H' g', Fr d H H' → Mm H' d g' → GoodM bs ((up bs r b).length + 1) g' → FarM bs ((up bs r b).length + 1) g g' → Q (.int (nb bs r b)) H'
def spWH (a : Ad) (f : Nat) : Sp := fun vs H Q _ => ∃ (x : Addr) (bs : List (List Nat)) (e : Nat) (hv : V) (d : Addr) (r b p : Nat) (g : Nat → Nat → Option Nat), vs = [.ref x, hv, .int p, .ref d] ∧ BareAt a.c_Bare H x bs e ∧ BefOk bs ∧ Acy bs ∧ bs.length ≤ 8 ∧ HuAt H hv r b ∧ Pnt bs r b ∧ p ∈ up bs r b ∧ (up bs r b).length ≤ f ∧ Mm H d g ∧
  GoodM bs (up bs r b).length g ∧ ∀ H' g', Fr d H H' → Mm H' d g' → GoodM bs (up bs r b).length g' → FarM bs (up bs r b).length g g' → Q (.int (wrs bs r b p)) H'
theorem ok_wh (T : Txt K mg a) {f : Nat} (ih : FnOk P w K mg base CX0 (2 * f + 4) a.f_names_behind a.d_names_behind ["bare", "hues", "known"] (spNB a f)) : FnOk P w K mg base CX0 (2 * f + 5) a.f_worse_hue a.d_worse_hue ["bare", "hues", "place", "known"] (spWH a f) := by
  have ok_names_behind := fun (_ : Txt K mg a) => ih
  refine T.F_worse_hue.ok sc_worse_hue (fun vs H Q E h => ?_) (fun cdv A outer s H vs Q E hr h => ?_)
  · obtain ⟨_, _, _, _, _, _, _, _, _, rfl, _⟩ := h
    rfl
  · obtain ⟨x, bs, e, hv, d, r, b, p, g, rfl, hB, bo, ac, hl, hh, hp, pm, hf, hm, hg, k⟩ := h
    refine ⟨_, (pss_cons (ps_set (i := 4) sc_worse_hue.nd rfl (by first | exact Or.inl rfl | exact Or.inr rfl) (pe_call (ok_names_behind T) (hr.mono (by omega)) rfl T.m_names_behind T.F_names_behind.kp T.b_names_behind .nil pass0 (pa_cons (pv 0) (pa_cons (pe_call (ok_painted T) (hr.mono (by omega)) rfl T.m_painted T.F_painted.kp T.b_painted .nil pass0 (pa_cons (pv 1) (pa_cons (pv 2) (pa_cons pe_bl pa_nil)))) (pa_cons (pv 3) pa_nil)))))
  (pss_one (ps_ret (pe_callB (call_max2 rfl) (by rfl) T.z_max (by decide +kernel) (pa_cons (pv 4) (pa_cons (pe_call (ok_names_behind T) (hr.mono (by omega)) rfl T.m_names_behind T.F_names_behind.kp T.b_names_behind .nil pass0 (pa_cons (pv 0) (pa_cons (pe_call (ok_painted T) (hr.mono (by omega)) rfl T.m_painted T.F_painted.kp T.b_painted .nil pass0 (pa_cons (pv 1) (pa_cons (pv 2) (pa_cons pe_bl pa_nil)))) (pa_cons (pv 3) pa_nil)))) pa_nil)))))), ?_⟩
    walk_at "sm"
    have pl := (up_mem.mp pm).1
    have ur := up_red pm
    have ub := up_blue pm
    refine ⟨r, b, p, hv, true, rfl, hh, by omega, fun v1 H1 e1 h1 => ?_⟩
    have h1' : HuAt H1 v1 (r ||| 2 ^ p) b := h1
    refine ⟨x, bs, e, v1, d, _, _, g, rfl, hB.go e1, bo, ac, hl, h1', hp.addR pm, by omega, hm.go e1, hg.le (by omega), fun H2 g2 f2 m2 gd2 fr2 => ?_⟩
    have kd2 := (Kd.ex e1).trans ((hm.go e1).kd f2)
    refine ⟨r, b, p, hv, false, rfl, hh.kd kd2, by omega, fun v3 H3 e3 h3 => ?_⟩
    have h3' : HuAt H3 v3 r (b ||| 2 ^ p) := h3
    refine ⟨x, bs, e, v3, d, _, _, g2, rfl, (hB.kd kd2).go e3, bo, ac, hl, h3', hp.addB pm, by omega, m2.go e3, gd2.le (by omega), fun H4 g4 f4 m4 gd4 fr4 => ?_⟩
    refine ⟨_, rfl, _, rfl, ?_⟩
    have kk := k H4 g4 (((Fr.of e1).trans f2).trans ((Fr.of e3).trans f4)) m4 (gd4.le (by omega)) ((fr2.le (by omega)).trans (fr4.le (by omega)))
    have eq : ((wrs bs r b p : Nat) : Int) = if ((nb bs r (b ||| 2 ^ p) : Nat) : Int) > ((nb bs (r ||| 2 ^ p) b : Nat) : Int) then ((nb bs r (b ||| 2 ^ p) : Nat) : Int) else ((nb bs (r ||| 2 ^ p) b : Nat) : Int) := by
      unfold wrs
      split <;> omega
    rw [eq] at kk
    exact kk
theorem ok_nb (T : Txt K mg a) : ∀ f, FnOk P w K mg base CX0 (2 * f + 4) a.f_names_behind a.d_names_behind ["bare", "hues", "known"] (spNB a f)
  | 0 => by
    refine T.F_names_behind.ok sc_names_behind (fun vs H Q E h => ?_) (fun cdv A outer s H vs Q E hr h => ?_)
    · obtain ⟨_, _, _, _, _, _, _, _, rfl, _⟩ := h
      rfl
    · obtain ⟨x, bs, e, hv, d, r, b, g, rfl, hB, bo, ac, hl, hh, hp, hf, hm, hg, k⟩ := h
      exact absurd hf (Nat.not_lt_zero _)
  | f + 1 => by
    have ok_worse_hue := fun (_ : Txt K mg a) => ok_wh T (ok_nb T f)
    show FnOk P w K mg base CX0 (2 * f + 5 + 1) a.f_names_behind a.d_names_behind ["bare", "hues", "known"] (spNB a (f + 1))
    refine T.F_names_behind.ok sc_names_behind (fun vs H Q E h => ?_) (fun cdv A outer s H vs Q E hr h => ?_)
    · obtain ⟨_, _, _, _, _, _, _, _, rfl, _⟩ := h
      rfl
    · obtain ⟨x, bs, e, hv, d, r, b, g, rfl, hB, bo, ac, hl, ⟨t, rfl, ht⟩, hp, hf, hm, hg, k⟩ := h
      refine ⟨_, (pss_cons (ps_if (pt_cmp (pc_dnotin (hu1 hr.units) (pv 1) (pv 2))) (pss_cons (ps_asg pe_int (pg_sub (pv 2) (pv 1) (set_dict (hu1 hr.units)) (by intro _; rfl)))
  (pss_one (ps_if (pt_not (pt_val (pe_call (ok_is_painted_over T) (hr.mono (by omega)) rfl T.m_is_painted_over T.F_is_painted_over.kp T.b_is_painted_over .nil pass0 (pa_cons (pv 0) (pa_cons (pv 1) pa_nil))))) (pss_one (ps_asg (pe_op op_add pe_int (pe_callB (cr_min rfl) (by rfl) T.z_min (by decide +kernel) (pa_cons (pe_lc (own := [("place", 3)]) (g := gName 3) (tt := tYes) rfl sc_names_behind.nd (pi_list (pe_call (ok_unpainted T) (hr.mono (by omega)) rfl T.m_unpainted T.F_unpainted.kp T.b_unpainted .nil pass0 (pa_cons (pv 0) (pa_cons (pv 1) pa_nil)))) (blkOk_by (own := [("place", 3)]) (N := ["bare", "hues", "known", "place"]) (sc := defScope s_names_behind) (by decide +kernel)) (fun _ _ _ _ _ => pg_name (i := 3) sc_names_behind.nd rfl (Or.inl rfl)) (fun _ _ _ _ _ => pts_nil) (fun _ _ _ _ _ => (pe_call (ok_worse_hue T) (hr.mono (by omega)) rfl T.m_worse_hue T.F_worse_hue.kp T.b_worse_hue .nil pass0 (pa_cons (pv 0) (pa_cons (pv 1) (pa_cons (pv 3) (pa_cons (pv 2) pa_nil))))))) pa_nil))) (pg_sub (pv 2) (pv 1) (set_dict (hu1 hr.units)) (by intro _; rfl))))
    pss_nil)))
    pss_nil)
  (pss_one (ps_ret (pe_dget (hu1 hr.units) (pv 2) (pv 1) (fun _ _ => rfl))))), ?_⟩
      walk_at "sm"
      obtain ⟨r8, b8⟩ := hp.lt hl
      have lr : ∀ r' b' n, (up bs r b).length + n ≤ (up bs r' b').length → 0 < n → ¬ (r' = r ∧ b' = b) := fun r' b' n h1 h2 h3 => by
        rw [h3.1, h3.2] at h1
        omega
      refine ⟨_, rfl, _, rfl, d, _, rfl, hm.dget ht, ?_⟩
      cases c : g r b with
      | some v =>
        refine ⟨_, rfl, iteF ⟨_, rfl, _, rfl, d, V.int (v : Nat), rfl, ?_, ?_⟩⟩
        · have := hm.dget ht
          rw [c] at this
          exact this
        · have := hg r b v c (Nat.lt_succ_self _)
          subst this
          exact k H g (Fr.refl _) hm hg (fun _ _ _ => rfl)
      | none =>
        obtain ⟨H1, pu, f1, m1⟩ := hm.put 0 ht r8 b8
        have kd1 := hm.kd f1
        refine ⟨_, rfl, iteT ⟨d, H1, rfl, pu, x, bs, e, r, b, .ref t, rfl, hB.kd kd1, bo, HuAt.kd kd1 ⟨t, rfl, ht⟩, fun H2 e2 => ⟨_, rfl, ?_⟩⟩⟩
        have kd2 := kd1.trans (Kd.ex e2)
        have m2 := m1.go e2
        have ht2 : H2 t = some (.tup [.int r, .int b]) := kd2 _ _ (fun _ z => nomatch z) ht
        cases o : ov bs r b with
        | true =>
          have nz := nb_zero.mpr o
          have v0 : upM g r b 0 r b = some 0 := if_pos ⟨rfl, rfl⟩
          refine iteF ⟨_, rfl, _, rfl, d, V.int (0 : Nat), rfl, ?_, ?_⟩
          · have := m2.dget ht2
            rw [v0] at this
            exact this
          · have kk := k H2 (upM g r b 0) (f1.trans (Fr.of e2)) m2 (fun r' b' v h1 h2 => ?_) (fun r' b' h1 => if_neg (lr r' b' 1 h1 (by decide)))
            · rw [nz] at kk
              exact kk
            · unfold upM at h1
              split at h1
              · next z =>
                rw [z.1, z.2, nz]
                exact (Option.some.inj h1).symm
              · exact hg r' b' v h1 h2
        | false =>
          refine iteT ⟨x, bs, e, r, b, .ref t, rfl, hB.kd kd2, by omega, ⟨t, rfl, ht2⟩, fun D0 H3 e3 hD0 => ⟨_, rfl, ⟨_, SqL.of hD0⟩, ?_⟩⟩
          have kd3 := kd2.trans (Kd.ex e3)
          have m3 := m2.go e3
          refine lcg_list (xs := (nI (up bs r b)).map V.int) (fun D i H' => ∃ g', Fr d H3 H' ∧ H' D = some (.lst ((nI (((up bs r b).take i).map (wrs bs r b))).map V.int)) ∧ Mm H' d g' ∧ GoodM bs (up bs r b).length g' ∧ FarM bs (up bs r b).length (upM g r b 0) g') (fun D hD => ⟨upM g r b 0, Fr.of (Evl.Ex.new hD), upd_same, m3.upd (m3.ne hD), fun r' b' v h1 h2 => ?_, fun _ _ _ => rfl⟩) (fun D i H' hD hi ⟨g', q1, _, q3, _⟩ => SqL.of (m3.kd q1 _ _ (fun _ z => nomatch z) hD0)) (fun D i y HX hD hi hv => ?_) fun D HX hD hv => ?_
          · unfold upM at h1
            rw [if_neg (fun z => by rw [z.1, z.2] at h2; omega)] at h1
            exact hg r' b' v h1 (by omega)
          · obtain ⟨pn, hp1, rfl⟩ := nat_at hi
            obtain ⟨g', q1, q2, q3, q4, q5⟩ := hv
            have kdx := kd3.trans (m3.kd q1)
            have pm : pn ∈ up bs r b := List.mem_of_getElem? hp1
            have il : i < (up bs r b).length := (List.getElem?_eq_some_iff.mp hp1).1
            have ul := up_len bs r b
            walk_at "sm"
            refine ⟨x, bs, e, .ref t, d, r, b, pn, g', rfl, hB.kd kdx, bo, ac, hl, HuAt.kd kdx ⟨t, rfl, ht⟩, hp, pm, by omega, q3, q4, fun H4 g4 f4 m4 gd4 fr4 => ?_⟩
            refine ⟨_, q3.kd f4 _ _ (fun _ z => nomatch z) q2, by rw [nI_len, List.length_map, List.length_take, sizeLine_eq]; omega, (q1.trans f4).mut hD, ?_, g4, m4.upd (m3.ne hD), gd4, q5.trans fr4⟩
            rw [upd_same, List.take_succ, hp1, Option.toList_some, List.map_append, nI_app]
            rfl
          · obtain ⟨g', q1, q2, q3, q4, q5⟩ := hv
            have kdx := kd3.trans (m3.kd q1)
            rw [nI_len, List.take_length] at q2
            have ne := up_some bo ac hp o
            have val : nb bs r b = 1 + mnL ((up bs r b).map (wrs bs r b)) := by rw [nb_eq, o, if_neg (by decide)]
            refine ⟨D, nI ((up bs r b).map (wrs bs r b)), rfl, SqL.of q2, ?_, fun m hm1 hm2 => ?_⟩
            · have := List.length_pos_iff.mpr ne
              have l2 : (nI ((up bs r b).map (wrs bs r b))).length = (up bs r b).length := by simp
              omega
            have mz : m = ((mnL ((up bs r b).map (wrs bs r b)) : Nat) : Int) := by
              obtain ⟨z, hz1, hz2⟩ := List.mem_map.mp hm1
              have := mnL_uniq (l := (up bs r b).map (wrs bs r b)) (m := z) hz1 fun y hy => by
                have := hm2 (y : Nat) (List.mem_map_of_mem (f := fun x : Nat => (x : Int)) hy)
                have : (z : Int) = m := hz2
                omega
              rw [← this]
              exact hz2.symm
            subst mz
            have htx : HX t = some (.tup [.int r, .int b]) := kdx _ _ (fun _ z => nomatch z) ht
            obtain ⟨H5, pu5, f5, m5⟩ := q3.put (nb bs r b) htx r8 b8
            have kd5 := q3.kd f5
            have ht5 := kd5 t (.tup [.int r, .int b]) (fun _ z => nomatch z) htx
            refine ⟨_, rfl, d, H5, rfl, ?_, _, rfl, _, rfl, d, V.int (nb bs r b : Nat), rfl, ?_, ?_⟩
            · rw [show (1 : Int) + ((mnL ((up bs r b).map (wrs bs r b)) : Nat) : Int) = ((nb bs r b : Nat) : Int) by rw [val]; omega]
              exact pu5
            · have := m5.dget ht5
              rw [show upM g' r b (nb bs r b) r b = some (nb bs r b) from if_pos ⟨rfl, rfl⟩] at this
              exact this
            · refine k H5 _ ((((f1.trans (Fr.of e2)).trans (Fr.of e3)).trans q1).trans f5) m5 (fun r' b' v h1 h2 => ?_) fun r' b' h1 => ?_
              · unfold upM at h1
                split at h1
                · next z =>
                  rw [z.1, z.2]
                  exact (Option.some.inj h1).symm
                · next z =>
                  rcases Nat.lt_or_ge (up bs r' b').length (up bs r b).length with q | q
                  · exact q4 r' b' v h1 q
                  · rw [q5 r' b' q] at h1
                    unfold upM at h1
                    rw [if_neg z] at h1
                    exact hg r' b' v h1 h2
              · have z := lr r' b' 1 h1 (by decide)
                show (if r' = r ∧ b' = b then _ else g' r' b') = _
                rw [if_neg z, q5 r' b' (by omega)]
                exact if_neg z
end


/-! ### names that are left -/
theorem Fr.ex {H H' : Hp} {d : Addr} {o : HO} (hd : H d = none) (f : Fr d (L2.upd H d o) H') : Evl.Ex H H' := fun b u h => f b u (ne_of_none h hd) (by rw [upd_ne (ne_of_none h hd)]; exact h)
theorem pt_pnt {H : Hp} {bs : List (List Nat)} {pnt : V} {l m : List Nat} (h : PtAt H bs.length pnt (.inr (l, m))) : Pnt bs (msk l) (msk m) ∧ (∀ p ∈ l, p < bs.length) ∧ ∀ p ∈ m, p < bs.length := by
  obtain ⟨q, rv, bv, _, _, ⟨_, _, _, _, h1⟩, h2, ⟨_, _, _, _, h3⟩, h4⟩ := h
  obtain ⟨p, l', hl⟩ := List.exists_cons_of_ne_nil h2
  refine ⟨⟨⟨p, h1 p (by rw [hl]; exact List.mem_cons_self), ?_⟩, fun x hx => ?_, fun x hx => ?_⟩, h1, h3⟩
  · rw [msk_bit, decide_eq_true_eq, hl]
    exact List.mem_cons_self
  · rw [msk_bit, decide_eq_true_eq] at hx
    rw [msk_bit]
    exact decide_eq_false fun z => h4 x z hx
  · rw [msk_bit, msk_bit, decide_eq_true_eq, decide_eq_true_eq] at hx
    exact hx.elim (h1 x) (h3 x)
theorem pnt_end {bs : List (List Nat)} {e : Nat} (h : e < bs.length) : Pnt bs (2 ^ e) 0 := by
  refine ⟨⟨e, h, by rw [bit_pow]; exact decide_eq_true rfl⟩, fun p _ => Nat.zero_testBit p, fun p hp => ?_⟩
  rw [bit_pow, Nat.zero_testBit, decide_eq_true_eq] at hp
  rcases hp with rfl | q
  · exact h
  · cases q
def AskP (a : Ad) (H : Hp) (bs : List (List Nat)) (pnt : V) (E : XK) (k : Nat → Nat → Prop) : Prop := (8 < bs.length ∧ RzP a.c_TooMany "most" (.int 8) H E) ∨ (bs.length ≤ 8 ∧ ∃ o, PtAt H bs.length pnt o ∧ match o with
    | .inl w => RzP a.c_BadPainting "what" (.str w) H E
    | .inr (l, m) => k (msk l) (msk m))
def AskN (a : Ad) (H : Hp) (bs : List (List Nat)) (e : Nat) (pnt : V) (E : XK) (k : Nat → Nat → Prop) : Prop := (pnt = .non ∧ bs.length ≤ 8 ∧ k (2 ^ e) 0) ∨ (pnt ≠ .non ∧ AskP a H bs pnt E k)
theorem AskP.imp {a : Ad} {H : Hp} {bs : List (List Nat)} {pnt : V} {E : XK} {k k' : Nat → Nat → Prop} (h : AskP a H bs pnt E k) (i : ∀ r b, bs.length ≤ 8 → Pnt bs r b → k r b → k' r b) : AskP a H bs pnt E k' := by
  rcases h with h | ⟨h1, o, h2, h3⟩
  · exact .inl h
  · refine .inr ⟨h1, o, h2, ?_⟩
    cases o with
    | inl w => exact h3
    | inr lm =>
      obtain ⟨l, m⟩ := lm
      exact i _ _ h1 (pt_pnt h2).1 h3
theorem AskN.imp {a : Ad} {H : Hp} {bs : List (List Nat)} {e : Nat} {pnt : V} {E : XK} {k k' : Nat → Nat → Prop} (he : e < bs.length) (h : AskN a H bs e pnt E k) (i : ∀ r b, bs.length ≤ 8 → Pnt bs r b → k r b → k' r b) : AskN a H bs e pnt E k' := by
  rcases h with ⟨h1, h2, h3⟩ | ⟨h1, h2⟩
  · exact .inl ⟨h1, h2, i _ _ h2 (pnt_end he) h3⟩
  · exact .inr ⟨h1, h2.imp i⟩
section
variable {P : Program} {w : World} {K : PySem.W.Frag} {mg : Str → Option Value} {base : Heap} {a : Ad}
theorem ask_ch {x : Addr} {bs : List (List Nat)} {e : Nat} {pnt : V} {H : Hp} {Q : VK} {E : XK} {k : Nat → Nat → Prop} (hB : BareAt a.c_Bare H x bs e) (hn : bs.length ≤ 60) (hp : PlainV H pnt) (h : AskP a H bs pnt E k) (i : ∀ r b v H', bs.length ≤ 8 → Pnt bs r b → k r b → Evl.Ex H H' → HuAt H' v r b → Q v H') : spCH a [.ref x, pnt] H Q E := by
  refine ⟨x, bs, e, pnt, rfl, hB, hn, hp, ?_⟩
  rcases h with h | ⟨h1, o, h2, h3⟩
  · exact .inl h
  · refine .inr ⟨h1, o, h2, ?_⟩
    cases o with
    | inl w => exact h3
    | inr lm =>
      obtain ⟨l, m⟩ := lm
      obtain ⟨p1, p2, p3⟩ := pt_pnt h2
      intro v H' e1 hh
      rw [msk_sb (fun x hx => by have := p2 x hx; omega), msk_sb (fun x hx => by have := p3 x hx; omega)] at hh
      exact i _ _ v H' h1 p1 h3 e1 hh
def spNLf (a : Ad) : Sp := fun vs H Q E => ∃ (x : Addr) (bs : List (List Nat)) (e : Nat) (pnt : V), vs = [.ref x, pnt] ∧ BareAt a.c_Bare H x bs e ∧ BefOk bs ∧ Acy bs ∧ bs.length ≤ 60 ∧ PlainV H pnt ∧ AskP a H bs pnt E fun r b => ∀ H', Evl.Ex H H' → Q (.int (nb bs r b)) H'
theorem up9 {bs : List (List Nat)} {r b : Nat} (h : bs.length ≤ 8) : (up bs r b).length < 9 := by
  have := up_len bs r b
  omega
theorem ok_names_behind (T : Txt K mg a) : FnOk P w K mg base CX0 22 a.f_names_behind a.d_names_behind ["bare", "hues", "known"] (spNB a 9) := ok_nb T 9
theorem ok_worse_hue (T : Txt K mg a) : FnOk P w K mg base CX0 23 a.f_worse_hue a.d_worse_hue ["bare", "hues", "place", "known"] (spWH a 9) := ok_wh T (ok_nb T 9)
theorem ok_names_left (T : Txt K mg a) : FnOk P w K mg base (L2.CX P w) 23 a.f_names_left a.d_names_left ["bare", "painting"] (spNLf a) := by
  refine T.F_names_left.okX sc_names_left (fun vs H Q E h => ?_) (fun cdv A outer s H vs Q E hr h => ?_)
  · obtain ⟨_, _, _, _, rfl, _⟩ := h
    rfl
  · obtain ⟨x, bs, e, pnt, rfl, hB, bo, ac, hn, hp, k⟩ := h
    refine ⟨_, (pss_one (ps_ret (pe_call (ok_names_behind T) (hr.mono (by decide)) rfl T.m_names_behind T.F_names_behind.kp T.b_names_behind .nil pass0 (pa_cons (pv 0) (pa_cons (pe_call (ok_checked_hues T) (hr.mono (by decide)) rfl T.m_checked_hues T.F_checked_hues.kp T.b_checked_hues .nil (passes_call (takes_of rfl rfl rfl rfl) (fun _ _ _ _ q => q)) (pa_cons (pv 0) (pa_cons (pv 1) pa_nil))) (pa_cons pe_dnewT pa_nil)))))), ?_⟩
    walk_at "sm"
    refine ask_ch hB hn hp k fun r b v H1 h8 hpn k e1 hh d hd => ?_
    refine ⟨x, bs, e, v, d, r, b, _, rfl, (hB.go e1).go (Evl.Ex.new hd), bo, ac, h8, hh.go (Evl.Ex.new hd), hpn, up9 h8, Mm.new, (fun _ _ _ z => nomatch z), fun H2 g2 f2 _ _ _ => k H2 (e1.trans (Fr.ex hd f2))⟩
def spNOf (a : Ad) : Sp := fun vs H Q E => ∃ (x : Addr) (bs : List (List Nat)) (e : Nat), vs = [.ref x] ∧ BareAt a.c_Bare H x bs e ∧ BefOk bs ∧ Acy bs ∧ bs.length ≤ 8 ∧ e < bs.length ∧ ∀ H', Evl.Ex H H' → Q (.int (1 + (nb bs (2 ^ e) 0 : Nat))) H'
theorem ok_names_of (T : Txt K mg a) : FnOk P w K mg base (L2.CX P w) 23 a.f_names_of a.d_names_of ["bare"] (spNOf a) := by
  refine T.F_names_of.okX sc_names_of (fun vs H Q E h => ?_) (fun cdv A outer s H vs Q E hr h => ?_)
  · obtain ⟨_, _, _, rfl, _⟩ := h
    rfl
  · obtain ⟨x, bs, e, rfl, hB, bo, ac, h8, he, k⟩ := h
    refine ⟨_, (pss_cons (ps_expr (pe_call (ok_check_small T) (hr.mono (by decide)) rfl T.m_check_small T.F_check_small.kp T.b_check_small .nil (passes_call (takes_of rfl rfl rfl rfl) (fun _ _ _ _ q => q)) (pa_cons (pv 0) pa_nil)))
  (pss_one (ps_ret (pe_op op_add pe_int (pe_call (ok_names_behind T) (hr.mono (by decide)) rfl T.m_names_behind T.F_names_behind.kp T.b_names_behind .nil pass0 (pa_cons (pv 0) (pa_cons (pe_call (ok_first_hues T) (hr.mono (by decide)) rfl T.m_first_hues T.F_first_hues.kp T.b_first_hues .nil pass0 (pa_cons (pv 0) pa_nil)) (pa_cons pe_dnewT pa_nil)))))))), ?_⟩
    walk_at "sm"
    refine ⟨x, bs, e, rfl, hB, by omega, fun _ => ?_, fun z => absurd h8 (by omega)⟩
    refine ⟨x, bs, e, rfl, hB, by omega, fun v H1 e1 hh d hd => ?_⟩
    refine ⟨x, bs, e, v, d, 2 ^ e, 0, _, rfl, (hB.go e1).go (Evl.Ex.new hd), bo, ac, h8, hh.go (Evl.Ex.new hd), pnt_end he, up9 h8, Mm.new, (fun _ _ _ z => nomatch z), fun H2 g2 f2 _ _ _ => ⟨_, rfl, k H2 (e1.trans (Fr.ex hd f2))⟩⟩
def spTH (a : Ad) : Sp := fun vs H Q E => ∃ (x : Addr) (bs : List (List Nat)) (e : Nat) (pnt : V), vs = [.ref x, pnt] ∧ BareAt a.c_Bare H x bs e ∧ e < bs.length ∧ bs.length ≤ 60 ∧ PlainV H pnt ∧ AskN a H bs e pnt E fun r b => ∀ v H', Evl.Ex H H' → HuAt H' v r b → Q v H'
theorem ok_told_hues (T : Txt K mg a) : FnOk P w K mg base (L2.CX P w) 8 a.f_told_hues a.d_told_hues ["bare", "painting"] (spTH a) := by
  refine T.F_told_hues.okX sc_told_hues (fun vs H Q E h => ?_) (fun cdv A outer s H vs Q E hr h => ?_)
  · obtain ⟨_, _, _, _, rfl, _⟩ := h
    rfl
  · obtain ⟨x, bs, e, pnt, rfl, hB, he, hn, hp, k⟩ := h
    refine ⟨_, (pss_cons (ps_if (pt_cmpR op_isN (pv 1) pe_non (nomark _)) (pss_one (ps_ret (pe_call (ok_first_hues T) (hr.mono (by decide)) rfl T.m_first_hues T.F_first_hues.kp T.b_first_hues .nil pass0 (pa_cons (pe_call (ok_check_small T) (hr.mono (by decide)) rfl T.m_check_small T.F_check_small.kp T.b_check_small .nil (passes_call (takes_of rfl rfl rfl rfl) (fun _ _ _ _ q => q)) (pa_cons (pv 0) pa_nil)) pa_nil))))
    pss_nil)
  (pss_one (ps_ret (pe_call (ok_checked_hues T) (hr.mono (by decide)) rfl T.m_checked_hues T.F_checked_hues.kp T.b_checked_hues .nil (passes_call (takes_of rfl rfl rfl rfl) (fun _ _ _ _ q => q)) (pa_cons (pv 0) (pa_cons (pv 1) pa_nil)))))), ?_⟩
    walk_at "sm"
    rcases k with ⟨rfl, h8, k⟩ | ⟨hne, k⟩
    · refine iteP rfl ⟨x, bs, e, rfl, hB, by omega, fun _ => ⟨x, bs, e, rfl, hB, by omega, fun v H1 e1 hh => k v H1 e1 hh⟩, fun z => absurd h8 (by omega)⟩
    · exact iteN hne (ask_ch hB hn hp k fun r b v H1 h8 hpn k e1 hh => k v H1 e1 hh)
end


/-! ### data of plans -/
mutual
inductive Ac (H : Hp) : V → PyData → Prop where
  | non : Ac H .non .none
  | bl (b : Bool) : Ac H (.bl b) (.bool b)
  | int (i : Int) : Ac H (.int i) (.int i)
  | str (x : Str) : Ac H (.str x) (.str x)
  | lst {a : Addr} {xs : List V} {ds : List PyData} : H a = some (.lst xs) → AcAll H xs ds → Ac H (.ref a) (.list ds)
  | tup {a : Addr} {xs : List V} {ds : List PyData} : H a = some (.tup xs) → AcAll H xs ds → Ac H (.ref a) (.tuple ds)
inductive AcAll (H : Hp) : List V → List PyData → Prop where
  | nil : AcAll H [] []
  | cons {v : V} {vs : List V} {d : PyData} {ds : List PyData} : Ac H v d → AcAll H vs ds → AcAll H (v :: vs) (d :: ds)
end
mutual
theorem Ac.kp {H H' : Hp} (e : Kp H H') : ∀ (d : PyData) (v : V), Ac H v d → Ac H' v d
  | .none, _, h => by cases h; exact .non
  | .bool b, _, h => by cases h; exact .bl b
  | .int i, _, h => by cases h; exact .int i
  | .str x, _, h => by cases h; exact .str x
  | .tuple ds, _, h => by cases h with
    | tup h1 h2 => exact .tup (e.1 _ _ h1) (AcAll.kp e ds _ h2)
  | .list ds, _, h => by cases h with
    | lst h1 h2 => exact .lst (e.2 _ _ h1) (AcAll.kp e ds _ h2)
  | .dict _, _, h => nomatch h
theorem AcAll.kp {H H' : Hp} (e : Kp H H') : ∀ (ds : List PyData) (vs : List V), AcAll H vs ds → AcAll H' vs ds
  | [], _, h => by cases h; exact .nil
  | d :: ds, _, h => by cases h with
    | cons h1 h2 => exact .cons (Ac.kp e d _ h1) (AcAll.kp e ds _ h2)
end
mutual
theorem Ac.dp {K : PySem.W.Frag} {H : Hp} : ∀ (d : PyData) (v : V), Ac H v d → Dp K H v d
  | .none, _, h => by cases h; exact .non
  | .bool b, _, h => by cases h; exact .bl b
  | .int i, _, h => by cases h; exact .int i
  | .str x, _, h => by cases h; exact .str x
  | .tuple ds, _, h => by cases h with
    | tup h1 h2 => exact .tup (SqT.of h1) (AcAll.dp ds _ h2)
  | .list ds, _, h => by cases h with
    | lst h1 h2 => exact .lst (SqL.of h1) (AcAll.dp ds _ h2)
  | .dict _, _, h => nomatch h
theorem AcAll.dp {K : PySem.W.Frag} {H : Hp} : ∀ (ds : List PyData) (vs : List V), AcAll H vs ds → DpAll K H vs ds
  | [], _, h => by cases h; exact .nil
  | d :: ds, _, h => by cases h with
    | cons h1 h2 => exact .cons (Ac.dp d _ h1) (AcAll.dp ds _ h2)
end
theorem Ac.kd {H H' : Hp} {v : V} {d : PyData} (e : Kd H H') (h : Ac H v d) : Ac H' v d := Ac.kp e.kp d v h
theorem Ac.go {H H' : Hp} {v : V} {d : PyData} (e : Evl.Ex H H') (h : Ac H v d) : Ac H' v d := Ac.kp (Kp.ex e) d v h
theorem Ac.plain {H : Hp} {v : V} {d : PyData} (h : Ac H v d) : PlainV H v := by
  cases h with
  | non => exact .inl rfl
  | bl b => exact .inr (.inl ⟨b, rfl⟩)
  | int i => exact .inr (.inr (.inl ⟨i, rfl⟩))
  | str x => exact .inr (.inr (.inr (.inl ⟨x, rfl⟩)))
  | lst h1 _ => exact .inr (.inr (.inr (.inr (.inr ⟨_, _, rfl, h1⟩))))
  | tup h1 _ => exact .inr (.inr (.inr (.inr (.inl ⟨_, _, rfl, h1⟩))))
theorem AcAll.len {H : Hp} : ∀ {vs : List V} {ds : List PyData}, AcAll H vs ds → vs.length = ds.length
  | _, _, .nil => rfl
  | _, _, .cons _ t => by rw [List.length_cons, List.length_cons, AcAll.len t]
/-- is it a tuple? -/
def tupD : PyData → Bool
  | .tuple _ => true
  | _ => false
theorem Ac.isi {K : PySem.W.Frag} {H : Hp} {v : V} {d : PyData} {Q : VK} (h : Ac H v d) (q : Q (.bl (tupD d)) H) : rIsi K [v, .ty "tuple"] H Q := by
  cases h with
  | non => exact isi_ty (t := "NoneType") (.base .non) rfl q
  | bl b => exact isi_ty (t := "bool") (.base (.bl b)) rfl q
  | int i => exact isi_ty (t := "int") (.base (.int i)) rfl q
  | str x => exact isi_ty (t := "str") (.base (.str x)) rfl q
  | lst h1 _ => exact isi_ty (t := "list") (.base (.lst h1)) rfl q
  | tup h1 _ => exact isi_ty (t := "tuple") (.base (.tup h1)) rfl q
/-- bad plans are no tuples of nothing or of three -/
def badD : PyData → Bool
  | .tuple ds => ds.length != 0 && ds.length != 3
  | _ => true
def Pl.okB : Pl → Bool
  | .leaf => true
  | .node _ x y => x.okB && y.okB
  | .bad d => badD d
def Pl.good : Pl → Bool
  | .leaf => true
  | .node _ x y => x.good && y.good
  | .bad _ => false
def Pl.hgt : Pl → Nat
  | .node _ x y => 1 + max x.hgt y.hgt
  | _ => 0
/-- a plan that lies there -/
structure PlAt (H : Hp) (v : V) (p : Pl) : Prop where
  at_ : Ac H v p.D
  ok : p.okB = true
  lay : p.D.canLay0 = true
  dep : p.D.depth ≤ 60
theorem PlAt.kd {H H' : Hp} {v : V} {p : Pl} (e : Kd H H') (h : PlAt H v p) : PlAt H' v p := ⟨h.at_.kd e, h.ok, h.lay, h.dep⟩
theorem PlAt.go {H H' : Hp} {v : V} {p : Pl} (e : Evl.Ex H H') (h : PlAt H v p) : PlAt H' v p := ⟨h.at_.go e, h.ok, h.lay, h.dep⟩
theorem PlAt.shaped {H : Hp} {v : V} {p : Pl} (h : PlAt H v p) : SeqAt.shaped p.D = true := shaped_of ⟨h.lay, h.dep⟩ (by decide)
theorem node_lay {p : Int} {x y : Pl} : (Pl.node p x y).D.canLay0 = (x.D.canLay0 && y.D.canLay0) := by
  show (true && (x.D.canLay0 && (y.D.canLay0 && true))) = _
  rw [Bool.true_and, Bool.and_true]
theorem node_dep {p : Int} {x y : Pl} : (Pl.node p x y).D.depth = max x.D.depth y.D.depth + 1 := by
  show max 0 (max x.D.depth (max y.D.depth 0)) + 1 = _
  omega
theorem PlAt.node {H : Hp} {v : V} {p : Int} {x y : Pl} (h : PlAt H v (.node p x y)) : ∃ t u1 u2, v = .ref t ∧ H t = some (.tup [.int p, u1, u2]) ∧ PlAt H u1 x ∧ PlAt H u2 y := by
  obtain ⟨h1, h2, h3, h4⟩ := h
  rw [node_lay, Bool.and_eq_true] at h3
  rw [node_dep] at h4
  have h2' : (x.okB && y.okB) = true := h2
  rw [Bool.and_eq_true] at h2'
  have h1' : Ac H v (.tuple [.int p, x.D, y.D]) := h1
  cases h1' with
  | tup e al =>
    cases al with
    | cons a1 al =>
      cases al with
      | cons a2 al =>
        cases al with
        | cons a3 al =>
          cases al
          cases a1
          exact ⟨_, _, _, rfl, e, ⟨a2, h2'.1, h3.1, by omega⟩, ⟨a3, h2'.2, h3.2, by omega⟩⟩
theorem PlAt.leaf {H : Hp} {v : V} (h : PlAt H v .leaf) : ∃ t, v = .ref t ∧ H t = some (.tup []) := by
  have h1' : Ac H v (.tuple []) := h.at_
  cases h1' with
  | tup e al =>
    cases al
    exact ⟨_, rfl, e⟩
theorem PlAt.mk_leaf {H : Hp} {t : Addr} (h : H t = some (.tup [])) : PlAt H (.ref t) .leaf := ⟨.tup h .nil, rfl, rfl, by decide⟩
theorem PlAt.mk_node {H : Hp} {t : Addr} {p : Int} {u1 u2 : V} {x y : Pl} (h : H t = some (.tup [.int p, u1, u2])) (h1 : PlAt H u1 x) (h2 : PlAt H u2 y) (hd : (Pl.node p x y).D.depth ≤ 60) : PlAt H (.ref t) (.node p x y) :=
  ⟨.tup h (.cons (.int p) (.cons h1.at_ (.cons h2.at_ .nil))), by show (x.okB && y.okB) = true; rw [h1.ok, h2.ok]; rfl, by rw [node_lay, h1.lay, h2.lay]; rfl, hd⟩
theorem PlAt.bad {H : Hp} {v : V} {d : PyData} (h : PlAt H v (.bad d)) : Ac H v d ∧ badD d = true := ⟨h.at_, h.ok⟩
def isLeaf : Pl → Bool
  | .leaf => true
  | _ => false
theorem Pl.eqv0 {p : Pl} (h : p.okB = true) : PyData.eqv p.D (.tuple []) = isLeaf p := by
  cases p with
  | leaf => rfl
  | node p x y => rfl
  | bad d =>
    cases d with
    | tuple ds =>
      cases ds with
      | nil => cases h
      | cons => rfl
    | _ => rfl
theorem Pl.eq0 {K : PySem.W.Frag} {H : Hp} {v : V} {p : Pl} {t : Addr} {Q : VK} (h : PlAt H v p) (ht : H t = some (.tup [])) (q : Q (.bl (isLeaf p)) H) : rEqD K v (.ref t) H Q :=
  ⟨p.D, .tuple [], Ac.dp _ _ h.at_, .tup (SqT.of ht) .nil, h.shaped, rfl, by rw [Pl.eqv0 h.ok]; exact q⟩
theorem in03 {n : Nat} : inV (V.int (n : Int)) [V.int 0, V.int 3] = (decide (n = 0) || decide (n = 3)) := by
  show (((0 : Int) == (n : Int)) || (((3 : Int) == (n : Int)) || false)) = _
  rw [Bool.or_false, Bool.eq_iff_iff, Bool.or_eq_true, Bool.or_eq_true, beq_iff_eq, beq_iff_eq, decide_eq_true_eq, decide_eq_true_eq]
  omega
section
variable {P : Program} {w : World} {K : PySem.W.Frag} {mg : Str → Option Value} {base : Heap} {a : Ad}
def spPN (f : Nat) : Sp := fun vs H Q _ => ∃ (v : V) (p : Pl), vs = [v] ∧ PlAt H v p ∧ p.good = true ∧ p.hgt < f ∧ ∀ H', Evl.Ex H H' → Q (.int (p.dep : Nat)) H'
theorem ok_pn (T : Txt K mg a) : ∀ f, FnOk P w K mg base CX0 (f + 1) a.f_plan_names a.d_plan_names ["plan"] (spPN f)
  | 0 => by
    refine T.F_plan_names.ok sc_plan_names (fun vs H Q E h => ?_) (fun cdv A outer s H vs Q E hr h => ?_)
    · obtain ⟨_, _, rfl, _⟩ := h
      rfl
    · obtain ⟨v, p, rfl, h1, h2, h3, k⟩ := h
      exact absurd h3 (Nat.not_lt_zero _)
  | f + 1 => by
    have ok_plan_names := fun (_ : Txt K mg a) => ok_pn T f
    refine T.F_plan_names.ok sc_plan_names (fun vs H Q E h => ?_) (fun cdv A outer s H vs Q E hr h => ?_)
    · obtain ⟨_, _, rfl, _⟩ := h
      rfl
    · obtain ⟨v, p, rfl, h1, h2, h3, k⟩ := h
      refine ⟨_, (pss_cons (ps_if (pt_cmpR (op_eqD hr.units) (pv 0) (pe_tup pa_nil) (nomark _)) (pss_one (ps_ret pe_int))
    pss_nil)
  (pss_one (ps_ret (pe_op op_add pe_int (pe_callB (call_max2 rfl) (by rfl) T.z_max (by decide +kernel) (pa_cons (pe_call (ok_plan_names T) (hr.mono (by omega)) rfl T.m_plan_names T.F_plan_names.kp T.b_plan_names .nil pass0 (pa_cons (pe_ix ix_tup (pv 0) pe_int (fun _ _ => rfl)) pa_nil)) (pa_cons (pe_call (ok_plan_names T) (hr.mono (by omega)) rfl T.m_plan_names T.F_plan_names.kp T.b_plan_names .nil pass0 (pa_cons (pe_ix ix_tup (pv 0) pe_int (fun _ _ => rfl)) pa_nil)) pa_nil))))))), ?_⟩
      walk_at "sm"
      refine ⟨sz (by decide), fun t0 ht0 => ?_⟩
      have e0 := Evl.Ex.new (o := .tup []) ht0
      refine Pl.eq0 (h1.go e0) upd_same ⟨_, rfl, ?_⟩
      cases p with
      | leaf => exact iteT (k _ e0)
      | bad d => cases h2
      | node q p1 p2 =>
        obtain ⟨t, u1, u2, rfl, ht, q1, q2⟩ := h1.node
        have h2' : (p1.good && p2.good) = true := h2
        rw [Bool.and_eq_true] at h2'
        have h3' : 1 + max p1.hgt p2.hgt < f + 1 := h3
        refine iteF (ix1 (e0 _ _ ht) ⟨u1, p1, rfl, q1.go e0, h2'.1, by omega, fun H1 e1 => ixt (e1 _ _ (e0 _ _ ht)) (atI_nat (j := 2) rfl) ⟨u2, p2, rfl, (q2.go e0).go e1, h2'.2, by omega, fun H2 e2 => ⟨_, rfl, _, rfl, ?_⟩⟩⟩)
        have kk := k H2 ((e0.trans e1).trans e2)
        have eq : (((Pl.node q p1 p2).dep : Nat) : Int) = 1 + if ((p2.dep : Nat) : Int) > ((p1.dep : Nat) : Int) then ((p2.dep : Nat) : Int) else ((p1.dep : Nat) : Int) := by
          show ((1 + max p1.dep p2.dep : Nat) : Int) = _
          split <;> omega
        rw [eq] at kk
        exact kk
def spNF (a : Ad) (f : Nat) : Sp := fun vs H Q _ => ∃ (x : Addr) (bs : List (List Nat)) (e : Nat) (v hv : V) (p : Pl) (r b : Nat), vs = [.ref x, v, hv] ∧ BareAt a.c_Bare H x bs e ∧ BefOk bs ∧ bs.length ≤ 200 ∧ PlAt H v p ∧ p.hgt < f ∧ HuAt H hv r b ∧ ∀ H', Evl.Ex H H' → Q (match p.nw bs r b with | none => .non | some w => .str w) H'
theorem ok_nf (T : Txt K mg a) : ∀ f, FnOk P w K mg base CX0 (f + 4) a.f_naming_fault_in a.d_naming_fault_in ["bare", "plan", "hues"] (spNF a f)
  | 0 => by
    refine T.F_naming_fault_in.ok sc_naming_fault_in (fun vs H Q E h => ?_) (fun cdv A outer s H vs Q E hr h => ?_)
    · obtain ⟨_, _, _, _, _, _, _, _, rfl, _⟩ := h
      rfl
    · obtain ⟨x, bs, e, v, hv, p, r, b, rfl, hB, bo, hl, hp, hf, hh, k⟩ := h
      exact absurd hf (Nat.not_lt_zero _)
  | f + 1 => by
    have ok_naming_fault_in := fun (_ : Txt K mg a) => ok_nf T f
    refine T.F_naming_fault_in.ok sc_naming_fault_in (fun vs H Q E h => ?_) (fun cdv A outer s H vs Q E hr h => ?_)
    · obtain ⟨_, _, _, _, _, _, _, _, rfl, _⟩ := h
      rfl
    · obtain ⟨x, bs, e, v, hv, p, r, b, rfl, hB, bo, hl, hp, hf, hh, k⟩ := h
      refine ⟨_, (pss_cons (ps_if (PW.pt (pw_or (pt_not (pt_val (pe_callB call_isi (by rfl) T.z_isinstance (by decide +kernel) (pa_cons (pv 1) (pa_cons (pe_bltn (v := .ty "tuple") (by rfl) T.z_tuple (by decide +kernel) rfl) pa_nil))))) (pw_or1 (pt_cmpR op_notIn_seq (pe_callB call_len_seq (by rfl) T.z_len (by decide +kernel) (pa_cons (pv 1) pa_nil)) (pe_tup (pa_cons pe_int (pa_cons pe_int pa_nil))) (by rfl))))) (pss_one (ps_ret pe_str))
    pss_nil)
  (pss_cons (ps_if (pt_cmpR (op_eqD hr.units) (pv 1) (pe_tup pa_nil) (nomark _)) (pss_one (ps_ret (pe_ifExp (pt_val (pe_call (ok_is_painted_over T) (hr.mono (by omega)) rfl T.m_is_painted_over T.F_is_painted_over.kp T.b_is_painted_over .nil pass0 (pa_cons (pv 0) (pa_cons (pv 2) pa_nil)))) pe_non pe_str)))
    pss_nil)
  (pss_cons (ps_if (pt_val (pe_call (ok_is_painted_over T) (hr.mono (by omega)) rfl T.m_is_painted_over T.F_is_painted_over.kp T.b_is_painted_over .nil pass0 (pa_cons (pv 0) (pa_cons (pv 2) pa_nil)))) (pss_one (ps_ret pe_str))
    pss_nil)
  (pss_cons (ps_asg (pv 1) (pg_tup rfl (pgs_cons (pg_name (i := 3) sc_naming_fault_in.nd rfl (by first | exact Or.inl rfl | exact Or.inr rfl)) (pgs_cons (pg_name (i := 4) sc_naming_fault_in.nd rfl (by first | exact Or.inl rfl | exact Or.inr rfl)) (pgs_cons (pg_name (i := 5) sc_naming_fault_in.nd rfl (by first | exact Or.inl rfl | exact Or.inr rfl)) pgs_nil)))))
  (pss_cons (ps_if (PW.pt (pw_or (pt_not (pt_val (pe_call (ok_is_placeG T) (hr.mono (by omega)) rfl T.m_is_place T.F_is_place.kp T.b_is_place .nil pass0 (pa_cons (pv 0) (pa_cons (pv 3) pa_nil))))) (pw_or1 (pt_truth (pe_op op_odd (pe_op op_shrK (pe_op op_orN (pe_ix ix_tup (pv 2) pe_int (fun _ _ => rfl)) (pe_ix ix_tup (pv 2) pe_int (fun _ _ => rfl))) (pv 3)) pe_int) (by intro _; rfl))))) (pss_one (ps_ret pe_str))
    pss_nil)
  (pss_cons (ps_set (i := 6) sc_naming_fault_in.nd rfl (by first | exact Or.inl rfl | exact Or.inr rfl) (pe_call (ok_naming_fault_in T) (hr.mono (by omega)) rfl T.m_naming_fault_in T.F_naming_fault_in.kp T.b_naming_fault_in .nil pass0 (pa_cons (pv 0) (pa_cons (pv 4) (pa_cons (pe_call (ok_painted T) (hr.mono (by omega)) rfl T.m_painted T.F_painted.kp T.b_painted .nil pass0 (pa_cons (pv 2) (pa_cons (pv 3) (pa_cons pe_bl pa_nil)))) pa_nil)))))
  (pss_one (ps_ret (pe_ifExp (pt_cmpR op_isN (pv 6) pe_non (nomark _)) (pe_call (ok_naming_fault_in T) (hr.mono (by omega)) rfl T.m_naming_fault_in T.F_naming_fault_in.kp T.b_naming_fault_in .nil pass0 (pa_cons (pv 0) (pa_cons (pv 5) (pa_cons (pe_call (ok_painted T) (hr.mono (by omega)) rfl T.m_painted T.F_painted.kp T.b_painted .nil pass0 (pa_cons (pv 2) (pa_cons (pv 3) (pa_cons pe_bl pa_nil)))) pa_nil)))) (pv 6)))))))))), ?_⟩
      walk_at "sm"
      refine hp.at_.isi ⟨_, rfl, ?_⟩
      cases p with
      | bad d =>
        obtain ⟨hA, hb⟩ := hp.bad
        cases d with
        | tuple ds =>
          cases hA with
          | tup ht al =>
            have ll := al.len
            have hb' : (ds.length != 0 && ds.length != 3) = true := hb
            rw [Bool.and_eq_true, bne_iff_ne, bne_iff_ne] at hb'
            refine iteF ⟨_, rfl, _, .inr (SqT.of ht), sz (by decide), fun p0 hp0 => ni_tup (SqT.of upd_same) rfl rfl ⟨_, rfl, ?_⟩⟩
            rw [in03, ll, decide_eq_false hb'.1, decide_eq_false hb'.2]
            exact iteT (k _ (Evl.Ex.new hp0))
        | _ => exact iteT (k _ (Evl.Ex.refl _))
      | leaf =>
        obtain ⟨t, rfl, ht⟩ := hp.leaf
        refine iteF ⟨_, rfl, _, .inr (SqT.of ht), sz (by decide), fun p0 hp0 => ni_tup (SqT.of upd_same) rfl rfl ⟨_, rfl, ?_⟩⟩
        rw [in03, List.length_nil, decide_eq_true rfl]
        have e0 := Evl.Ex.new (o := .tup [.int 0, .int 3]) hp0
        refine iteF ⟨sz (by decide), fun p1 hp1 => Pl.eq0 ((hp.go e0).go (Evl.Ex.new hp1)) upd_same ⟨_, rfl, iteT ?_⟩⟩
        have e1 := e0.trans (Evl.Ex.new (o := .tup []) hp1)
        refine ⟨x, bs, e, r, b, hv, rfl, hB.go e1, bo, hh.go e1, fun H2 e2 => ⟨_, rfl, ?_⟩⟩
        have kk := k H2 (e1.trans e2)
        have eq : Pl.nw bs .leaf r b = (if ov bs r b = true then none else some ("early" : Str) : Option Str) := rfl
        rw [eq] at kk
        cases o : ov bs r b with
        | true =>
          rw [o] at kk
          exact iteT kk
        | false =>
          rw [o] at kk
          exact iteF kk
      | node q p1 p2 =>
        obtain ⟨t, u1, u2, rfl, ht, q1, q2⟩ := hp.node
        have hf' : 1 + max p1.hgt p2.hgt < f + 1 := hf
        refine iteF ⟨_, rfl, _, .inr (SqT.of ht), sz (by decide), fun p0 hp0 => ni_tup (SqT.of upd_same) rfl rfl ⟨_, rfl, ?_⟩⟩
        rw [in03, List.length_cons, List.length_cons, List.length_cons, List.length_nil, decide_eq_true rfl, Bool.or_true]
        have e0 := Evl.Ex.new (o := .tup [.int 0, .int 3]) hp0
        refine iteF ⟨sz (by decide), fun p1' hp1 => Pl.eq0 ((hp.go e0).go (Evl.Ex.new hp1)) upd_same ⟨_, rfl, iteF ?_⟩⟩
        have e1 := e0.trans (Evl.Ex.new (o := .tup []) hp1)
        refine ⟨x, bs, e, r, b, hv, rfl, hB.go e1, bo, hh.go e1, fun H2 e2 => ⟨_, rfl, ?_⟩⟩
        have e2' := e1.trans e2
        have nwq : Pl.nw bs (.node q p1 p2) r b = (if ov bs r b = true then some ("idle" : Str) else if ¬ (0 ≤ q ∧ q < bs.length) ∨ (r ||| b).testBit q.toNat = true then some ("place" : Str) else match p1.nw bs (r ||| 2 ^ q.toNat) b with
          | some w => some w
          | none => p2.nw bs r (b ||| 2 ^ q.toNat) : Option Str) := rfl
        cases o : ov bs r b with
        | true =>
          rw [o, if_pos rfl] at nwq
          have kk := k H2 e2'
          rw [nwq] at kk
          exact iteT kk
        | false =>
          rw [o, if_neg (by decide)] at nwq
          refine iteF ⟨t, rfl, _, SqT.of (e2' _ _ ht), rfl, _, _, rfl, _, _, rfl, _, _, rfl, rfl, ?_⟩
          have hh2 := hh.go e2'
          have hB2 := hB.go e2'
          obtain ⟨th, rfl, hth⟩ := hh
          refine ⟨x, bs, e, .int q, rfl, hB2, plain_int, _, rfl, ?_⟩
          have kk := k H2 e2'
          rw [nwq] at kk
          cases c : wiB (.int q) 0 ((bs.length : Int) - 1) with
          | false =>
            have c' : (decide ((0 : Int) ≤ q) && decide (q ≤ (bs.length : Int) - 1)) = false := c
            rw [if_pos (.inl fun z => by rw [decide_eq_true z.1, decide_eq_true (show q ≤ (bs.length : Int) - 1 by omega)] at c'; cases c')] at kk
            exact iteT kk
          | true =>
            have c' : (decide ((0 : Int) ≤ q) && decide (q ≤ (bs.length : Int) - 1)) = true := c
            rw [Bool.and_eq_true, decide_eq_true_eq, decide_eq_true_eq] at c'
            obtain ⟨n, rfl⟩ : ∃ n : Nat, q = n := ⟨q.toNat, by omega⟩
            rw [Int.toNat_natCast] at kk
            refine iteF (ix0 (e2' _ _ hth) (ix1 (e2' _ _ hth) ⟨r, rfl, b, rfl, r ||| b, rfl, n, rfl, _, rfl, _, rfl, ?_⟩))
            rw [tru_bit]
            cases d : (r ||| b).testBit n with
            | true =>
              rw [if_pos (.inr d)] at kk
              exact iteT kk
            | false =>
              have nn : ¬ (¬ ((0 : Int) ≤ (n : Int) ∧ (n : Int) < bs.length) ∨ (r ||| b).testBit n = true) := fun z => z.elim (fun y => y ⟨by omega, by omega⟩) fun y => by rw [d] at y; cases y
              rw [if_neg nn] at kk
              refine iteF ⟨r, b, n, .ref th, true, rfl, hh2, by omega, fun v1 H3 e3 h3 => ?_⟩
              have h3' : HuAt H3 v1 (r ||| 2 ^ n) b := h3
              have e3' := e2'.trans e3
              refine ⟨x, bs, e, u1, v1, p1, _, _, rfl, hB2.go e3, bo, hl, q1.go e3', by omega, h3', fun H4 e4 => ?_⟩
              have e4' := e3'.trans e4
              cases m : p1.nw bs (r ||| 2 ^ n) b with
              | some w =>
                refine iteN (fun z => nomatch z) ?_
                have kk := k H4 e4'
                rw [nwq, Int.toNat_natCast, if_neg nn, m] at kk
                exact kk
              | none =>
                refine iteP rfl ⟨r, b, n, .ref th, false, rfl, hh2.go (e3.trans e4), by omega, fun v5 H5 e5 h5 => ?_⟩
                have h5' : HuAt H5 v5 r (b ||| 2 ^ n) := h5
                have e5' := e4'.trans e5
                refine ⟨x, bs, e, u2, v5, p2, _, _, rfl, (hB2.go (e3.trans e4)).go e5, bo, hl, q2.go e5', by omega, h5', fun H6 e6 => ?_⟩
                have kk := k H6 (e5'.trans e6)
                rw [nwq, Int.toNat_natCast, if_neg nn, m] at kk
                exact kk
end


/-! ### naming plans -/
theorem Kd.lst {H H' : Hp} {b : Addr} {xs : List V} (k : Kd H H') (h : H b = some (.lst xs)) : H' b = some (.lst xs) := k b _ (fun _ z => nomatch z) h
theorem Kd.tup {H H' : Hp} {b : Addr} {xs : List V} (k : Kd H H') (h : H b = some (.tup xs)) : H' b = some (.tup xs) := k b _ (fun _ z => nomatch z) h
theorem nI_get {l : List Nat} {i q : Nat} (h : l[i]? = some q) : ((nI l).map V.int)[i]? = some (V.int (q : Nat)) := by
  rw [List.getElem?_map]
  show (((List.map (fun x : Nat => (x : Int)) l)[i]?).map V.int) = _
  rw [List.getElem?_map, h]
  rfl
theorem good_all {bs : List (List Nat)} {m : Nat} {g g' : Nat → Nat → Option Nat} (h : GoodM bs 100 g) (h1 : GoodM bs m g') (h2 : FarM bs m g g') : GoodM bs 100 g' := fun r b v e l => by
  rcases Nat.lt_or_ge (up bs r b).length m with q | q
  · exact h1 r b v e q
  · exact h r b v (by rw [← h2 r b q]; exact e) l
theorem npl_depth {bs : List (List Nat)} : ∀ (n r b : Nat), (npl bs n r b).D.depth ≤ n + 1
  | 0, _, _ => by show 0 + 1 ≤ 0 + 1; omega
  | n + 1, r, b => by
    unfold npl
    split
    · show 0 + 1 ≤ _
      omega
    · rw [node_dep]
      have h1 := npl_depth (bs := bs) n (r ||| 2 ^ ((up bs r b).find? fun p => decide (wrs bs r b p < nb bs r b)).getD 0) b
      have h2 := npl_depth (bs := bs) n r (b ||| 2 ^ ((up bs r b).find? fun p => decide (wrs bs r b p < nb bs r b)).getD 0)
      omega
section
variable {P : Program} {w : World} {K : PySem.W.Frag} {mg : Str → Option Value} {base : Heap} {a : Ad}
theorem ok_naming_fault_in (T : Txt K mg a) : FnOk P w K mg base CX0 24 a.f_naming_fault_in a.d_naming_fault_in ["bare", "plan", "hues"] (spNF a 20) := ok_nf T 20
theorem ok_plan_names (T : Txt K mg a) : FnOk P w K mg base CX0 21 a.f_plan_names a.d_plan_names ["plan"] (spPN 20) := ok_pn T 20
def spNFt (a : Ad) : Sp := fun vs H Q E => ∃ (x : Addr) (bs : List (List Nat)) (e : Nat) (v pnt : V) (p : Pl), vs = [.ref x, v, pnt] ∧ BareAt a.c_Bare H x bs e ∧ BefOk bs ∧ e < bs.length ∧ bs.length ≤ 60 ∧ PlAt H v p ∧ p.hgt < 20 ∧ PlainV H pnt ∧ AskN a H bs e pnt E fun r b => ∀ H', Evl.Ex H H' → Q (match p.nw bs r b with | none => .non | some w => .str w) H'
theorem ok_naming_fault (T : Txt K mg a) : FnOk P w K mg base (L2.CX P w) 25 a.f_naming_fault a.d_naming_fault ["bare", "plan", "painting"] (spNFt a) := by
  refine T.F_naming_fault.ok sc_naming_fault (fun vs H Q E h => ?_) (fun cdv A outer s H vs Q E hr h => ?_)
  · obtain ⟨_, _, _, _, _, _, rfl, _⟩ := h
    rfl
  · obtain ⟨x, bs, e, v, pnt, p, rfl, hB, bo, he, hn, hp, hg, hpl, k⟩ := h
    refine ⟨_, (pss_one (ps_ret (pe_call (ok_naming_fault_in T) (hr.mono (by decide)) rfl T.m_naming_fault_in T.F_naming_fault_in.kp T.b_naming_fault_in .nil pass0 (pa_cons (pv 0) (pa_cons (pv 1) (pa_cons (pe_call (ok_told_hues T) (hr.mono (by decide)) rfl T.m_told_hues T.F_told_hues.kp T.b_told_hues .nil (passes_call (takes_of rfl rfl rfl rfl) (fun _ _ _ _ q => q)) (pa_cons (pv 0) (pa_cons (pv 2) pa_nil))) pa_nil)))))), ?_⟩
    walk_at "sm"
    refine ⟨x, bs, e, pnt, rfl, hB, he, hn, hpl, k.imp he fun r b h8 hpn k v1 H1 e1 hh => ?_⟩
    exact ⟨x, bs, e, v, v1, p, r, b, rfl, hB.go e1, bo, by omega, hp.go e1, hg, hh, fun H2 e2 => k H2 (e1.trans e2)⟩
def spNI (a : Ad) (f : Nat) : Sp := fun vs H Q _ => ∃ (x : Addr) (bs : List (List Nat)) (e : Nat) (hv : V) (d : Addr) (r b : Nat) (g : Nat → Nat → Option Nat), vs = [.ref x, hv, .ref d] ∧ BareAt a.c_Bare H x bs e ∧ BefOk bs ∧ Acy bs ∧ bs.length ≤ 8 ∧ HuAt H hv r b ∧ Pnt bs r b ∧ (up bs r b).length < f ∧ Mm H d g ∧
  GoodM bs 100 g ∧ ∀ H' g' v, Fr d H H' → Mm H' d g' → GoodM bs 100 g' → PlAt H' v (npl bs (up bs r b).length r b) → Q v H'
theorem ok_ni (T : Txt K mg a) : ∀ f, FnOk P w K mg base CX0 (f + 24) a.f_naming_in a.d_naming_in ["bare", "hues", "known"] (spNI a f)
  | 0 => by
    refine T.F_naming_in.ok sc_naming_in (fun vs H Q E h => ?_) (fun cdv A outer s H vs Q E hr h => ?_)
    · obtain ⟨_, _, _, _, _, _, _, _, rfl, _⟩ := h
      rfl
    · obtain ⟨x, bs, e, hv, d, r, b, g, rfl, hB, bo, ac, hl, hh, hp, hf, hm, hg, k⟩ := h
      exact absurd hf (Nat.not_lt_zero _)
  | f + 1 => by
    have ok_naming_in := fun (_ : Txt K mg a) => ok_ni T f
    refine T.F_naming_in.ok sc_naming_in (fun vs H Q E h => ?_) (fun cdv A outer s H vs Q E hr h => ?_)
    · obtain ⟨_, _, _, _, _, _, _, _, rfl, _⟩ := h
      rfl
    · obtain ⟨x, bs, e, hv, d, r, b, g, rfl, hB, bo, ac, hl, ⟨t, rfl, ht⟩, hp, hf, hm, hg, k⟩ := h
      refine ⟨_, (pss_cons (ps_set (i := 3) sc_naming_in.nd rfl (by first | exact Or.inl rfl | exact Or.inr rfl) (pe_call (ok_names_behind T) (hr.mono (by omega)) rfl T.m_names_behind T.F_names_behind.kp T.b_names_behind .nil pass0 (pa_cons (pv 0) (pa_cons (pv 1) (pa_cons (pv 2) pa_nil)))))
  (pss_cons (ps_if (pt_cmpR op_eq (pv 3) pe_int (nomark _)) (pss_one (ps_ret (pe_tup pa_nil)))
    pss_nil)
  (pss_cons (ps_setLc (i := 4) (own := [("place", 5)]) (g := gName 5)  rfl sc_naming_in.nd rfl rfl (sw_true rfl rfl rfl (by decide +kernel)) (pi_list (pe_call (ok_unpainted T) (hr.mono (by omega)) rfl T.m_unpainted T.F_unpainted.kp T.b_unpainted .nil pass0 (pa_cons (pv 0) (pa_cons (pv 1) pa_nil)))) (blkOk_by (own := [("place", 5)]) (N := ["bare", "hues", "known", "needed", "helping", "place", "red"]) (sc := defScope s_naming_in) (by decide +kernel)) (fun _ _ _ _ _ => pg_name (i := 5) sc_naming_in.nd rfl (Or.inl rfl)) (fun _ _ _ _ _ => (pts_one (pt_cmpR op_lt (pe_call (ok_worse_hue T) (hr.mono (by omega)) rfl T.m_worse_hue T.F_worse_hue.kp T.b_worse_hue .nil pass0 (pa_cons (pv 0) (pa_cons (pv 1) (pa_cons (pv 5) (pa_cons (pv 2) pa_nil))))) (pv 3) (nomark _)))) (fun _ _ _ _ _ => (pv 5)))
  (pss_cons (ps_set (i := 5) sc_naming_in.nd rfl (by first | exact Or.inl rfl | exact Or.inr rfl) (pe_ix ix_list (pv 4) pe_int (fun _ _ => rfl)))
  (pss_cons (ps_set (i := 6) sc_naming_in.nd rfl (by first | exact Or.inl rfl | exact Or.inr rfl) (pe_call (ok_naming_in T) (hr.mono (by omega)) rfl T.m_naming_in T.F_naming_in.kp T.b_naming_in .nil pass0 (pa_cons (pv 0) (pa_cons (pe_call (ok_painted T) (hr.mono (by omega)) rfl T.m_painted T.F_painted.kp T.b_painted .nil pass0 (pa_cons (pv 1) (pa_cons (pv 5) (pa_cons pe_bl pa_nil)))) (pa_cons (pv 2) pa_nil)))))
  (pss_one (ps_ret (pe_tup (pa_cons (pv 5) (pa_cons (pv 6) (pa_cons (pe_call (ok_naming_in T) (hr.mono (by omega)) rfl T.m_naming_in T.F_naming_in.kp T.b_naming_in .nil pass0 (pa_cons (pv 0) (pa_cons (pe_call (ok_painted T) (hr.mono (by omega)) rfl T.m_painted T.F_painted.kp T.b_painted .nil pass0 (pa_cons (pv 1) (pa_cons (pv 5) (pa_cons pe_bl pa_nil)))) (pa_cons (pv 2) pa_nil)))) pa_nil))))))))))), ?_⟩
      walk_at "sm"
      have ul := up_len bs r b
      refine ⟨x, bs, e, .ref t, d, r, b, g, rfl, hB, bo, ac, hl, ⟨t, rfl, ht⟩, hp, by omega, hm, hg.le (by omega), fun H1 g1 f1 m1 gd1 fr1 => ?_⟩
      have ga1 := good_all hg gd1 fr1
      have kd1 := hm.kd f1
      have ht1 : H1 t = some (.tup [.int r, .int b]) := kd1 _ _ (fun _ z => nomatch z) ht
      refine ⟨rfl, ?_⟩
      have nle : npl bs (up bs r b).length r b = npl bs (up bs r b).length r b := rfl
      by_cases nz : nb bs r b = 0
      · refine iteP (by rw [nz]; rfl) ⟨sz (by decide), fun p0 hp0 => ?_⟩
        refine k _ g1 _ (f1.trans (Fr.of (Evl.Ex.new hp0))) (m1.upd (m1.ne hp0)) ga1 ?_
        have : npl bs (up bs r b).length r b = .leaf := by
          cases (up bs r b).length with
          | zero => rfl
          | succ n =>
            unfold npl
            rw [if_pos nz]
        rw [this]
        exact PlAt.mk_leaf upd_same
      · refine iteN (fun z => nz (by have := V.int.inj z; omega)) ?_
        have ho : ov bs r b = false := by
          cases o : ov bs r b with
          | false => rfl
          | true => exact absurd (nb_zero.mpr o) nz
        obtain ⟨q, hq1, hq2, hq3⟩ := help_one bo ac hp nz
        have ur := up_red hq2
        have ub := up_blue hq2
        have qm := (up_mem.mp hq2).1
        refine ⟨x, bs, e, r, b, .ref t, rfl, hB.kd kd1, by omega, ⟨t, rfl, ht1⟩, fun D0 H2 e2 hD0 => ⟨_, rfl, ⟨_, SqL.of hD0⟩, ?_⟩⟩
        have kd2 := kd1.trans (Kd.ex e2)
        have m2 := m1.go e2
        refine lcg_list (xs := (nI (up bs r b)).map V.int) (fun D i H' => ∃ g', Fr d H2 H' ∧ H' D = some (.lst ((nI (((up bs r b).take i).filter fun p => decide (wrs bs r b p < nb bs r b))).map V.int)) ∧ Mm H' d g' ∧ GoodM bs 100 g') (fun D hD => ⟨g1, Fr.of (Evl.Ex.new hD), upd_same, m2.upd (m2.ne hD), ga1⟩) (fun D i H' hD hi ⟨g', q1, _⟩ => SqL.of (m2.kd q1 _ _ (fun _ z => nomatch z) hD0)) (fun D i y HX hD hi hv => ?_) fun D HX hD hv => ?_
        · obtain ⟨pn, hp1, rfl⟩ := nat_at hi
          obtain ⟨g', q1, q2, q3, q4⟩ := hv
          have kdx := kd2.trans (m2.kd q1)
          have pm : pn ∈ up bs r b := List.mem_of_getElem? hp1
          have il : i < (up bs r b).length := (List.getElem?_eq_some_iff.mp hp1).1
          walk_at "sm"
          refine ⟨x, bs, e, .ref t, d, r, b, pn, g', rfl, hB.kd kdx, bo, ac, hl, HuAt.kd kdx ⟨t, rfl, ht⟩, hp, pm, by omega, q3, q4.le (by omega), fun H4 g4 f4 m4 gd4 fr4 => ?_⟩
          have ga4 := good_all q4 gd4 fr4
          have q2' := (q3.kd f4).lst q2
          have ts : (List.take (i + 1) (up bs r b)).filter (fun p => decide (wrs bs r b p < nb bs r b)) = ((up bs r b).take i).filter (fun p => decide (wrs bs r b p < nb bs r b)) ++ if wrs bs r b pn < nb bs r b then [pn] else [] := by
            rw [List.take_succ, hp1, Option.toList_some, List.filter_append, List.filter_cons, List.filter_nil]
            by_cases c : wrs bs r b pn < nb bs r b
            · rw [if_pos c, if_pos (decide_eq_true c)]
            · rw [if_neg c, if_neg (by simpa using c)]
          have ll : ((nI (((up bs r b).take i).filter fun p => decide (wrs bs r b p < nb bs r b))).map V.int).length < sizeLine := by
            rw [nI_len, sizeLine_eq]
            have := List.length_filter_le (fun p => decide (wrs bs r b p < nb bs r b)) ((up bs r b).take i)
            rw [List.length_take] at this
            omega
          refine ⟨_, rfl, ?_⟩
          by_cases c : wrs bs r b pn < nb bs r b
          · refine iteP (by omega) ⟨_, q2', ll, (q1.trans f4).mut hD, ?_, g4, m4.upd (m2.ne hD), ga4⟩
            rw [upd_same, ts, if_pos c, nI_app]
            rfl
          · refine iteN (by omega) ⟨q1.trans f4, ?_, g4, m4, ga4⟩
            rw [ts, if_neg c, List.append_nil]
            exact q2'
        · obtain ⟨g', q1, q2, q3, q4⟩ := hv
          have kdx := kd2.trans (m2.kd q1)
          rw [nI_len, List.take_length] at q2
          have hd0 : ((up bs r b).filter fun p => decide (wrs bs r b p < nb bs r b))[0]? = some q := by
            rw [← List.head?_eq_getElem?, List.head?_filter]
            exact hq1
          refine ⟨D, _, 0, .int (q : Nat), rfl, rfl, SqL.of q2, atI_nat (j := 0) (nI_get hd0), ?_⟩
          have hhx : HuAt HX (.ref t) r b := ⟨t, rfl, kdx.tup ht⟩
          have hBx := hB.kd kdx
          refine ⟨r, b, q, .ref t, true, rfl, hhx, by omega, fun v3 H3 e3 h3 => ?_⟩
          have h3' : HuAt H3 v3 (r ||| 2 ^ q) b := h3
          refine ⟨x, bs, e, v3, d, _, _, g', rfl, hBx.go e3, bo, ac, hl, h3', hp.addR hq2, by omega, q3.go e3, q4, fun H4 g4 v4 f4 m4 ga4 pl4 => ?_⟩
          have kd4 := (Kd.ex e3).trans ((q3.go e3).kd f4)
          refine ⟨r, b, q, .ref t, false, rfl, hhx.kd kd4, by omega, fun v5 H5 e5 h5 => ?_⟩
          have h5' : HuAt H5 v5 r (b ||| 2 ^ q) := h5
          refine ⟨x, bs, e, v5, d, _, _, g4, rfl, (hBx.kd kd4).go e5, bo, ac, hl, h5', hp.addB hq2, by omega, m4.go e5, ga4, fun H6 g6 v6 f6 m6 ga6 pl6 => ?_⟩
          have kd6 := (Kd.ex e5).trans ((m4.go e5).kd f6)
          refine ⟨sz (by decide), fun p7 hp7 => ?_⟩
          have eq : npl bs (up bs r b).length r b = .node (q : Nat) (npl bs (up bs (r ||| 2 ^ q) b).length (r ||| 2 ^ q) b) (npl bs (up bs r (b ||| 2 ^ q)).length r (b ||| 2 ^ q)) := by
            obtain ⟨n, hn⟩ : ∃ n, (up bs r b).length = n + 1 := ⟨(up bs r b).length - 1, by omega⟩
            rw [hn, show (up bs (r ||| 2 ^ q) b).length = n by omega, show (up bs r (b ||| 2 ^ q)).length = n by omega]
            show (if nb bs r b = 0 then Pl.leaf else _) = _
            rw [if_neg nz, hq1]
            rfl
          refine k _ g6 _ ((((((f1.trans (Fr.of e2)).trans q1).trans (Fr.of e3)).trans f4).trans (Fr.of e5)).trans (f6.trans (Fr.of (Evl.Ex.new hp7)))) (m6.upd (m6.ne hp7)) ga6 ?_
          have dd := npl_depth (bs := bs) (up bs r b).length r b
          rw [eq] at dd ⊢
          exact PlAt.mk_node upd_same ((pl4.kd kd6).go (Evl.Ex.new hp7)) (pl6.go (Evl.Ex.new hp7)) (by omega)
theorem ok_naming_in (T : Txt K mg a) : FnOk P w K mg base CX0 33 a.f_naming_in a.d_naming_in ["bare", "hues", "known"] (spNI a 9) := ok_ni T 9
def spNP (a : Ad) : Sp := fun vs H Q E => ∃ (x : Addr) (bs : List (List Nat)) (e : Nat) (pnt : V), vs = [.ref x, pnt] ∧ BareAt a.c_Bare H x bs e ∧ BefOk bs ∧ Acy bs ∧ e < bs.length ∧ bs.length ≤ 60 ∧ PlainV H pnt ∧ AskN a H bs e pnt E fun r b => ∀ v H', Evl.Ex H H' → PlAt H' v (npl bs (up bs r b).length r b) → Q v H'
theorem ok_naming_plan (T : Txt K mg a) : FnOk P w K mg base (L2.CX P w) 34 a.f_naming_plan a.d_naming_plan ["bare", "painting"] (spNP a) := by
  refine T.F_naming_plan.ok sc_naming_plan (fun vs H Q E h => ?_) (fun cdv A outer s H vs Q E hr h => ?_)
  · obtain ⟨_, _, _, _, rfl, _⟩ := h
    rfl
  · obtain ⟨x, bs, e, pnt, rfl, hB, bo, ac, he, hn, hpl, k⟩ := h
    refine ⟨_, (pss_one (ps_ret (pe_call (ok_naming_in T) (hr.mono (by decide)) rfl T.m_naming_in T.F_naming_in.kp T.b_naming_in .nil pass0 (pa_cons (pv 0) (pa_cons (pe_call (ok_told_hues T) (hr.mono (by decide)) rfl T.m_told_hues T.F_told_hues.kp T.b_told_hues .nil (passes_call (takes_of rfl rfl rfl rfl) (fun _ _ _ _ q => q)) (pa_cons (pv 0) (pa_cons (pv 1) pa_nil))) (pa_cons pe_dnewT pa_nil)))))), ?_⟩
    walk_at "sm"
    refine ⟨x, bs, e, pnt, rfl, hB, he, hn, hpl, k.imp he fun r b h8 hpn k v1 H1 e1 hh d hd => ?_⟩
    exact ⟨x, bs, e, v1, d, r, b, _, rfl, (hB.go e1).go (Evl.Ex.new hd), bo, ac, h8, hh.go (Evl.Ex.new hd), hpn, up9 h8, Mm.new, (fun _ _ _ z => nomatch z), fun H2 g2 v f2 _ _ pl => k v H2 (e1.trans (Fr.ex hd f2)) pl⟩
end


/-! ### the law's webs -/
theorem hand_lst {H : Hp} {p c : Addr} (h : HandAt H p c) : ∃ xs, H p = some (.lst xs) := by
  obtain ⟨cells, i, g, t, hp, _⟩ := h
  exact ⟨_, hp⟩
theorem Fr.mut2 {p q : Addr} {H H' : Hp} {o : HO} (f : Fr p H H') (hq : H' q = none) (n : q ≠ p) : Fr p H (L2.upd H' q o) := fun b u nb h => by
  have h2 := f b u nb h
  rw [upd_ne (fun z => by rw [z, hq] at h2; cases h2)]
  exact h2
theorem hand_new {H HX : Hp} {p c q : Addr} {o : HO} (f : Fr p H HX) (h : HandAt HX p c) (hq : HX q = none) : Fr p H (upd HX q o) ∧ HandAt (upd HX q o) p c ∧ q ≠ p := by
  obtain ⟨ys, hy⟩ := hand_lst h
  have n : q ≠ p := fun z => by rw [z, hy] at hq; cases hq
  exact ⟨f.mut2 hq n, h.upd (h.lt hq) (h.lc hq), n⟩
theorem seqIx {k n : Nat} (h : k < n) : seqIndex? (k : Int) n = some k := by
  unfold seqIndex?
  have e : (if (k : Int) < 0 then (k : Int) + n else k) = k := if_neg (by omega)
  simp only [e]
  rw [if_pos (by simp; omega)]
  rfl
theorem nI_erase {l : List Nat} {k : Nat} : ((nI l).map V.int).eraseIdx k = (nI (l.eraseIdx k)).map V.int := by
  induction l generalizing k with
  | nil => rfl
  | cons x l ih =>
    cases k with
    | zero => rfl
    | succ k =>
      show V.int (x : Nat) :: ((nI l).map V.int).eraseIdx k = _
      rw [ih]
      rfl
theorem era_perm : ∀ {m : List Nat} {k x : Nat}, m[k]? = some x → (x :: m.eraseIdx k).Perm m
  | [], _, _, h => by simp at h
  | y :: m, 0, x, h => by
    have : y = x := by simpa using h
    subst this
    exact List.Perm.refl _
  | y :: m, k + 1, x, h => by
    have ih := era_perm (m := m) (k := k) (x := x) (by simpa using h)
    show (x :: y :: m.eraseIdx k).Perm (y :: m)
    exact (List.Perm.swap y x _).trans (ih.cons y)
theorem perm_move {l m : List Nat} {k x : Nat} (h : m[k]? = some x) : ((l ++ [x]) ++ m.eraseIdx k).Perm (l ++ m) := by
  rw [List.append_assoc]
  refine List.Perm.append_left l ?_
  exact era_perm h
theorem rg_nat {n : Nat} : rgV 0 n = (nI (List.range n)).map V.int := by
  unfold rgV
  rw [List.map_map, Int.sub_zero, Int.toNat_natCast]
  refine List.map_congr_left fun i _ => ?_
  show V.int (0 + (i : Int)) = V.int (i : Int)
  rw [Int.zero_add]
section
variable {P : Program} {w : World} {K : PySem.W.Frag} {mg : Str → Option Value} {base : Heap} {a : Ad}
def spOrd : Sp := fun vs H Q _ => ∃ (p c : Addr) (n : Nat), vs = [.ref p, .int n] ∧ HandAt H p c ∧ n ≤ 10 ∧ ∀ q (l : List Nat) H', Fr p H H' → HandAt H' p c → H' q = some (.lst ((nI l).map V.int)) → q ≠ p → H q = none → l.Perm (List.range n) → Q (.ref q) H'
def ivOrd (H : Hp) (p c d t : Addr) (n : Nat) : Nat → L2.St → Hp → Prop := fun i σ H' => ∃ (lv lt : List Nat) (v4 : Option V), σ = [some (.ref p), some (.int n), some (.ref d), some (.ref t), v4] ∧ Fr p H H' ∧ HandAt H' p c ∧ H' d = some (.lst ((nI lv).map V.int)) ∧ H' t = some (.lst ((nI lt).map V.int)) ∧ (lt ++ lv).Perm (List.range n) ∧ lt.length = i
theorem ok_law_order (T : Txt K mg a) : FnOk P w K mg base CX0 3 a.f_law_order a.d_law_order ["_law_hand_here", "_law_many"] spOrd := by
  refine T.F_law_order.ok sc_law_order (fun vs H Q E h => ?_) (fun cdv A outer s H vs Q E hr h => ?_)
  · obtain ⟨_, _, _, rfl, _⟩ := h
    rfl
  · obtain ⟨p, c, n, rfl, hh, hn, k⟩ := h
    refine ⟨_, (pss_cons (ps_set (i := 2) sc_law_order.nd rfl (by first | exact Or.inl rfl | exact Or.inr rfl) (pe_listRg (by rfl) (by rfl) T.z_list (prg_1 (by rfl) T.z_range (pv 1))))
  (pss_cons (ps_set (i := 3) sc_law_order.nd rfl (by first | exact Or.inl rfl | exact Or.inr rfl) (pe_lst pa_nil))
  (pss_cons (ps_for PassesOwn.never rfl (pi_range1 (by rfl) T.z_range (pa_cons (pv 1) pa_nil)) (pg_name (i := 4) sc_law_order.nd rfl (by first | exact Or.inl rfl | exact Or.inr rfl)) (pss_one (ps_expr (pe_bm PySem.F.plainAttrs_list PySem.F.slot_list_append PySem.F.type_list_append mt_append (pv 3) (pa_cons (pe_bm PySem.F.plainAttrs_list PySem.F.slot_list_pop PySem.F.type_list_pop mt_popAt (pv 2) (pa_cons (pe_call (ok_law_take T) (hr.mono (by decide)) rfl T.m_law_take T.F_law_take.kp T.b_law_take .nil pass0 (pa_cons (pv 0) (pa_cons (pe_callB call_len_seq (by rfl) T.z_len (by decide +kernel) (pa_cons (pv 2) pa_nil)) pa_nil))) pa_nil)) pa_nil)))))
  (pss_one (ps_ret (pv 3)))))), ?_⟩
    walk_at "sm"
    refine ⟨_, rfl, _, rfl, by unfold RgOk; omega, fun d hd => ⟨sz (by decide), fun t ht => ?_⟩⟩
    obtain ⟨g1, g2, g3⟩ := hand_new (o := .lst (rgV 0 n)) (Fr.refl H) hh hd
    obtain ⟨g4, g5, g6⟩ := hand_new (o := .lst []) g1 g2 ht
    have dt : d ≠ t := fun z => by rw [← z, upd_same] at ht; cases ht
    have ht0 : H t = none := by rw [upd_ne (Ne.symm dt)] at ht; exact ht
    refine ⟨_, rfl, _, rfl, by omega, by omega, for_range (lo := 0) (n := (n : Int).toNat) (ivOrd H p c d t n) ⟨List.range n, [], none, rfl, g4, g5, ?_, upd_same, List.Perm.refl _, rfl⟩ ?_ ?_⟩
    · rw [upd_ne dt, upd_same, rg_nat]
    · rintro i σ HX hi ⟨lv, lt, v4, rfl, f1, f2, f3, f4, f5, f6⟩
      have ll := f5.length_eq
      rw [List.length_append, List.length_range] at ll
      walk_at "sm"
      refine ⟨.inl ⟨rfl, _, SqL.of f4⟩, .inl ⟨rfl, _, SqL.of f3⟩, _, .inl (SqL.of f3), p, c, _, rfl, f2, by rw [nI_len]; omega, by rw [nI_len]; omega, fun r H2 r1 r2 f7 f8 => ?_⟩
      rw [nI_len] at r2
      obtain ⟨e, rfl⟩ : ∃ e : Nat, r = e := ⟨r.toNat, by omega⟩
      have el : e < lv.length := by omega
      have f3' := f7 _ _ g3 f3
      have f4' := f7 _ _ g6 f4
      refine ⟨d, _, (e : Int), e, .int (lv[e] : Nat), rfl, rfl, f3', by omega, by omega, seqIx (by rw [nI_len]; exact el), at_nat (List.getElem?_eq_getElem el), ?_⟩
      have f9 : upd H2 d (.lst (((nI lv).map V.int).eraseIdx e)) t = some (.lst ((nI lt).map V.int)) := by rw [upd_ne (Ne.symm dt)]; exact f4'
      refine ⟨t, _, _, rfl, rfl, f9, by rw [nI_len, sizeLine_eq]; omega, lv.eraseIdx e, lt ++ [lv[e]], _, rfl, ?_, ?_, ?_, ?_, ?_, ?_⟩
      · refine fun b u nb hb => ?_
        have hbd : b ≠ d := ne_of_none hb hd
        have hbt : b ≠ t := ne_of_none hb ht0
        rw [upd_ne hbt, upd_ne hbd]
        exact f7 _ _ nb (f1 b u nb hb)
      · exact (f8.upd g3 (hh.lc hd)).upd g6 (hh.lc ht0)
      · rw [upd_ne dt, upd_same, nI_erase]
      · rw [upd_same, nI_snoc]
      · exact (perm_move (List.getElem?_eq_getElem el)).trans f5
      · rw [List.length_append, f6]
        rfl
    · rintro σ HX ⟨lv, lt, v4, rfl, f1, f2, f3, f4, f5, f6⟩
      have ll := f5.length_eq
      rw [List.length_append, List.length_range] at ll
      have : lv = [] := List.length_eq_zero_iff.mp (by omega)
      subst this
      rw [List.append_nil] at f5
      exact ⟨_, rfl, k t lt HX f1 f2 f4 g6 ht0 f5⟩
end


/-! ### places told anew -/
theorem AfAt.app {HX : Hp} {D c : Addr} {ls : List Addr} {f : Nat → List Nat} {l : List Nat} (h : AfAt HX D ls f) (hc : HX c = none) : AfAt (upd (upd HX c (.lst ((nI l).map V.int))) D (.lst ((ls ++ [c]).map V.ref))) D (ls ++ [c]) (fun x => if x = ls.length then l else f x) := by
  obtain ⟨h1, h2, h3, h4⟩ := h
  have nc : ∀ d ∈ ls, d ≠ c := fun d hd z => by
    obtain ⟨q, hq⟩ := List.mem_iff_getElem?.mp hd
    have := h4 q d hq
    rw [z, hc] at this
    cases this
  have nD : D ≠ c := fun z => by rw [← z, h1] at hc; cases hc
  refine ⟨upd_same, List.nodup_append.mpr ⟨h2, List.nodup_cons.mpr ⟨List.not_mem_nil, List.nodup_nil⟩, fun d hd e he => by rw [List.mem_singleton.mp he]; exact nc d hd⟩, fun z => ?_, fun q d hd => ?_⟩
  · rcases List.mem_append.mp z with z | z
    · exact h3 z
    · exact nD (List.mem_singleton.mp z)
  · by_cases hq : q < ls.length
    · rw [List.getElem?_append_left hq] at hd
      have m := List.mem_of_getElem? hd
      show upd _ D _ d = some (.lst ((nI (if q = ls.length then l else f q)).map V.int))
      rw [upd_ne (fun z => h3 (by rw [← z]; exact m)), upd_ne (nc d m), if_neg (by omega)]
      exact h4 q d hd
    · have ql : q = ls.length := by
        have := (List.getElem?_eq_some_iff.mp hd).1
        rw [List.length_append] at this
        simp at this
        omega
      subst ql
      rw [List.getElem?_append_right (Nat.le_refl _), Nat.sub_self] at hd
      have : c = d := by simpa using hd
      subst this
      show upd _ D _ c = some (.lst ((nI (if ls.length = ls.length then l else f ls.length)).map V.int))
      rw [upd_ne (Ne.symm nD), upd_same, if_pos rfl]
theorem AfAt.put {HX : Hp} {t d : Addr} {ts : List Addr} {g : Nat → List Nat} {l : List Nat} {k : Nat} (h : AfAt HX t ts g) (hk : k < ts.length) (hd : HX d = some (.lst ((nI l).map V.int))) (h1 : d ∉ ts) (h2 : d ≠ t) : AfAt (upd HX t (.lst ((ts.map V.ref).set k (.ref d)))) t (ts.set k d) (fun x => if x = k then l else g x) := by
  obtain ⟨g1, g2, g3, g4⟩ := h
  have sm : ∀ x, x ∈ ts.set k d → x = d ∨ x ∈ ts := fun x hx => by
    rcases List.mem_or_eq_of_mem_set hx with z | z
    · exact .inr z
    · exact .inl z
  refine ⟨by rw [upd_same, List.map_set], ?_, fun z => ?_, fun q c hc => ?_⟩
  · rw [List.nodup_iff_pairwise_ne, List.pairwise_iff_getElem]
    intro i j hi hj ij
    rw [List.length_set] at hi hj
    rw [List.getElem_set, List.getElem_set]
    have nd := List.pairwise_iff_getElem.mp (List.nodup_iff_pairwise_ne.mp g2) i j hi hj ij
    split
    · split
      · omega
      · exact fun z => h1 (by rw [z]; exact List.getElem_mem hj)
    · split
      · exact fun z => h1 (by rw [← z]; exact List.getElem_mem hi)
      · exact nd
  · rcases sm t z with z | z
    · exact h2 z.symm
    · exact g3 z
  · rw [List.getElem?_set] at hc
    show upd HX t _ c = some (.lst ((nI (if q = k then l else g q)).map V.int))
    split at hc
    · next e =>
      rw [if_pos e.symm]
      obtain rfl : d = c := by
        first
          | exact Option.some.inj hc
          | (rw [if_pos hk] at hc; exact Option.some.inj hc)
      rw [upd_ne h2]
      exact hd
    · next e =>
      rw [if_neg (Ne.symm e), upd_ne (fun z => g3 (by rw [← z]; exact List.mem_of_getElem? hc))]
      exact g4 q c hc
/-- a list of lists stands when the hand draws -/
theorem AfAt.fr {H H' : Hp} {p c l : Addr} {ls : List Addr} {f : Nat → List Nat} (fr : Fr p H H') (hh : HandAt H p c) (h : AfAt H l ls f) : AfAt H' l ls f ∧ l ≠ p := by
  obtain ⟨cells, i, g, t, hp, _⟩ := hh
  have n1 : l ≠ p := fun z => by
    have e := h.1
    rw [z, hp] at e
    have e2 := HO.lst.inj (Option.some.inj e)
    match ls, e2 with
    | [], e2 => cases e2
    | [_], e2 => simp at e2
    | _ :: _ :: _, e2 => simp at e2
  have n2 : ∀ (q : Nat) (d : Addr), ls[q]? = some d → d ≠ p := fun q d hd z => by
    have e := h.2.2.2 q d hd
    rw [z, hp] at e
    have e2 := HO.lst.inj (Option.some.inj e)
    match f q, e2 with
    | [], e2 => cases e2
    | _ :: _, e2 => simp at e2
  exact ⟨⟨fr _ _ n1 h.1, h.2.1, h.2.2.1, fun q d hd => fr _ _ (n2 q d hd) (h.2.2.2 q d hd)⟩, n1⟩
def plF (pl : List Nat) (x : Nat) : Nat := (pl[x]?).getD 0
section
variable {P : Program} {w : World} {K : PySem.W.Frag} {mg : Str → Option Value} {base : Heap} {a : Ad}
def spLed : Sp := fun vs H Q _ => ∃ (p q : Addr) (ls : List Addr) (f : Nat → List Nat) (pl : List Nat) (n : Nat), vs = [.ref p, .ref q] ∧ AfAt H p ls f ∧ H q = some (.lst ((nI pl).map V.int)) ∧ pl.Perm (List.range n) ∧ ls.length = n ∧ n ≤ 10 ∧ (∀ i, i < n → (f i).Nodup ∧ ∀ x ∈ f i, x < n) ∧
  ∀ t ts g H', Evl.Ex H H' → AfAt H' t ts g → ts.length = n → (∀ i, i < n → g (plF pl i) = sb ((f i).map (plF pl))) → Q (.ref t) H'
def ivL0 (H : Hp) (D : Addr) (i : Nat) (H' : Hp) : Prop := Evl.Ex H H' ∧ ∃ ls, ls.length = i ∧ AfAt H' D ls (fun _ => []) ∧ ∀ c ∈ ls, H c = none
def ivL1 (H : Hp) (p q t : Addr) (pl : List Nat) (f : Nat → List Nat) (n : Nat) : Nat → L2.St → Hp → Prop := fun i σ H' => ∃ v3 v4 ts g, σ = [some (.ref p), some (.ref q), some (.ref t), v3, v4] ∧ Evl.Ex H H' ∧ AfAt H' t ts g ∧ ts.length = n ∧ (∀ j, j < i → g (plF pl j) = sb ((f j).map (plF pl))) ∧ ∀ c ∈ ts, H c = none
def ivL2 (H : Hp) (pl b : List Nat) (D : Addr) (i : Nat) (H' : Hp) : Prop := Evl.Ex H H' ∧ H' D = some (.lst ((nI ((b.take i).map (plF pl))).map V.int))
theorem ok_law_led (T : Txt K mg a) : FnOk P w K mg base CX0 1 a.f_law_led a.d_law_led ["_law_befores", "_law_places"] spLed := by
  refine T.F_law_led.ok sc_law_led (fun vs H Q E h => ?_) (fun cdv A outer s H vs Q E hr h => ?_)
  · obtain ⟨_, _, _, _, _, _, rfl, _⟩ := h
    rfl
  · obtain ⟨p, q, ls, f, pl, n, rfl, ha, hq, hpm, hls, hn, hf, k⟩ := h
    refine ⟨_, (pss_cons (ps_setLc (i := 2) (own := [("_law_place", 3)]) (g := gName 3) (tt := tYes) rfl sc_law_led.nd rfl rfl (sw_true rfl rfl rfl (by decide +kernel)) (pi_list (pv 0)) (blkOk_by (own := [("_law_place", 3)]) (N := ["_law_befores", "_law_places", "_law_told", "_law_place", "_law_before"]) (sc := defScope s_law_led) (by decide +kernel)) (fun _ _ _ _ _ => pg_name (i := 3) sc_law_led.nd rfl (Or.inl rfl)) (fun _ _ _ _ _ => pts_nil) (fun _ _ _ _ _ => (pe_lst pa_nil)))
  (pss_cons (ps_for PassesOwn.never rfl (pi_range1 (by rfl) T.z_range (pa_cons (pe_callB call_len_seq (by rfl) T.z_len (by decide +kernel) (pa_cons (pv 0) pa_nil)) pa_nil)) (pg_name (i := 3) sc_law_led.nd rfl (by first | exact Or.inl rfl | exact Or.inr rfl)) (pss_one (ps_asg (pe_callB cr_sortedI (by rfl) T.z_sorted (by decide +kernel) (pa_cons (pe_lc (own := [("_law_before", 4)]) (g := gName 4) (tt := tYes) rfl sc_law_led.nd (pi_list (pe_ix ix_list (pv 0) (pv 3) (fun _ _ => rfl))) (blkOk_by (own := [("_law_before", 4)]) (N := ["_law_befores", "_law_places", "_law_told", "_law_place", "_law_before"]) (sc := defScope s_law_led) (by decide +kernel)) (fun _ _ _ _ _ => pg_name (i := 4) sc_law_led.nd rfl (Or.inl rfl)) (fun _ _ _ _ _ => pts_nil) (fun _ _ _ _ _ => (pe_ix ix_list_b (pv 1) (pv 4) (fun _ _ => rfl)))) pa_nil)) (pg_sub (pv 2) (pe_ix ix_list (pv 1) (pv 3) (fun _ _ => rfl)) set_list (by intro _; rfl)))))
  (pss_one (ps_ret (pv 2))))), ?_⟩
    walk_at "sm"
    refine ⟨⟨_, SqL.of ha.1⟩, lcg_list (K := K) (a := p) (xs := ls.map V.ref) (ivL0 H) (fun D hD => ⟨Evl.Ex.new hD, [], rfl, ⟨upd_same, List.nodup_nil, List.not_mem_nil, fun q c h => by simp at h⟩, fun c h => by simp at h⟩) (fun D i HX hD hi h => SqL.of (h.1 _ _ ha.1)) ?_ ?_⟩
    · rintro D i x HX hD hi ⟨f1, us, f2, f3, f4⟩
      walk_at "sm"
      have li := (List.getElem?_eq_some_iff.mp hi).1
      rw [List.length_map] at li
      refine ⟨Nat.zero_le _, fun c hc => ?_⟩
      have eC := Evl.Ex.new (o := .lst []) hc
      refine ⟨_, eC _ _ f3.1, Nat.lt_of_le_of_lt (show _ ≤ 200 by rw [List.length_map]; omega) (by decide), Evl.Ex.mut (f1.trans eC) hD, us ++ [c], by rw [List.length_append, f2]; rfl, ?_, ?_⟩
      · have ap := f3.app (l := []) hc
        rw [List.map_append] at ap
        exact ap.same fun q _ => by split <;> rfl
      · intro d hd
        rcases List.mem_append.mp hd with z | z
        · exact f4 d z
        · rw [List.mem_singleton.mp z]
          exact Evl.fresh_back f1 hc
    · rintro D HX hD ⟨f1, us, f2, f3, f4⟩
      walk_at "sm"
      rw [List.length_map] at f2
      have pl_len : pl.length = n := by rw [hpm.length_eq, List.length_range]
      have pl_lt : ∀ x, x < n → plF pl x < n := fun x hx => by
        have : plF pl x ∈ pl := by
          unfold plF
          rw [List.getElem?_eq_getElem (by omega)]
          exact List.getElem_mem _
        exact List.mem_range.mp (hpm.mem_iff.mp this)
      have pl_nd : pl.Nodup := hpm.nodup_iff.mpr List.nodup_range
      have pl_inj : ∀ x y, x < n → y < n → plF pl x = plF pl y → x = y := fun x y hx hy e => by
        unfold plF at e
        rw [List.getElem?_eq_getElem (by omega), List.getElem?_eq_getElem (by omega)] at e
        exact (List.getElem_inj pl_nd).mp e
      have pl_at : ∀ x, x < n → pl[x]? = some (plF pl x) := fun x hx => by
        unfold plF
        rw [List.getElem?_eq_getElem (by omega)]
        rfl
      refine ⟨_, rfl, p, rfl, ls.map V.ref, .inl (SqL.of (f1 _ _ ha.1)), _, rfl, by omega, by rw [List.length_map]; omega, for_range (lo := 0) (n := (((ls.map V.ref).length : Nat) : Int).toNat) (ivL1 H p q D pl f n) ⟨none, none, us, fun _ => [], rfl, f1, f3, by omega, fun j hj => absurd hj (Nat.not_lt_zero _), f4⟩ ?_ ?_⟩
      · rintro i σ HY hi ⟨v3, v4, ts, g, rfl, g1, g2, g3, g4, g5⟩
        have hi2 : i < n := by rw [List.length_map] at hi; omega
        rw [show (0 : Int) + (i : Int) = ((i : Nat) : Int) by omega]
        obtain ⟨c, hc⟩ : ∃ c, ls[i]? = some c := ⟨_, List.getElem?_eq_getElem (by omega)⟩
        have hcY := g1 _ _ (ha.2.2.2 i c hc)
        have hqY := g1 _ _ hq
        obtain ⟨fn, fl⟩ := hf i hi2
        have flen : (f i).length ≤ n := by
          have := fn.length_le_of_subset (fun x hx => List.mem_range.mpr (fl x hx) : f i ⊆ List.range n)
          rwa [List.length_range] at this
        walk_at "sm"
        refine ixl (SqL.of (g1 _ _ ha.1)) (atI_nat (by rw [List.getElem?_map, hc]; rfl)) ⟨c, rfl, ⟨_, SqL.of hcY⟩, lcg_list (K := K) (a := c) (xs := (nI (f i)).map V.int) (ivL2 HY pl (f i)) (fun E0 hE => ⟨Evl.Ex.new hE, upd_same⟩) (fun E0 j HZ hE hj h => SqL.of (h.1 _ _ hcY)) ?_ ?_⟩
        · rintro E0 j x HZ hE hj ⟨h1, h2⟩
          obtain ⟨b, hb, rfl⟩ := nat_at hj
          have bn := fl b (List.mem_of_getElem? hb)
          have jl := (List.getElem?_eq_some_iff.mp hb).1
          walk_at "sm"
          refine ixl (SqL.of (h1 _ _ hqY)) (atI_nat (nI_get (pl_at b bn))) ⟨_, h2, by rw [nI_len, List.length_map, List.length_take, sizeLine_eq]; omega, h1.mut hE, ?_⟩
          rw [upd_same, List.take_succ, hb, Option.toList_some, List.map_append, nI_app]
          rfl
        · rintro E0 HZ hE ⟨h1, h2⟩
          rw [nI_len, List.take_length] at h2
          have e1 := g1.trans h1
          have lt2 : ∀ x ∈ (f i).map (plF pl), x < 200 := fun x hx => by
            obtain ⟨y, hy, rfl⟩ := List.mem_map.mp hx
            have := pl_lt y (fl y hy)
            omega
          have nd2 : ((f i).map (plF pl)).Nodup := by
            rw [List.Nodup, List.pairwise_map]
            exact fn.imp_of_mem fun hx hy z w => z (pl_inj _ _ (fl _ hx) (fl _ hy) w)
          refine ⟨E0, nI ((f i).map (plF pl)), rfl, SqL.of h2, fun ns d pm pw hd => ?_⟩
          have en := sb_uniq lt2 nd2 pm pw
          subst en
          have e2 := Evl.Ex.new (o := .lst ((nI (sb ((f i).map (plF pl)))).map V.int)) hd
          have e3 := e1.trans e2
          refine ixl (SqL.of (e3 _ _ hq)) (atI_nat (nI_get (pl_at i hi2))) ?_
          have g2' := g2.ex (h1.trans e2)
          have dts : d ∉ ts := fun z => by
            obtain ⟨u, hu⟩ := List.mem_iff_getElem?.mp z
            have := (g2.ex h1).2.2.2 u d hu
            rw [hd] at this
            cases this
          have dD : d ≠ D := fun z => by
            have := (g2.ex h1).1
            rw [← z, hd] at this
            cases this
          have kl : plF pl i < ts.length := by rw [g3]; exact pl_lt i hi2
          have pu := g2'.put kl (l := sb ((f i).map (plF pl))) upd_same dts dD
          refine ⟨D, _, _, plF pl i, rfl, rfl, g2'.1, Evl.ixN_nat (by rw [List.length_map]; exact kl), _, _, ts.set (plF pl i) d, _, rfl, ?_, pu, by rw [List.length_set]; exact g3, fun j hj => ?_, fun x hx => ?_⟩
          · exact Evl.Ex.mut e3 hD
          · show (if plF pl j = plF pl i then _ else g (plF pl j)) = _
            rcases Nat.lt_or_eq_of_le (Nat.le_of_lt_succ hj) with z | rfl
            · rw [if_neg fun w => by have := pl_inj j i (by omega) hi2 w; omega]
              exact g4 j z
            · rw [if_pos rfl]
          · rcases List.mem_or_eq_of_mem_set hx with z | z
            · exact g5 x z
            · rw [z]
              exact Evl.fresh_back e1 hd
      · rintro σ HY ⟨v3, v4, ts, g, rfl, g1, g2, g3, g4, g5⟩
        exact ⟨_, rfl, k D ts g HY g1 g2 g3 fun i hi => g4 i (by rw [List.length_map]; omega)⟩
end


/-! ### numberings -/
structure WebOk (bs : List (List Nat)) (e : Nat) : Prop where
  ok : BefOk bs
  ac : Acy bs
  rd : Roads bs e
  lt : e < bs.length
/-- arrows go forward, each place but the last has an after -/
structure Fwd (n : Nat) (f : Nat → List Nat) : Prop where
  asc : ∀ i, i < n → (f i).Pairwise (· < ·)
  low : ∀ i, i < n → ∀ x ∈ f i, x < i
  aft : ∀ q, q + 1 < n → ∃ i, i < n ∧ q ∈ f i
theorem asc_len {n : Nat} {l : List Nat} (h : l.Pairwise (· < ·)) (hl : ∀ x ∈ l, x < n) : l.length ≤ n := by
  have nd : l.Nodup := h.imp fun z => Nat.ne_of_lt z
  have := nd.length_le_of_subset (fun x hx => List.mem_range.mpr (hl x hx) : l ⊆ List.range n)
  rwa [List.length_range] at this
theorem row_rg {n : Nat} {g : Nat → List Nat} {i : Nat} (h : i < n) : row ((List.range n).map g) i = g i := by
  unfold row
  rw [List.getElem?_map, List.getElem?_range h]
  rfl
theorem get_rg {n : Nat} {g : Nat → List Nat} {i : Nat} (h : i < n) : ((List.range n).map g)[i]? = some (g i) := by
  rw [List.getElem?_map, List.getElem?_range h]
  rfl
theorem web_ok {n : Nat} {f g : Nat → List Nat} {pl : List Nat} (h1 : 1 ≤ n) (h2 : n ≤ 10) (hf : Fwd n f) (hpm : pl.Perm (List.range n)) (hg : ∀ i, i < n → g (plF pl i) = sb ((f i).map (plF pl))) : WebOk ((List.range n).map g) (plF pl (n - 1)) := by
  have pl_len : pl.length = n := by rw [hpm.length_eq, List.length_range]
  have pl_lt : ∀ x, x < n → plF pl x < n := fun x hx => by
    have : plF pl x ∈ pl := by
      unfold plF
      rw [List.getElem?_eq_getElem (by omega)]
      exact List.getElem_mem _
    exact List.mem_range.mp (hpm.mem_iff.mp this)
  have pl_nd : pl.Nodup := hpm.nodup_iff.mpr List.nodup_range
  have pl_inj : ∀ x y, x < n → y < n → plF pl x = plF pl y → x = y := fun x y hx hy e => by
    unfold plF at e
    rw [List.getElem?_eq_getElem (by omega), List.getElem?_eq_getElem (by omega)] at e
    exact (List.getElem_inj pl_nd).mp e
  have pl_sur : ∀ k, k < n → ∃ i, i < n ∧ plF pl i = k := fun k hk => by
    obtain ⟨i, hi⟩ := List.mem_iff_getElem?.mp (hpm.mem_iff.mpr (List.mem_range.mpr hk))
    have li := (List.getElem?_eq_some_iff.mp hi).1
    exact ⟨i, by omega, by unfold plF; rw [hi]; rfl⟩
  have lt2 : ∀ i, i < n → ∀ x ∈ (f i).map (plF pl), x < 200 := fun i hi x hx => by
    obtain ⟨y, hy, rfl⟩ := List.mem_map.mp hx
    have := pl_lt y (Nat.lt_trans (hf.low i hi y hy) hi)
    omega
  have mem : ∀ i, i < n → ∀ k, k ∈ g (plF pl i) ↔ ∃ x, x ∈ f i ∧ plF pl x = k := fun i hi k => by
    rw [hg i hi, sb_mem (lt2 i hi), List.mem_map]
  have rowg : ∀ k, k < n → row ((List.range n).map g) k = g k := fun k hk => row_rg hk
  refine ⟨⟨by rw [List.length_map, List.length_range]; exact h1, by rw [List.length_map, List.length_range]; omega, fun k b hb => ?_⟩, ?_, ?_, by rw [List.length_map, List.length_range]; exact pl_lt _ (by omega)⟩
  · have lk := (List.getElem?_eq_some_iff.mp hb).1
    rw [List.length_map, List.length_range] at lk
    rw [get_rg lk] at hb
    obtain rfl := Option.some.inj hb
    obtain ⟨i, hi, rfl⟩ := pl_sur k lk
    have asc : (g (plF pl i)).Pairwise (· < ·) := by
      rw [hg i hi]
      exact sb_lt _
    have lo : ∀ x ∈ g (plF pl i), x < n ∧ x ≠ plF pl i := fun x hx => by
      obtain ⟨y, hy, rfl⟩ := (mem i hi x).mp hx
      have yi := hf.low i hi y hy
      exact ⟨pl_lt y (by omega), fun z => by have := pl_inj y i (by omega) hi z; omega⟩
    refine ⟨asc, fun x hx => by rw [List.length_map, List.length_range]; exact lo x hx, ?_⟩
    have := asc_len asc fun x hx => (lo x hx).1
    omega
  · refine ⟨fun k => pl.idxOf k, fun k x hx => ?_⟩
    have lk : k < n := by
      by_cases c : k < n
      · exact c
      · unfold row at hx
        rw [List.getElem?_eq_none (by rw [List.length_map, List.length_range]; omega)] at hx
        cases hx
    rw [rowg k lk] at hx
    obtain ⟨i, hi, rfl⟩ := pl_sur k lk
    obtain ⟨y, hy, rfl⟩ := (mem i hi x).mp hx
    have yi := hf.low i hi y hy
    have ix : ∀ j, j < n → pl.idxOf (plF pl j) = j := fun j hj => by
      have : plF pl j = pl[j]'(by omega) := by
        unfold plF
        rw [List.getElem?_eq_getElem (by omega)]
        rfl
      rw [this]
      exact pl_nd.idxOf_getElem _ _
    show pl.idxOf (plF pl y) < pl.idxOf (plF pl i)
    rw [ix y (by omega), ix i hi]
    exact yi
  · have go : ∀ d q, q < n → n - 1 - q ≤ d → q = n - 1 ∨ Rc ((List.range n).map g) 0 (plF pl (n - 1)) (plF pl q) := by
      intro d
      induction d with
      | zero => exact fun q hq hd => .inl (by omega)
      | succ d ih =>
        intro q hq hd
        by_cases c : q = n - 1
        · exact .inl c
        · right
          obtain ⟨i, hi, hqi⟩ := hf.aft q (by omega)
          have qi := hf.low i hi q hqi
          have e1 := get_rg (g := g) (pl_lt i hi)
          have e2 := (mem i hi (plF pl q)).mpr ⟨q, hqi, rfl⟩
          rcases ih i hi (by omega) with z | z
          · subst z
            exact .one e1 e2 (Nat.zero_testBit _)
          · exact .more z e1 e2 (Nat.zero_testBit _)
    intro k hk
    rw [List.length_map, List.length_range] at hk
    obtain ⟨q, hq, rfl⟩ := pl_sur k hk
    rcases go (n - 1 - q) q hq (Nat.le_refl _) with z | z
    · subst z
      exact .inl rfl
    · exact .inr z
theorem plF_rg {n x : Nat} (h : x < n) : plF (List.range n) x = x := by
  unfold plF
  rw [List.getElem?_range h]
  rfl
theorem web_ok0 {n : Nat} {f : Nat → List Nat} (h1 : 1 ≤ n) (h2 : n ≤ 10) (hf : Fwd n f) : WebOk ((List.range n).map f) (n - 1) := by
  have := web_ok (g := f) h1 h2 hf (List.Perm.refl _) fun i hi => by
    rw [plF_rg hi, show (f i).map (plF (List.range n)) = f i from (List.map_congr_left fun x hx => plF_rg (by have := hf.low i hi x hx; omega)).trans (List.map_id _)]
    exact (asc_self (fun x hx => by have := hf.low i hi x hx; omega) (hf.asc i hi)).symm
  rwa [plF_rg (by omega)] at this
/-- a web told as a pair: the lists of befores, the end -/
def LwAt (H : Hp) (v : V) (n : Nat) (bs : List (List Nat)) (e : Nat) : Prop := ∃ t l ls f, v = .ref t ∧ H t = some (.tup [.ref l, .int e]) ∧ AfAt H l ls f ∧ ls.length = n ∧ bs = (List.range n).map f
section
variable {P : Program} {w : World} {K : PySem.W.Frag} {mg : Str → Option Value} {base : Heap} {a : Ad}
def spTr : Sp := fun vs H Q _ => ∃ (p c : Addr) (n : Nat) (b : Bool), vs = [.ref p, .int n, .bl b] ∧ HandAt H p c ∧ 1 ≤ n ∧ n ≤ 8 ∧ ∀ v bs e H', Fr p H H' → HandAt H' p c → LwAt H' v n bs e → WebOk bs e → Q v H'
theorem web_end0 {H HY : Hp} {p c D q : Addr} {n : Nat} {ls : List Addr} {f : Nat → List Nat} {Q : VK} (k : ∀ v bs e H', Fr p H H' → HandAt H' p c → LwAt H' v n bs e → WebOk bs e → Q v H') (m1 : Fr p H HY) (m2 : HandAt HY p c) (m3 : AfAt HY D ls f) (m4 : ls.length = n) (m5 : Fwd n f) (h1 : 1 ≤ n) (h8 : n ≤ 8) (hq : HY q = none) :
    Q (.ref q) (upd HY q (HO.tup [V.ref D, V.int ((n : Int) - 1)])) := by
  obtain ⟨g1, g2, g3⟩ := hand_new (o := HO.tup [V.ref D, V.int ((n : Int) - 1)]) m1 m2 hq
  refine k _ _ (n - 1) _ g1 g2 ⟨q, D, ls, f, rfl, ?_, m3.ex (Evl.Ex.new hq), m4, rfl⟩ (web_ok0 h1 (by omega) m5)
  rw [upd_same, show ((n - 1 : Nat) : Int) = (n : Int) - 1 by omega]
theorem web_end {H HY : Hp} {p c D : Addr} {n : Nat} {ls : List Addr} {f : Nat → List Nat} {Q : VK} (k : ∀ v bs e H', Fr p H H' → HandAt H' p c → LwAt H' v n bs e → WebOk bs e → Q v H') (m1 : Fr p H HY) (m2 : HandAt HY p c) (m3 : AfAt HY D ls f) (m4 : ls.length = n) (m5 : Fwd n f) (h1 : 1 ≤ n) (h8 : n ≤ 8) :
    spOrd [V.ref p, V.int (n : Nat)] HY (fun x H1 => spLed [V.ref D, x] H1 (fun x_1 H1 => rIxL K x (V.int ((n : Int) - 1)) H1 fun x H1 => 0 + 1 + 1 ≤ sizeLine ∧ ∀ (p : Addr), H1 p = none → Q (V.ref p) (upd H1 p (HO.tup [x_1, x]))) E0) E0 := by
  refine ⟨p, c, n, rfl, m2, by omega, fun q pl H1 f1 g1 hq _ _ pm => ?_⟩
  obtain ⟨a1, a2⟩ := m3.fr f1 m2
  have pl_len : pl.length = n := by rw [pm.length_eq, List.length_range]
  refine ⟨D, q, ls, f, pl, n, rfl, a1, hq, pm, m4, by omega, fun i hi => ⟨(m5.asc i hi).imp fun z => Nat.ne_of_lt z, fun x hx => by have := m5.low i hi x hx; omega⟩, fun t ts g H2 e2 at2 l2 hg => ?_⟩
  have wk := web_ok h1 (by omega) m5 pm hg
  refine ixl (SqL.of (e2 _ _ hq)) (v := .int (plF pl (n - 1) : Nat)) (by rw [show (n : Int) - 1 = ((n - 1 : Nat) : Int) by omega]; exact atI_nat (nI_get (by unfold plF; rw [List.getElem?_eq_getElem (by omega)]; rfl))) ⟨sz (by decide), fun z hz => ?_⟩
  obtain ⟨g3, g4, g5⟩ := hand_new (o := HO.tup [V.ref t, V.int (plF pl (n - 1) : Nat)]) ((m1.trans f1).trans (Fr.of e2)) (g1.go e2) hz
  exact k _ _ (plF pl (n - 1)) _ g3 g4 ⟨z, t, ts, g, rfl, upd_same, at2.ex (Evl.Ex.new hz), l2, rfl⟩ wk
def mdT (H : Hp) (p c D : Addr) (n : Nat) (b : Bool) (v5 : Option V) : L2.St → Hp → Prop := fun σ H' => ∃ v4 ls f, σ = [some (.ref p), some (.int n), some (.bl b), some (.ref D), v4, v5] ∧ Fr p H H' ∧ HandAt H' p c ∧ AfAt H' D ls f ∧ ls.length = n ∧ Fwd n f
def ivT1 (H : Hp) (p c D : Addr) (ls : List Addr) (n : Nat) (b : Bool) : Nat → L2.St → Hp → Prop := fun i σ H' => ∃ v4 f, σ = [some (.ref p), some (.int n), some (.bl b), some (.ref D), v4, none] ∧ Fr p H H' ∧ HandAt H' p c ∧ AfAt H' D ls f ∧ (∀ j, j < n → (f j).Pairwise (· < ·) ∧ ∀ x ∈ f j, x < i ∧ x < j) ∧ ∀ q, q < i → ∃ j, j < n ∧ q ∈ f j
theorem ok_law_tree (T : Txt K mg a) : FnOk P w K mg base CX0 4 a.f_law_tree a.d_law_tree ["_law_hand_here", "_law_many", "_law_mixed_here"] spTr := by
  refine T.F_law_tree.ok sc_law_tree (fun vs H Q E h => ?_) (fun cdv A outer s H vs Q E hr h => ?_)
  · obtain ⟨_, _, _, _, rfl, _⟩ := h
    rfl
  · obtain ⟨p, c, n, b, rfl, ha, h1, h8, k⟩ := h
    refine ⟨_, (pss_cons (ps_setLc (i := 3) (own := [("_law_place", 4)]) (g := gName 4) (tt := tYes) rfl sc_law_tree.nd rfl rfl (sw_true rfl rfl rfl (by decide +kernel)) (pi_range1 (by rfl) T.z_range (pa_cons (pv 1) pa_nil)) (blkOk_by (own := [("_law_place", 4)]) (N := ["_law_hand_here", "_law_many", "_law_mixed_here", "_law_befores", "_law_place", "_law_places"]) (sc := defScope s_law_tree) (by decide +kernel)) (fun _ _ _ _ _ => pg_name (i := 4) sc_law_tree.nd rfl (Or.inl rfl)) (fun _ _ _ _ _ => pts_nil) (fun _ _ _ _ _ => (pe_lst pa_nil)))
  (Evl.pss_cut (ps_for PassesOwn.never rfl (pi_range1 (by rfl) T.z_range (pa_cons (pe_op op_sub (pv 1) pe_int) pa_nil)) (pg_name (i := 4) sc_law_tree.nd rfl (by first | exact Or.inl rfl | exact Or.inr rfl)) (pss_one (ps_expr (pe_bm PySem.F.plainAttrs_list PySem.F.slot_list_append PySem.F.type_list_append mt_append (pe_ix ix_list (pv 3) (pe_op op_add (pe_op op_add (pv 4) pe_int) (pe_call (ok_law_take T) (hr.mono (by decide)) rfl T.m_law_take T.F_law_take.kp T.b_law_take .nil pass0 (pa_cons (pv 0) (pa_cons (pe_op op_sub (pe_op op_sub (pv 1) pe_int) (pv 4)) pa_nil)))) (fun _ _ => rfl)) (pa_cons (pv 4) pa_nil)))))
  (Evl.pss_cut (ps_if (pt_not (pt_val (pv 2))) (pss_one (ps_ret (pe_tup (pa_cons (pv 3) (pa_cons (pe_op op_sub (pv 1) pe_int) pa_nil)))))
    pss_nil)
  (pss_cons (ps_set (i := 5) sc_law_tree.nd rfl (by first | exact Or.inl rfl | exact Or.inr rfl) (pe_call (ok_law_order T) (hr.mono (by decide)) rfl T.m_law_order T.F_law_order.kp T.b_law_order .nil pass0 (pa_cons (pv 0) (pa_cons (pv 1) pa_nil))))
  (pss_one (ps_ret (pe_tup (pa_cons (pe_call (ok_law_led T) (hr.mono (by decide)) rfl T.m_law_led T.F_law_led.kp T.b_law_led .nil pass0 (pa_cons (pv 3) (pa_cons (pv 5) pa_nil))) (pa_cons (pe_ix ix_list (pv 5) (pe_op op_sub (pv 1) pe_int) (fun _ _ => rfl)) pa_nil))))))))), ?_⟩
    walk_at "sm"
    refine ⟨by omega, by omega, lcg_range (lo := 0) (n := (n : Int).toNat) (ivL0 H) (fun D hD => ⟨Evl.Ex.new hD, [], rfl, ⟨upd_same, List.nodup_nil, List.not_mem_nil, fun q c h => by simp at h⟩, fun c h => by simp at h⟩) ?_ ?_⟩
    · rintro D i HX hD hi ⟨f1, us, f2, f3, f4⟩
      walk_at "sm"
      refine ⟨Nat.zero_le _, fun d hd => ?_⟩
      have eC := Evl.Ex.new (o := .lst []) hd
      refine ⟨_, eC _ _ f3.1, Nat.lt_of_le_of_lt (show _ ≤ 200 by rw [List.length_map]; omega) (by decide), Evl.Ex.mut (f1.trans eC) hD, us ++ [d], by rw [List.length_append, f2]; rfl, ?_, ?_⟩
      · have ap := f3.app (l := []) hd
        rw [List.map_append] at ap
        exact ap.same fun q _ => by split <;> rfl
      · intro x hx
        rcases List.mem_append.mp hx with z | z
        · exact f4 x z
        · rw [List.mem_singleton.mp z]
          exact Evl.fresh_back f1 hd
    · rintro D HX hD ⟨f1, ls, f2, f3, f4⟩
      rw [Int.toNat_natCast] at f2
      refine ⟨mdT H p c D n b none, ?_, fun σ HY ⟨v4, ls, f, e1, m1, m2, m3, m4, m5⟩ => ⟨mdT H p c D n b none, ?_, fun σ HY ⟨v4, ls, f, e1, m1, m2, m3, m4, m5⟩ => ?_⟩⟩
      · refine ⟨_, rfl, _, _, rfl, rfl, _, rfl, by omega, by omega, for_range (lo := 0) (n := ((n : Int) - 1).toNat) (ivT1 H p c D ls n b) ⟨none, _, rfl, Fr.of f1, ha.go f1, f3, fun j hj => ⟨List.Pairwise.nil, fun x hx => nomatch hx⟩, fun q hq => absurd hq (Nat.not_lt_zero _)⟩ ?_ ?_⟩
        · rintro i σ HY hi ⟨v4, f, rfl, g1, g2, g3, g4, g5⟩
          rw [show (0 : Int) + (i : Int) = ((i : Nat) : Int) by omega]
          walk_at "sm"
          have hi2 : i + 1 < n := by omega
          refine ⟨p, c, _, rfl, g2, by omega, by omega, fun r H2 r1 r2 f7 f8 => ⟨_, rfl, ?_⟩⟩
          obtain ⟨j, hj⟩ : ∃ j : Nat, (i : Int) + 1 + r = (j : Int) := ⟨i + 1 + r.toNat, by omega⟩
          rw [hj]
          have jn : j < n := by omega
          have ij : i < j := by omega
          obtain ⟨a1, a2⟩ := g3.fr f7 g2
          obtain ⟨d, hd⟩ : ∃ d, ls[j]? = some d := ⟨_, List.getElem?_eq_getElem (by omega)⟩
          have hd2 := a1.2.2.2 j d hd
          have dn := f4 d (List.mem_of_getElem? hd)
          obtain ⟨as1, as2⟩ := g4 j jn
          have len := asc_len as1 fun x hx => (as2 x hx).2
          refine ixl (SqL.of a1.1) (atI_nat (by rw [List.getElem?_map, hd]; rfl)) ⟨(show tyV K "list" (.ref d) H2 from .inl ⟨rfl, _, SqL.of hd2⟩), d, _, _, rfl, rfl, hd2, by rw [nI_len, sizeLine_eq]; omega, ?_⟩
          have kp := a1.push (v := i) hd
          rw [nI_snoc] at kp
          refine ⟨_, _, rfl, (g1.trans f7).mut dn, f8.upd (ha.lt dn) (ha.lc dn), kp, fun l hl => ?_, fun q hq => ?_⟩
          · obtain ⟨b1, b2⟩ := g4 l hl
            show (if l = j then f l ++ [i] else f l).Pairwise (· < ·) ∧ ∀ x ∈ (if l = j then f l ++ [i] else f l), x < i + 1 ∧ x < l
            by_cases e : l = j
            · rw [if_pos e]
              refine ⟨List.pairwise_append.mpr ⟨b1, List.pairwise_singleton .., fun x hx y hy => ?_⟩, fun x hx => ?_⟩
              · rw [List.mem_singleton.mp hy]
                exact (b2 x hx).1
              · rcases List.mem_append.mp hx with z | z
                · have := b2 x z
                  omega
                · rw [List.mem_singleton.mp z]
                  omega
            · rw [if_neg e]
              exact ⟨b1, fun x hx => by have := b2 x hx; omega⟩
          · rcases Nat.lt_or_eq_of_le (Nat.le_of_lt_succ hq) with z | rfl
            · obtain ⟨l, l1, l2⟩ := g5 q z
              refine ⟨l, l1, ?_⟩
              show q ∈ (if l = j then f l ++ [i] else f l)
              split
              · exact List.mem_append_left _ l2
              · exact l2
            · refine ⟨j, jn, ?_⟩
              show q ∈ (if j = j then f j ++ [q] else f j)
              rw [if_pos rfl]
              exact List.mem_append_right _ List.mem_cons_self
        · rintro σ HY ⟨v4, f, rfl, g1, g2, g3, g4, g5⟩
          exact ⟨_, ls, f, rfl, g1, g2, g3, f2, fun j hj => (g4 j hj).1, fun j hj x hx => ((g4 j hj).2 x hx).2, fun q hq => g5 q (by omega)⟩
      · subst e1
        walk_at "sm"
        cases b with
        | true => exact iteF ⟨v4, ls, f, rfl, m1, m2, m3, m4, m5⟩
        | false => exact iteT ⟨sz (by decide), fun q hq => web_end0 k m1 m2 m3 m4 m5 h1 h8 hq⟩
      · subst e1
        walk_at "sm"
        exact web_end k m1 m2 m3 m4 m5 h1 h8
end


/-! ### webs drawn by share -/
theorem AfAt.app2 {HX : Hp} {D c : Addr} {ls : List Addr} {f : Nat → List Nat} {l : List Nat} (h : AfAt HX D ls f) (hc : HX c = some (.lst ((nI l).map V.int))) (nc : c ∉ ls) (nD : c ≠ D) : AfAt (upd HX D (.lst ((ls ++ [c]).map V.ref))) D (ls ++ [c]) (fun x => if x = ls.length then l else f x) := by
  obtain ⟨h1, h2, h3, h4⟩ := h
  refine ⟨upd_same, List.nodup_append.mpr ⟨h2, List.nodup_cons.mpr ⟨List.not_mem_nil, List.nodup_nil⟩, fun d hd e he => by rw [List.mem_singleton.mp he]; exact fun z => nc (by rw [← z]; exact hd)⟩, fun z => ?_, fun q d hd => ?_⟩
  · rcases List.mem_append.mp z with z | z
    · exact h3 z
    · exact nD (List.mem_singleton.mp z).symm
  · by_cases hq : q < ls.length
    · rw [List.getElem?_append_left hq] at hd
      have m := List.mem_of_getElem? hd
      show upd _ D _ d = some (.lst ((nI (if q = ls.length then l else f q)).map V.int))
      rw [upd_ne (fun z => h3 (by rw [← z]; exact m)), if_neg (by omega)]
      exact h4 q d hd
    · have ql : q = ls.length := by
        have := (List.getElem?_eq_some_iff.mp hd).1
        rw [List.length_append] at this
        simp at this
        omega
      subst ql
      rw [List.getElem?_append_right (Nat.le_refl _), Nat.sub_self] at hd
      have : c = d := by simpa using hd
      subst this
      show upd _ D _ c = some (.lst ((nI (if ls.length = ls.length then l else f ls.length)).map V.int))
      rw [upd_ne nD, if_pos rfl]
      exact hc
theorem inV_mem {n : Nat} {b : List Nat} : inV (.int n) ((nI b).map V.int) = decide (n ∈ b) := by
  by_cases h : n ∈ b
  · rw [decide_eq_true h]
    obtain ⟨i, hi⟩ := List.mem_iff_getElem?.mp h
    exact List.any_eq_true.mpr ⟨.int n, List.mem_of_getElem? (nI_get hi), by simp [eqV]⟩
  · rw [decide_eq_false h]
    exact inV_nat h
theorem AfAt.fresh {HX : Hp} {D c : Addr} {ls : List Addr} {f : Nat → List Nat} (h : AfAt HX D ls f) (hc : HX c = none) : c ∉ ls ∧ c ≠ D := by
  refine ⟨fun z => ?_, fun z => ?_⟩
  · obtain ⟨u, hu⟩ := List.mem_iff_getElem?.mp z
    have := h.2.2.2 u c hu
    rw [hc] at this
    cases this
  · have := h.1
    rw [← z, hc] at this
    cases this
section
variable {P : Program} {w : World} {K : PySem.W.Frag} {mg : Str → Option Value} {base : Heap} {a : Ad}
def spBr : Sp := fun vs H Q _ => ∃ (p c : Addr) (n s : Nat) (b : Bool), vs = [.ref p, .int n, .int s, .bl b] ∧ HandAt H p c ∧ 1 ≤ n ∧ n ≤ 8 ∧ 1 ≤ s ∧ s ≤ 10 ∧ ∀ v bs e H', Fr p H H' → HandAt H' p c → LwAt H' v n bs e → WebOk bs e → Q v H'
def ivD0 (H : Hp) (p c D : Addr) (i : Nat) (H' : Hp) : Prop := Fr p H H' ∧ HandAt H' p c ∧ ∃ ls f, ls.length = i ∧ AfAt H' D ls f ∧ ∀ j, j < i → (f j).Pairwise (· < ·) ∧ ∀ x ∈ f j, x < j
def ivDI (H : Hp) (p c E : Addr) (i : Nat) (H' : Hp) : Prop := Fr p H H' ∧ HandAt H' p c ∧ E ≠ p ∧ ∃ l, H' E = some (.lst ((nI l).map V.int)) ∧ l.Pairwise (· < ·) ∧ ∀ x ∈ l, x < i
def mdD (H : Hp) (p c D : Addr) (n s : Nat) (b : Bool) : L2.St → Hp → Prop := fun σ H' => ∃ v5 v6 ls f, σ = [some (.ref p), some (.int n), some (.int s), some (.bl b), some (.ref D), v5, v6, none, none] ∧ Fr p H H' ∧ HandAt H' p c ∧ AfAt H' D ls f ∧ ls.length = n ∧ Fwd n f
def ivD1 (H : Hp) (p c D : Addr) (n s : Nat) (b : Bool) : Nat → L2.St → Hp → Prop := fun i σ H' => ∃ v5 v6 ls f, σ = [some (.ref p), some (.int n), some (.int s), some (.bl b), some (.ref D), v5, v6, none, none] ∧ Fr p H H' ∧ HandAt H' p c ∧ AfAt H' D ls f ∧ ls.length = n ∧ (∀ j, j < n → (f j).Pairwise (· < ·) ∧ ∀ x ∈ f j, x < j) ∧ ∀ q, q < i → ∃ j, j < n ∧ q ∈ f j
def ivDA (H : Hp) (f : Nat → List Nat) (i : Nat) (E : Addr) (j : Nat) (H' : Hp) : Prop := Evl.Ex H H' ∧ H' E = some (.lst (((List.range j).map fun k => decide (i ∈ f (i + 1 + k))).map V.bl))
theorem ok_law_bare (T : Txt K mg a) : FnOk P w K mg base CX0 4 a.f_law_bare a.d_law_bare ["_law_hand_here", "_law_many", "_law_share", "_law_mixed_here"] spBr := by
  refine T.F_law_bare.ok sc_law_bare (fun vs H Q E h => ?_) (fun cdv A outer s H vs Q E hr h => ?_)
  · obtain ⟨_, _, _, _, _, rfl, _⟩ := h
    rfl
  · obtain ⟨p, c, n, s, b, rfl, ha, h1, h8, s1, s10, k⟩ := h
    refine ⟨_, (pss_cons (ps_set (i := 4) sc_law_bare.nd rfl (by first | exact Or.inl rfl | exact Or.inr rfl) (pe_lc (own := [("_law_place", 5)]) (g := gName 5) (tt := tYes) rfl sc_law_bare.nd (pi_range1 (by rfl) T.z_range (pa_cons (pv 1) pa_nil)) (blkOk_by (own := [("_law_place", 5)]) (N := ["_law_hand_here", "_law_many", "_law_share", "_law_mixed_here", "_law_befores", "_law_place", "_law_later", "_law_places", "_law_before"]) (sc := defScope s_law_bare) (by decide +kernel)) (fun _ _ _ _ _ => pg_name (i := 5) sc_law_bare.nd rfl (Or.inl rfl)) (fun _ _ _ _ _ => pts_nil) (fun _ _ _ _ _ => (pe_lc (own := [("_law_before", 8)]) (g := gName 8)  rfl sc_law_bare.nd (pi_range1 (by rfl) T.z_range (pa_cons (pv 5) pa_nil)) (by (show BlkOk ["_law_hand_here", "_law_many", "_law_share", "_law_mixed_here", "_law_befores", "_law_place", "_law_later", "_law_places", "_law_before"] ⟨_, _, _, _, _⟩ _ _); exact blkOk_by (by first | rfl | kernel_rfl)) (fun _ _ _ _ _ => pg_name (i := 8) sc_law_bare.nd rfl (Or.inl rfl)) (fun _ _ _ _ _ => (pts_one (pt_cmpR op_eq (pe_call (ok_law_take T) (hr.mono (by decide)) rfl T.m_law_take T.F_law_take.kp T.b_law_take .nil pass0 (pa_cons (pv 0) (pa_cons (pv 2) pa_nil))) pe_int (nomark _)))) (fun _ _ _ _ _ => (pv 8))))) (by first | rfl | kernel_rfl))
  (Evl.pss_cut (ps_for PassesOwn.never rfl (pi_range1 (by rfl) T.z_range (pa_cons (pe_op op_sub (pv 1) pe_int) pa_nil)) (pg_name (i := 5) sc_law_bare.nd rfl (by first | exact Or.inl rfl | exact Or.inr rfl)) (pss_one (ps_if (pt_not (pt_val (pe_callB (cr_any rfl) (by rfl) T.z_any (by decide +kernel) (pa_cons (pe_lc (own := [("_law_later", 6)]) (g := gName 6) (tt := tYes) rfl sc_law_bare.nd (pi_range2 (by rfl) T.z_range (pa_cons (pe_op op_add (pv 5) pe_int) (pa_cons (pv 1) pa_nil))) (blkOk_by (own := [("_law_later", 6)]) (N := ["_law_hand_here", "_law_many", "_law_share", "_law_mixed_here", "_law_befores", "_law_place", "_law_later", "_law_places", "_law_before"]) (sc := defScope s_law_bare) (by decide +kernel)) (fun _ _ _ _ _ => pg_name (i := 6) sc_law_bare.nd rfl (Or.inl rfl)) (fun _ _ _ _ _ => pts_nil) (fun _ _ _ _ _ => (pe_cmpR op_in_seq_b (pv 5) (pe_ix ix_list_b (pv 4) (pv 6) (fun _ _ => rfl)) (by rfl)))) pa_nil)))) (pss_cons (ps_set (i := 6) sc_law_bare.nd rfl (by first | exact Or.inl rfl | exact Or.inr rfl) (pe_op op_add (pe_op op_add (pv 5) pe_int) (pe_call (ok_law_take T) (hr.mono (by decide)) rfl T.m_law_take T.F_law_take.kp T.b_law_take .nil pass0 (pa_cons (pv 0) (pa_cons (pe_op op_sub (pe_op op_sub (pv 1) pe_int) (pv 5)) pa_nil)))))
  (pss_one (ps_asg (pe_callB cr_sortedI (by rfl) T.z_sorted (by decide +kernel) (pa_cons (pe_op op_cat (pe_ix ix_list (pv 4) (pv 6) (fun _ _ => rfl)) (pe_lst (pa_cons (pv 5) pa_nil))) pa_nil)) (pg_sub (pv 4) (pv 6) set_list (by intro _; rfl)))))
    pss_nil)))
  (Evl.pss_cut (ps_if (pt_not (pt_val (pv 3))) (pss_one (ps_ret (pe_tup (pa_cons (pv 4) (pa_cons (pe_op op_sub (pv 1) pe_int) pa_nil)))))
    pss_nil)
  (pss_cons (ps_set (i := 7) sc_law_bare.nd rfl (by first | exact Or.inl rfl | exact Or.inr rfl) (pe_call (ok_law_order T) (hr.mono (by decide)) rfl T.m_law_order T.F_law_order.kp T.b_law_order .nil pass0 (pa_cons (pv 0) (pa_cons (pv 1) pa_nil))))
  (pss_one (ps_ret (pe_tup (pa_cons (pe_call (ok_law_led T) (hr.mono (by decide)) rfl T.m_law_led T.F_law_led.kp T.b_law_led .nil pass0 (pa_cons (pv 4) (pa_cons (pv 7) pa_nil))) (pa_cons (pe_ix ix_list (pv 7) (pe_op op_sub (pv 1) pe_int) (fun _ _ => rfl)) pa_nil))))))))), ?_⟩
    walk_at "sm"
    refine ⟨by omega, by omega, lcg_range (lo := 0) (n := (n : Int).toNat) (ivD0 H p c) (fun D hD => ?_) ?_ ?_⟩
    · obtain ⟨g1, g2, g3⟩ := hand_new (o := .lst []) (Fr.refl H) ha hD
      exact ⟨g1, g2, [], fun _ => [], rfl, ⟨upd_same, List.nodup_nil, List.not_mem_nil, fun q c h => by simp at h⟩, fun j hj => absurd hj (Nat.not_lt_zero _)⟩
    · rintro D i HX hD hi ⟨g1, g2, ls, f, g3, g4, g5⟩
      rw [show (0 : Int) + (i : Int) = ((i : Nat) : Int) by omega]
      walk_at "sm"
      refine ⟨by omega, by omega, lcg_range (lo := 0) (n := (i : Int).toNat) (ivDI HX p c) (fun E hE => ?_) ?_ ?_⟩
      · obtain ⟨k1, k2, k3⟩ := hand_new (o := .lst []) (Fr.refl HX) g2 hE
        exact ⟨k1, k2, k3, [], upd_same, .nil, fun x hx => nomatch hx⟩
      · rintro E j HY hE hj ⟨k1, k2, k3, l, k4, k5, k6⟩
        rw [show (0 : Int) + (j : Int) = ((j : Nat) : Int) by omega]
        walk_at "sm"
        refine ⟨p, c, _, rfl, k2, by omega, by omega, fun r H2 r1 r2 f7 f8 => ⟨rfl, ?_⟩⟩
        have k4' := f7 _ _ k3 k4
        have ll := asc_len k5 k6
        by_cases rz : r = 0
        · refine iteP (by rw [rz]) ⟨_, k4', by rw [nI_len, sizeLine_eq]; omega, ?_, ?_, k3, l ++ [j], by rw [upd_same, nI_snoc], ?_, ?_⟩
          · exact (k1.trans f7).mut hE
          · exact f8.upd (g2.lt hE) (g2.lc hE)
          · refine List.pairwise_append.mpr ⟨k5, List.pairwise_singleton .., fun x hx y hy => ?_⟩
            rw [List.mem_singleton.mp hy]
            exact k6 x hx
          · intro x hx
            rcases List.mem_append.mp hx with z | z
            · have := k6 x z
              omega
            · rw [List.mem_singleton.mp z]
              omega
        · exact iteN (fun z => rz (V.int.inj z)) ⟨k1.trans f7, f8, k3, l, k4', k5, fun x hx => by have := k6 x hx; omega⟩
      · rintro E HY hE ⟨k1, k2, k3, l, k4, k5, k6⟩
        rw [Int.toNat_natCast] at k6
        obtain ⟨a1, a2⟩ := g4.fr k1 g2
        obtain ⟨n1, n2⟩ := g4.fresh hE
        have hdD : D ≠ p := a2
        refine ⟨_, a1.1, by rw [List.length_map, sizeLine_eq]; omega, (g1.trans k1).mut hD, k2.upd (ha.lt hD) (ha.lc hD), ls ++ [E], (fun x => if x = ls.length then l else f x), by rw [List.length_append, g3]; rfl, ?_, fun j hj => ?_⟩
        · have ap := a1.app2 k4 n1 n2
          rw [List.map_append] at ap
          exact ap
        · show (if j = ls.length then l else f j).Pairwise (· < ·) ∧ ∀ x ∈ (if j = ls.length then l else f j), x < j
          by_cases e : j = ls.length
          · rw [if_pos e]
            exact ⟨k5, fun x hx => by have := k6 x hx; omega⟩
          · rw [if_neg e]
            exact g5 j (by omega)
    · rintro D HX hD ⟨g1, g2, ls, f, g3, g4, g5⟩
      rw [Int.toNat_natCast] at g3 g5
      refine ⟨mdD H p c D n s b, ?_, fun σ HY ⟨v5, v6, ls, f, e1, m1, m2, m3, m4, m5⟩ => ⟨mdD H p c D n s b, ?_, fun σ HY ⟨v5, v6, ls, f, e1, m1, m2, m3, m4, m5⟩ => ?_⟩⟩
      · refine ⟨_, rfl, _, _, rfl, rfl, _, rfl, by omega, by omega, for_range (lo := 0) (n := ((n : Int) - 1).toNat) (ivD1 H p c D n s b) ⟨none, none, ls, f, rfl, g1, g2, g4, g3, g5, fun q hq => absurd hq (Nat.not_lt_zero _)⟩ ?_ ?_⟩
        · rintro i σ HY hi ⟨v5, v6, ls, f, rfl, u1, u2, u3, u4, u5, u6⟩
          rw [show (0 : Int) + (i : Int) = ((i : Nat) : Int) by omega]
          have hi2 : i + 1 < n := by omega
          walk_at "sm"
          have hn2 : ((n : Int) - ((i : Int) + 1)).toNat = n - (i + 1) := by omega
          refine ⟨by omega, by omega, by omega, by omega, lcg_range (lo := (i : Int) + 1) (n := ((n : Int) - ((i : Int) + 1)).toNat) (ivDA HY f i) (fun E hE => ⟨Evl.Ex.new hE, upd_same⟩) ?_ ?_⟩
          · rintro E j HZ hE hj ⟨q1, q2⟩
            rw [show (i : Int) + 1 + (j : Int) = ((i + 1 + j : Nat) : Int) by omega]
            walk_at "sm"
            obtain ⟨d, hd⟩ : ∃ d, ls[i + 1 + j]? = some d := ⟨_, List.getElem?_eq_getElem (by omega)⟩
            refine ixl (SqL.of (q1 _ _ u3.1)) (atI_nat (by rw [List.getElem?_map, hd]; rfl)) ⟨d, _, rfl, .inl (SqL.of (q1 _ _ (u3.2.2.2 _ d hd))), rfl, flat_nats _, _, q2, by rw [List.length_map, List.length_map, List.length_range, sizeLine_eq]; omega, q1.mut hE, ?_⟩
            rw [if_neg (by decide), inV_mem, upd_same, List.range_succ, List.map_append, List.map_append]
            rfl
          · rintro E HZ hE ⟨q1, q2⟩
            rw [hn2] at q2
            refine ⟨E, _, rfl, SqL.of q2, _, rfl, ?_⟩
            have u1' := u1.trans (Fr.of q1)
            have u2' := u2.go q1
            have u3' := u3.ex q1
            cases any : ((List.range (n - (i + 1))).map fun k => decide (i ∈ f (i + 1 + k))).any id with
            | true =>
              refine iteF ⟨_, _, ls, f, rfl, u1', u2', u3', u4, u5, fun q hq => ?_⟩
              rcases Nat.lt_or_eq_of_le (Nat.le_of_lt_succ hq) with z | rfl
              · exact u6 q z
              · obtain ⟨x, hx, hx2⟩ := List.any_eq_true.mp any
                obtain ⟨kx, hk, rfl⟩ := List.mem_map.mp hx
                have := List.mem_range.mp hk
                exact ⟨q + 1 + kx, by omega, of_decide_eq_true hx2⟩
            | false =>
              refine iteT ⟨p, c, _, rfl, u2', by omega, by omega, fun r H2 r1 r2 f7 f8 => ⟨_, rfl, ?_⟩⟩
              obtain ⟨j, hj⟩ : ∃ j : Nat, (i : Int) + 1 + r = (j : Int) := ⟨i + 1 + r.toNat, by omega⟩
              rw [hj]
              have jn : j < n := by omega
              have ij : i < j := by omega
              have nin : i ∉ f j := fun z => by
                have := List.any_eq_false.mp any (decide (i ∈ f (i + 1 + (j - (i + 1))))) (List.mem_map.mpr ⟨j - (i + 1), List.mem_range.mpr (by omega), rfl⟩)
                rw [show i + 1 + (j - (i + 1)) = j by omega, decide_eq_true z] at this
                exact this rfl
              obtain ⟨a1, a2⟩ := u3'.fr f7 u2'
              obtain ⟨d, hd⟩ : ∃ d, ls[j]? = some d := ⟨_, List.getElem?_eq_getElem (by omega)⟩
              have hd2 := a1.2.2.2 j d hd
              obtain ⟨as1, as2⟩ := u5 j jn
              have len := asc_len as1 as2
              refine ixl (SqL.of a1.1) (atI_nat (by rw [List.getElem?_map, hd]; rfl)) ⟨sz (by decide), fun p5 hp5 => ?_⟩
              have e5 := Evl.Ex.new (o := .lst [.int (i : Nat)]) hp5
              refine ⟨d, p5, _, _, rfl, rfl, e5 _ _ hd2, upd_same, by rw [nI_len, sizeLine_eq]; show (f j).length + 1 ≤ _; omega, fun p6 hp6 => ?_⟩
              have e6 := e5.trans (Evl.Ex.new (o := .lst ((nI (f j)).map V.int ++ [.int (i : Nat)])) hp6)
              have in200 : ∀ x ∈ f j ++ [i], x < 200 := fun x hx => by
                rcases List.mem_append.mp hx with z | z
                · have := as2 x z
                  omega
                · rw [List.mem_singleton.mp z]
                  omega
              have nd : (f j ++ [i]).Nodup := List.nodup_append.mpr ⟨as1.imp fun z => Nat.ne_of_lt z, List.nodup_cons.mpr ⟨List.not_mem_nil, List.nodup_nil⟩, fun x hx y hy => by
                rw [List.mem_singleton.mp hy]
                exact fun z => nin (by rw [← z]; exact hx)⟩
              refine ⟨p6, nI (f j ++ [i]), rfl, SqL.of (by rw [nI_snoc]; exact upd_same), fun ns p7 pm pw hp7 => ?_⟩
              have en := sb_uniq in200 nd pm pw
              subst en
              have e7 := e6.trans (Evl.Ex.new (o := .lst ((nI (sb (f j ++ [i]))).map V.int)) hp7)
              have a7 := a1.ex e7
              have hn7 := Evl.fresh_back e6 hp7
              obtain ⟨n1, n2⟩ := a1.fresh hn7
              have lk : j < ls.length := by omega
              have pu := a7.put lk (l := sb (f j ++ [i])) upd_same n1 n2
              refine ⟨D, _, _, j, rfl, rfl, a7.1, Evl.ixN_nat (by rw [List.length_map]; exact lk), _, _, ls.set j p7, _, rfl, ?_, ?_, pu, by rw [List.length_set]; exact u4, fun x hx => ?_, fun q hq => ?_⟩
              · exact ((u1'.trans f7).trans (Fr.of e7)).mut hD
              · exact (f8.go e7).upd (ha.lt hD) (ha.lc hD)
              · show (if x = j then sb (f j ++ [i]) else f x).Pairwise (· < ·) ∧ ∀ y ∈ (if x = j then sb (f j ++ [i]) else f x), y < x
                by_cases e : x = j
                · subst e
                  rw [if_pos rfl]
                  refine ⟨sb_lt _, fun y hy => ?_⟩
                  rcases List.mem_append.mp ((sb_mem in200).mp hy) with z | z
                  · exact as2 y z
                  · rw [List.mem_singleton.mp z]
                    exact ij
                · rw [if_neg e]
                  exact u5 x hx
              · have base : ∃ j', j' < n ∧ q ∈ (if j' = j then f j' ++ [i] else f j') := by
                  rcases Nat.lt_or_eq_of_le (Nat.le_of_lt_succ hq) with z | rfl
                  · obtain ⟨l, l1, l2⟩ := u6 q z
                    refine ⟨l, l1, ?_⟩
                    split
                    · exact List.mem_append_left _ l2
                    · exact l2
                  · exact ⟨j, jn, by rw [if_pos rfl]; exact List.mem_append_right _ List.mem_cons_self⟩
                obtain ⟨l, l1, l2⟩ := base
                refine ⟨l, l1, ?_⟩
                show q ∈ (if l = j then sb (f j ++ [i]) else f l)
                by_cases e : l = j
                · subst e
                  rw [if_pos rfl] at l2 ⊢
                  exact (sb_mem in200).mpr l2
                · rw [if_neg e] at l2 ⊢
                  exact l2
        · rintro σ HY ⟨v5, v6, ls, f, rfl, u1, u2, u3, u4, u5, u6⟩
          exact ⟨_, _, ls, f, rfl, u1, u2, u3, u4, fun j hj => (u5 j hj).1, fun j hj x hx => (u5 j hj).2 x hx, fun q hq => u6 q (by omega)⟩
      · subst e1
        walk_at "sm"
        cases b with
        | true => exact iteF ⟨v5, v6, ls, f, rfl, m1, m2, m3, m4, m5⟩
        | false => exact iteT ⟨sz (by decide), fun q hq => web_end0 k m1 m2 m3 m4 m5 h1 h8 hq⟩
      · subst e1
        walk_at "sm"
        exact web_end k m1 m2 m3 m4 m5 h1 h8
end


/-! ### the law's masks -/
section
variable {X : Cx}
theorem op_andNN : OpR X (binaryOp .BitAnd) (fun x y H Q => ∃ n b : Nat, x = .int n ∧ y = .int b ∧ Q (.int (n &&& b : Nat)) H) := by
  intro pins s σ H x y v u Q I r1 r2 h
  obtain ⟨n, b, rfl, rfl, q⟩ := h
  refine op_and pins s σ H _ _ v u Q I r1 r2 ⟨_, _, rfl, rfl, ?_⟩
  show Q (.int (Builtin.bitAnd (n : Int) (b : Int))) H
  have : Builtin.bitAnd (n : Int) (b : Int) = ((n &&& b : Nat) : Int) := by
    unfold Builtin.bitAnd
    rw [decide_eq_true (show (0 : Int) ≤ (n : Int) by omega), decide_eq_true (show (0 : Int) ≤ (b : Int) by omega)]
    show ((((n : Int).toNat) &&& ((b : Int).toNat) : Nat) : Int) = _
    rw [Int.toNat_natCast, Int.toNat_natCast]
  rw [this]
  exact q
theorem pi_list_b {X : Cx} {s : Shared} {H : Hp} {scope : Scope} {env : Env} {fp : List Addr} {tg l : Expr} {tl : TE} (hl : PE (X.blk s H scope env fp) l tl) : PI (X.blk s H scope env fp) tg l (iList X.K tl) := pi_list hl
theorem cr_sum_b {X : Cx} {s : Shared} {H : Hp} {scope : Scope} {env : Env} {fp : List Addr} (hc : (X.blk s H scope env fp).calm = true) : CallR (X.blk s H scope env fp) (.builtin "sum") (rSum X.K) := cr_sum hc
theorem sl_list_b {X : Cx} {s : Shared} {H : Hp} {scope : Scope} {env : Env} {fp : List Addr} : SlR (X.blk s H scope env fp) (rSlL X.K) := sl_list
end
theorem or_add : ∀ (p n : Nat), n.testBit p = false → n ||| 2 ^ p = n + 2 ^ p
  | 0, n, h => by
    have h1 : (n ||| 1) / 2 = n / 2 := by rw [Nat.or_div_two]; simp
    have h2 : (n ||| 1).testBit 0 = true := by rw [Nat.testBit_or]; simp
    rw [Nat.testBit_zero, decide_eq_true_eq] at h2
    rw [Nat.testBit_zero, decide_eq_false_iff_not] at h
    show n ||| 1 = n + 1
    omega
  | p + 1, n, h => by
    have h0 : (n / 2).testBit p = false := by rw [← Nat.testBit_succ]; exact h
    have ih := or_add p (n / 2) h0
    have h1 : (n ||| 2 ^ (p + 1)) / 2 = n / 2 ||| 2 ^ p := by
      rw [Nat.or_div_two, Nat.pow_succ, Nat.mul_div_cancel _ (by decide)]
    have h2 : (n ||| 2 ^ (p + 1)).testBit 0 = n.testBit 0 := by
      rw [Nat.testBit_or, bit_pow, decide_eq_false (by omega), Bool.or_false]
    rw [Nat.testBit_zero, Nat.testBit_zero, decide_eq_decide] at h2
    rw [Nat.pow_succ] at h1 h2 ⊢
    omega
theorem msk_app (l m : List Nat) : ∀ x, x ∉ l → msk (l ++ [x]) = msk l + 2 ^ x := fun x hx => by
  rw [msk_snoc]
  exact or_add x _ (by rw [msk_bit]; exact decide_eq_false hx)
theorem msk_sum (l : List Nat) (h : l.Nodup) : ∀ i, i ≤ l.length → ((l.take i).map fun x => 2 ^ x).sum = msk (l.take i)
  | 0, _ => rfl
  | i + 1, hi => by
    have e : l[i]? = some l[i] := List.getElem?_eq_getElem (by omega)
    have tn := take_not e h
    rw [List.take_add_one, e, Option.toList_some, List.map_append, List.sum_append, msk_sum l h i (by omega), msk_app _ [] _ tn]
    simp
theorem cutV_all (xs : List V) : cutV xs none none = xs := by
  unfold cutV
  simp [HT.sIx]
section
variable {P : Program} {w : World} {K : PySem.W.Frag} {mg : Str → Option Value} {base : Heap} {a : Ad}
theorem spTake_imp {vs : List V} {H : Hp} {Q Q' : VK} {E E' : XK} (h : spTake vs H Q E) (i : ∀ (y : Int) H', Q (.int y) H' → Q' (.int y) H') : spTake vs H Q' E' := by
  obtain ⟨p, c, m, h1, h2, h3, h4, k⟩ := h
  exact ⟨p, c, m, h1, h2, h3, h4, fun r H' r1 r2 f g => i r H' (k r H' r1 r2 f g)⟩
def spHeld : Sp := fun vs H Q _ => ∃ (m b : Nat), vs = [.int m, .int b] ∧ ∀ k : Bool, (k = true ↔ ∀ i, b.testBit i = true → m.testBit i = true) → Q (.bl k) H
theorem ok_law_held (T : Txt K mg a) : FnOk P w K mg base CX0 1 a.f_law_held a.d_law_held ["_law_mask", "_law_part"] spHeld := by
  refine T.F_law_held.ok sc_law_held (fun vs H Q E h => ?_) (fun cdv A outer s H vs Q E hr h => ?_)
  · obtain ⟨_, _, rfl, _⟩ := h
    rfl
  · obtain ⟨m, b, rfl, k⟩ := h
    refine ⟨_, (pss_one (ps_ret (pe_cmpR op_eq (pe_op op_andNN (pv 0) (pv 1)) (pv 1) (nomark _)))), ?_⟩
    walk_at "sm"
    refine ⟨m, rfl, b, rfl, ?_⟩
    refine k _ ?_
    rw [decide_eq_true_eq]
    constructor
    · intro z i hi
      have : m &&& b = b := by exact_mod_cast z
      rw [← this, Nat.testBit_and, Bool.and_eq_true] at hi
      exact hi.1
    · intro z
      have : m &&& b = b := Nat.eq_of_testBit_eq fun i => by
        rw [Nat.testBit_and]
        cases c : b.testBit i with
        | false => rw [Bool.and_false]
        | true => rw [z i c]; rfl
      rw [this]
def spMs : Sp := fun vs H Q _ => ∃ (p : Addr) (ls : List Addr) (f : Nat → List Nat) (n : Nat), vs = [.ref p] ∧ AfAt H p ls f ∧ ls.length = n ∧ n ≤ 10 ∧ (∀ i, i < n → (f i).Pairwise (· < ·) ∧ ∀ x ∈ f i, x < n) ∧ ∀ q H', Evl.Ex H H' → H' q = some (.lst ((nI ((List.range n).map fun i => msk (f i))).map V.int)) → Q (.ref q) H'
theorem ok_law_masks (T : Txt K mg a) : FnOk P w K mg base CX0 2 a.f_law_masks a.d_law_masks ["_law_befores"] spMs := by
  refine T.F_law_masks.ok sc_law_masks (fun vs H Q E h => ?_) (fun cdv A outer s H vs Q E hr h => ?_)
  · obtain ⟨_, _, _, _, rfl, _⟩ := h
    rfl
  · obtain ⟨p, ls, f, n, rfl, ha, hl, hn, hf, k⟩ := h
    refine ⟨_, (pss_one (ps_ret (pe_lc (own := [("_law_row", 1)]) (g := gName 1) (tt := tYes) rfl sc_law_masks.nd (pi_list (pv 0)) (blkOk_by (own := [("_law_row", 1)]) (N := ["_law_befores", "_law_row", "_law_before"]) (sc := defScope s_law_masks) (by decide +kernel)) (fun _ _ _ _ _ => pg_name (i := 1) sc_law_masks.nd rfl (Or.inl rfl)) (fun _ _ _ _ _ => pts_nil) (fun _ _ _ _ _ => (pe_callB (cr_sum_b rfl) (by rfl) T.z_sum (by decide +kernel) (pa_cons (pe_lc (own := [("_law_before", 2)]) (g := gName 2) (tt := tYes) rfl sc_law_masks.nd (pi_list_b (pv 1)) (by (show BlkOk ["_law_befores", "_law_row", "_law_before"] ⟨_, _, _, _, _⟩ _ _); exact blkOk_by (by first | rfl | kernel_rfl)) (fun _ _ _ _ _ => pg_name (i := 2) sc_law_masks.nd rfl (Or.inl rfl)) (fun _ _ _ _ _ => pts_nil) (fun _ _ _ _ _ => (pe_call (ok_law_two T) (hr.mono (by decide)) rfl T.m_law_two T.F_law_two.kp T.b_law_two .nil pass0 (pa_cons (pv 2) pa_nil)))) pa_nil)))))), ?_⟩
    walk_at "sm"
    have pc : ∀ l : List Nat, (l.map fun x => (2 : Int) ^ x).sum = (((l.map fun x => 2 ^ x).sum : Nat) : Int) := fun l => by
      induction l with
      | nil => rfl
      | cons x l ih =>
        rw [List.map_cons, List.map_cons, List.sum_cons, List.sum_cons, ih]
        rw [Int.natCast_add, Int.natCast_pow]
        rfl
    refine ⟨⟨_, SqL.of ha.1⟩, lcg_list (K := K) (a := p) (xs := ls.map V.ref) (fun D i H' => Evl.Ex H H' ∧ H' D = some (.lst ((nI ((List.range i).map fun i => msk (f i))).map V.int))) (fun D hD => ⟨Evl.Ex.new hD, upd_same⟩) (fun D i HX hD hi h => SqL.of (h.1 _ _ ha.1)) ?_ ?_⟩
    · rintro D i x HX hD hi ⟨f1, f2⟩
      obtain ⟨d, hd, rfl⟩ : ∃ d, ls[i]? = some d ∧ x = .ref d := by
        rw [List.getElem?_map] at hi
        cases e : ls[i]? with
        | none => rw [e] at hi; cases hi
        | some c => rw [e] at hi; exact ⟨c, rfl, (Option.some.inj hi).symm⟩
      have li := (List.getElem?_eq_some_iff.mp hd).1
      have hdX := f1 _ _ (ha.2.2.2 i d hd)
      obtain ⟨fa, fb⟩ := hf i (by omega)
      have fl := asc_len fa fb
      walk_at "sm"
      refine ⟨⟨_, SqL.of hdX⟩, lcg_list (K := K) (a := d) (xs := (nI (f i)).map V.int) (fun E j H' => Evl.Ex HX H' ∧ H' E = some (.lst ((((f i).take j).map fun x => (2 : Int) ^ x).map V.int))) (fun E hE => ⟨Evl.Ex.new hE, upd_same⟩) (fun E j HY hE hj h => SqL.of (h.1 _ _ hdX)) ?_ ?_⟩
      · rintro E j x HY hE hj ⟨h1, h2⟩
        obtain ⟨b, hb, rfl⟩ := nat_at hj
        have bn := fb b (List.mem_of_getElem? hb)
        have jl := (List.getElem?_eq_some_iff.mp hb).1
        walk_at "sm"
        refine ⟨b, rfl, by omega, _, h2, by rw [List.length_map, List.length_map, List.length_take, sizeLine_eq]; omega, h1.mut hE, ?_⟩
        rw [upd_same, List.take_succ, hb, Option.toList_some, List.map_append, List.map_append]
        rfl
      · rintro E HY hE ⟨h1, h2⟩
        rw [nI_len, List.take_length] at h2
        have e1 := f1.trans h1
        refine ⟨E, _, rfl, SqL.of h2, _, h1 _ _ f2, by rw [nI_len, List.length_map, List.length_range, sizeLine_eq]; rw [hl] at li; omega, e1.mut hD, ?_⟩
        have := msk_sum (f i) (fa.imp fun z => Nat.ne_of_lt z) (f i).length (Nat.le_refl _)
        rw [List.take_length] at this
        rw [pc, this, upd_same, List.range_succ, List.map_append, nI_app]
        rfl
    · rintro D HX hD ⟨f1, f2⟩
      rw [List.length_map, hl] at f2
      exact k D HX f1 f2
theorem bare_fin {HX : Hp} {D x dx : Addr} {bs : List (List Nat)} {e : Nat} {R : VK} {E : XK} (hw : WebOk bs e) (ar : ArrG HX D bs) (hx : HX x = none) (hdx : HX dx = none) (ne : dx ≠ x) (k : ∀ H', Evl.Ex HX H' → BareAt a.c_Bare H' x bs e → R .non H') :
    spBI a [V.ref x, .ref D, V.int (e : Nat)] (upd (upd HX dx (HO.own x)) x (HO.ins a.c_Bare dx [])) R E := by
  obtain ⟨g1, g2⟩ := hw.ok.g
  have e1 := Evl.Ex.new (o := HO.own x) hdx
  have hx1 : upd HX dx (HO.own x) x = none := by rw [upd_ne (Ne.symm ne)]; exact hx
  have e2 := e1.trans (Evl.Ex.new (o := HO.ins a.c_Bare dx []) hx1)
  refine ⟨x, dx, D, bs, e, rfl, upd_same, ar.go (Kp.ex e2), g1, by rw [g2]; exact hw.ac, hw.lt, by rw [g2]; exact hw.rd, fun H' f hB => ?_⟩
  rw [g2] at hB
  exact k H' (e1.trans (Fr.ex hx1 f)) hB
def ivBo (H : Hp) (n : Nat) (f : Nat → List Nat) (D : Addr) (i : Nat) (H' : Hp) : Prop := Evl.Ex H H' ∧ ∃ xs, H' D = some (.lst xs) ∧ Paired (fun x b => ∃ q, x = V.ref q ∧ q ≠ D ∧ H' q = some (.lst ((nI b).map V.int))) xs (((List.range n).map f).take i)
def spBo (a : Ad) : Sp := fun vs H Q _ => ∃ (p : Addr) (ls : List Addr) (f : Nat → List Nat) (n e : Nat), vs = [.ref p, .int e] ∧ AfAt H p ls f ∧ ls.length = n ∧ n ≤ 10 ∧ WebOk ((List.range n).map f) e ∧ ∀ x H', Evl.Ex H H' → BareAt a.c_Bare H' x ((List.range n).map f) e → Q (.ref x) H'
theorem ok_law_bare_of (T : Txt K mg a) : FnOk P w K mg base CX0 7 a.f_law_bare_of a.d_law_bare_of ["_law_befores", "_law_end"] (spBo a) := by
  refine T.F_law_bare_of.ok sc_law_bare_of (fun vs H Q E h => ?_) (fun cdv A outer s H vs Q E hr h => ?_)
  · obtain ⟨_, _, _, _, _, rfl, _⟩ := h
    rfl
  · obtain ⟨p, ls, f, n, e, rfl, ha, hl, hn, hw, k⟩ := h
    refine ⟨_, (pss_one (ps_ret (pe_make T.mk_Bare (ok_Bare_init T) (hr.mono (by decide)) rfl T.m_Bare T.b_Bare___init__ .nil passL (pa_cons (pe_lc (own := [("_law_row", 2)]) (g := gName 2) (tt := tYes) rfl sc_law_bare_of.nd (pi_list (pv 0)) (blkOk_by (own := [("_law_row", 2)]) (N := ["_law_befores", "_law_end", "_law_row"]) (sc := defScope s_law_bare_of) (by decide +kernel)) (fun _ _ _ _ _ => pg_name (i := 2) sc_law_bare_of.nd rfl (Or.inl rfl)) (fun _ _ _ _ _ => pts_nil) (fun _ _ _ _ _ => (pe_slice sl_list_b (pv 2) po_none po_none))) (pa_cons (pv 1) pa_nil))))), ?_⟩
    walk_at "sm"
    refine ⟨⟨_, SqL.of ha.1⟩, lcg_list (K := K) (a := p) (xs := ls.map V.ref) (ivBo H n f) (fun D hD => ⟨Evl.Ex.new hD, [], upd_same, .nil⟩) (fun D i HX hD hi h => SqL.of (h.1 _ _ ha.1)) ?_ ?_⟩
    · rintro D i x HX hD hi ⟨f1, xs, f2, f3⟩
      obtain ⟨d, hd, rfl⟩ : ∃ d, ls[i]? = some d ∧ x = .ref d := by
        rw [List.getElem?_map] at hi
        cases e : ls[i]? with
        | none => rw [e] at hi; cases hi
        | some c => rw [e] at hi; exact ⟨c, rfl, (Option.some.inj hi).symm⟩
      have li := (List.getElem?_eq_some_iff.mp hd).1
      have hdX := f1 _ _ (ha.2.2.2 i d hd)
      have gi : ((List.range n).map f)[i]? = some (f i) := get_rg (by omega)
      walk_at "sm"
      refine ⟨d, _, rfl, SqL.of hdX, fun q hq => ?_⟩
      rw [cutV_all]
      have eq := Evl.Ex.new (o := .lst ((nI (f i)).map V.int)) hq
      have qD : q ≠ D := fun z => by rw [z, f2] at hq; cases hq
      have lx := paired_len f3
      rw [List.length_take, List.length_map, List.length_range] at lx
      refine ⟨xs, eq _ _ f2, by rw [sizeLine_eq]; omega, (f1.trans eq).mut hD, _, upd_same, ?_⟩
      rw [List.take_add_one, gi]
      refine Paired.snoc ⟨q, rfl, qD, by rw [upd_ne qD]; exact upd_same⟩ (Paired.mapP f3 fun x b ⟨u, z1, z2, z3⟩ => ⟨u, z1, z2, by rw [upd_ne z2]; exact eq _ _ z3⟩)
    · rintro D HX hD ⟨f1, xs, f2, f3⟩
      rw [List.length_map, hl, List.take_of_length_le (by rw [List.length_map, List.length_range]; omega)] at f3
      intro x dx hx hdx ne
      exact bare_fin hw ⟨xs, .inr f2, Paired.mapP f3 fun x b ⟨u, z1, _, z3⟩ => ⟨u, z1, .inr z3⟩⟩ hx hdx ne fun H' e' hB => ⟨rfl, k x H' (f1.trans e') hB⟩
def spSm : Sp := fun vs H Q _ => ∃ (p c : Addr), vs = [.ref p] ∧ HandAt H p c ∧ ∀ v n bs e H', 1 ≤ n → n ≤ 7 → Fr p H H' → HandAt H' p c → LwAt H' v n bs e → WebOk bs e → Q v H'
theorem ok_law_small (T : Txt K mg a) : FnOk P w K mg base CX0 5 a.f_law_small a.d_law_small ["_law_hand_here"] spSm := by
  refine T.F_law_small.ok sc_law_small (fun vs H Q E h => ?_) (fun cdv A outer s H vs Q E hr h => ?_)
  · obtain ⟨_, _, rfl, _⟩ := h
    rfl
  · obtain ⟨p, c, rfl, ha, k⟩ := h
    refine ⟨_, (pss_cons (ps_set (i := 1) sc_law_small.nd rfl (by first | exact Or.inl rfl | exact Or.inr rfl) (pe_op op_add pe_int (pe_call (ok_law_take T) (hr.mono (by decide)) rfl T.m_law_take T.F_law_take.kp T.b_law_take .nil pass0 (pa_cons (pv 0) (pa_cons pe_int pa_nil)))))
  (pss_cons (ps_if (pt_cmpR op_eq (pe_call (ok_law_take T) (hr.mono (by decide)) rfl T.m_law_take T.F_law_take.kp T.b_law_take .nil pass0 (pa_cons (pv 0) (pa_cons pe_int pa_nil))) pe_int (nomark _)) (pss_one (ps_set (i := 1) sc_law_small.nd rfl (by first | exact Or.inl rfl | exact Or.inr rfl) pe_int))
    pss_nil)
  (pss_cons (ps_set (i := 2) sc_law_small.nd rfl (by first | exact Or.inl rfl | exact Or.inr rfl) (pe_op op_add pe_int (pe_call (ok_law_take T) (hr.mono (by decide)) rfl T.m_law_take T.F_law_take.kp T.b_law_take .nil pass0 (pa_cons (pv 0) (pa_cons pe_int pa_nil)))))
  (pss_one (ps_ret (pe_call (ok_law_bare T) (hr.mono (by decide)) rfl T.m_law_bare T.F_law_bare.kp T.b_law_bare .nil pass0 (pa_cons (pv 0) (pa_cons (pv 1) (pa_cons (pv 2) (pa_cons (pe_cmpR op_eq (pe_call (ok_law_take T) (hr.mono (by decide)) rfl T.m_law_take T.F_law_take.kp T.b_law_take .nil pass0 (pa_cons (pv 0) (pa_cons pe_int pa_nil))) pe_int (nomark _)) pa_nil)))))))))), ?_⟩
    walk_at "sm"
    refine ⟨p, c, 6, rfl, ha, by decide, by decide, fun r H1 r1 r2 f1 g1 => ⟨_, rfl, p, c, 16, rfl, g1, by decide, by decide, fun r3 H2 r4 r5 f2 g2 => ⟨rfl, ?_⟩⟩⟩
    obtain ⟨r, rfl⟩ : ∃ e : Nat, r = e := ⟨r.toNat, by omega⟩
    have fin : ∀ m : Nat, 1 ≤ m → m ≤ 7 → ∀ (R : V → Bool), spTake [V.ref p, V.int 3] H2 (fun y H2 => ∃ x, y = V.int x ∧ spTake [V.ref p, V.int 2] H2 (fun x_2 H1 => spBr [V.ref p, V.int (m : Nat), V.int (2 + x), V.bl (R x_2)] H1 Q E0) E0) E0 := fun m m1 m7 R => by
      refine ⟨p, c, 3, rfl, g2, by decide, by decide, fun u H3 u1 u2 f3 g3 => ⟨u, rfl, p, c, 2, rfl, g3, by decide, by decide, fun z H4 z1 z2 f4 g4 => ?_⟩⟩
      obtain ⟨u, rfl⟩ : ∃ e : Nat, u = e := ⟨u.toNat, by omega⟩
      exact ⟨p, c, m, 2 + u, R (.int z), by rw [show (2 : Int) + (u : Int) = ((2 + u : Nat) : Int) by omega], g4, m1, by omega, by omega, by omega, fun v bs e H5 f5 g5 l5 w5 => k v m bs e H5 m1 m7 ((((f1.trans f2).trans f3).trans f4).trans f5) g5 l5 w5⟩
    refine ite2 (fun _ => ?_) (fun _ => ?_)
    · exact spTake_imp (fin 7 (by decide) (by decide) fun x => decide (x = V.int 0)) fun y H3 ⟨x, e, h⟩ => ⟨x, e, spTake_imp h fun y2 H4 h => ⟨rfl, h⟩⟩
    · rw [show (1 : Int) + (r : Int) = ((1 + r : Nat) : Int) by omega]
      exact spTake_imp (fin (1 + r) (by omega) (by omega) fun x => decide (x = V.int 0)) fun y H3 ⟨x, e, h⟩ => ⟨x, e, spTake_imp h fun y2 H4 h => ⟨rfl, h⟩⟩
def spEg : Sp := fun vs H Q _ => ∃ (p c : Addr), vs = [.ref p] ∧ HandAt H p c ∧ ∀ v bs e H', Fr p H H' → HandAt H' p c → LwAt H' v 8 bs e → WebOk bs e → Q v H'
theorem ok_law_eight (T : Txt K mg a) : FnOk P w K mg base CX0 5 a.f_law_eight a.d_law_eight ["_law_hand_here"] spEg := by
  refine T.F_law_eight.ok sc_law_eight (fun vs H Q E h => ?_) (fun cdv A outer s H vs Q E hr h => ?_)
  · obtain ⟨_, _, rfl, _⟩ := h
    rfl
  · obtain ⟨p, c, rfl, ha, k⟩ := h
    refine ⟨_, (pss_cons (ps_if (pt_cmpR op_eq (pe_call (ok_law_take T) (hr.mono (by decide)) rfl T.m_law_take T.F_law_take.kp T.b_law_take .nil pass0 (pa_cons (pv 0) (pa_cons pe_int pa_nil))) pe_int (nomark _)) (pss_one (ps_ret (pe_call (ok_law_tree T) (hr.mono (by decide)) rfl T.m_law_tree T.F_law_tree.kp T.b_law_tree .nil pass0 (pa_cons (pv 0) (pa_cons pe_int (pa_cons (pe_cmpR op_eq (pe_call (ok_law_take T) (hr.mono (by decide)) rfl T.m_law_take T.F_law_take.kp T.b_law_take .nil pass0 (pa_cons (pv 0) (pa_cons pe_int pa_nil))) pe_int (nomark _)) pa_nil))))))
    pss_nil)
  (pss_one (ps_ret (pe_call (ok_law_bare T) (hr.mono (by decide)) rfl T.m_law_bare T.F_law_bare.kp T.b_law_bare .nil pass0 (pa_cons (pv 0) (pa_cons pe_int (pa_cons (pe_op op_add pe_int (pe_call (ok_law_take T) (hr.mono (by decide)) rfl T.m_law_take T.F_law_take.kp T.b_law_take .nil pass0 (pa_cons (pv 0) (pa_cons pe_int pa_nil)))) (pa_cons (pe_cmpR op_eq (pe_call (ok_law_take T) (hr.mono (by decide)) rfl T.m_law_take T.F_law_take.kp T.b_law_take .nil pass0 (pa_cons (pv 0) (pa_cons pe_int pa_nil))) pe_int (nomark _)) pa_nil)))))))), ?_⟩
    walk_at "sm"
    refine ⟨p, c, 2, rfl, ha, by decide, by decide, fun r H1 r1 r2 f1 g1 => ⟨rfl, ?_⟩⟩
    refine ite2 (fun _ => ?_) (fun _ => ?_)
    · refine ⟨p, c, 2, rfl, g1, by decide, by decide, fun z H2 z1 z2 f2 g2 => ⟨rfl, ?_⟩⟩
      exact ⟨p, c, 8, _, rfl, g2, by decide, by decide, fun v bs e H5 f5 g5 l5 w5 => k v bs e H5 ((f1.trans f2).trans f5) g5 l5 w5⟩
    · refine ⟨p, c, 3, rfl, g1, by decide, by decide, fun u H3 u1 u2 f3 g3 => ⟨u, rfl, p, c, 2, rfl, g3, by decide, by decide, fun z H4 z1 z2 f4 g4 => ⟨rfl, ?_⟩⟩⟩
      obtain ⟨u, rfl⟩ : ∃ e : Nat, u = e := ⟨u.toNat, by omega⟩
      exact ⟨p, c, 8, 2 + u, _, by rw [show (2 : Int) + (u : Int) = ((2 + u : Nat) : Int) by omega]; rfl, g4, by decide, by decide, by omega, by omega, fun v bs e H5 f5 g5 l5 w5 => k v bs e H5 (((f1.trans f3).trans f4).trans f5) g5 l5 w5⟩
def nnF (i : Nat) : List Nat := if i = 0 then [] else [i - 1]
def ivNn (H : Hp) (D : Addr) (i : Nat) (H' : Hp) : Prop := Evl.Ex H H' ∧ ∃ xs, H' D = some (.lst xs) ∧ Paired (fun x b => ∃ q, x = V.ref q ∧ q ≠ D ∧ H' q = some (.lst ((nI b).map V.int))) xs (((List.range 8).map fun k => [k]).take i)
def spNn (a : Ad) : Sp := fun vs H Q _ => vs = [] ∧ ∀ x bs H', Evl.Ex H H' → BareAt a.c_Bare H' x bs 8 → bs.length = 9 → WebOk bs 8 → Q (.ref x) H'
theorem ok_law_nine (T : Txt K mg a) : FnOk P w K mg base CX0 7 a.f_law_nine a.d_law_nine [] (spNn a) := by
  refine T.F_law_nine.ok sc_law_nine (fun vs H Q E h => ?_) (fun cdv A outer s H vs Q E hr h => ?_)
  · obtain ⟨rfl, _⟩ := h
    rfl
  · obtain ⟨rfl, k⟩ := h
    refine ⟨_, (pss_one (ps_ret (pe_make T.mk_Bare (ok_Bare_init T) (hr.mono (by decide)) rfl T.m_Bare T.b_Bare___init__ .nil passL (pa_cons (pe_op op_cat (pe_lst (pa_cons (pe_lst pa_nil) pa_nil)) (pe_lc (own := [("_law_k", 0)]) (g := gName 0) (tt := tYes) rfl sc_law_nine.nd (pi_range1 (by rfl) T.z_range (pa_cons pe_int pa_nil)) (blkOk_by (own := [("_law_k", 0)]) (N := ["_law_k"]) (sc := defScope s_law_nine) (by decide +kernel)) (fun _ _ _ _ _ => pg_name (i := 0) sc_law_nine.nd rfl (Or.inl rfl)) (fun _ _ _ _ _ => pts_nil) (fun _ _ _ _ _ => (pe_lst (pa_cons (pv 0) pa_nil))))) (pa_cons pe_int pa_nil))))), ?_⟩
    walk_at "sm"
    refine ⟨sz (by decide), fun p0 hp0 => ⟨sz (by decide), fun p1 hp1 => ⟨by decide, by decide, ?_⟩⟩⟩
    have e0 := Evl.Ex.new (o := .lst []) hp0
    have e1 := e0.trans (Evl.Ex.new (o := .lst [V.ref p0]) hp1)
    have q0 : upd (upd H p0 (.lst [])) p1 (.lst [V.ref p0]) p0 = some (.lst []) := Evl.Ex.new (o := .lst [V.ref p0]) hp1 _ _ upd_same
    have q1 : upd (upd H p0 (.lst [])) p1 (.lst [V.ref p0]) p1 = some (.lst [V.ref p0]) := upd_same
    generalize upd (upd H p0 (.lst [])) p1 (.lst [V.ref p0]) = H1 at e1 q0 q1 ⊢
    refine lcg_range (lo := 0) (n := (8 : Int).toNat) (ivNn H1) (fun D hD => ⟨Evl.Ex.new hD, [], upd_same, .nil⟩) ?_ ?_
    · rintro D i HX hD hi ⟨f1, xs, f2, f3⟩
      rw [show (0 : Int) + (i : Int) = ((i : Nat) : Int) by omega]
      have hi2 : i < 8 := hi
      walk_at "sm"
      refine ⟨sz (by decide), fun q hq => ?_⟩
      have eq := Evl.Ex.new (o := .lst [V.int (i : Nat)]) hq
      have qD : q ≠ D := fun z => by rw [z, f2] at hq; cases hq
      have lx := paired_len f3
      rw [List.length_take, List.length_map, List.length_range] at lx
      refine ⟨xs, eq _ _ f2, by rw [sizeLine_eq]; omega, (f1.trans eq).mut hD, _, upd_same, ?_⟩
      rw [List.take_add_one, List.getElem?_map, List.getElem?_range hi2]
      refine Paired.snoc ⟨q, rfl, qD, by rw [upd_ne qD]; exact upd_same⟩ (Paired.mapP f3 fun x b ⟨u, z1, z2, z3⟩ => ⟨u, z1, z2, by rw [upd_ne z2]; exact eq _ _ z3⟩)
    · rintro D HX hD ⟨f1, xs, f2, f3⟩
      have lx := paired_len f3
      rw [List.length_take, List.length_map, List.length_range] at lx
      refine ⟨p1, D, _, _, rfl, rfl, f1 _ _ q1, f2, by rw [sizeLine_eq]; show 1 + xs.length ≤ _; omega, fun p2 hp2 x dx hx hdx ne => ?_⟩
      have f4 := f1.trans (Evl.Ex.new (o := .lst ([V.ref p0] ++ xs)) hp2)
      have f5 := Evl.Ex.new (o := .lst ([V.ref p0] ++ xs)) hp2
      have g9 : (List.range 9).map nnF = [] :: ((List.range 8).map fun k => [k]).take (8 : Int).toNat := by decide
      have ar : ArrG (upd HX p2 (.lst ([V.ref p0] ++ xs))) p2 ((List.range 9).map nnF) := by
        rw [g9]
        exact ⟨_, .inr upd_same, .cons ⟨p0, rfl, .inr (f4 _ _ q0)⟩ (Paired.mapP f3 fun x b ⟨u, z1, _, z3⟩ => ⟨u, z1, .inr (f5 _ _ z3)⟩)⟩
      have wk := web_ok0 (n := 9) (f := nnF) (by decide) (by decide) ⟨fun i hi => by unfold nnF; split; exact .nil; exact List.pairwise_singleton .., fun i hi x hx => by unfold nnF at hx; split at hx; cases hx; rw [List.mem_singleton.mp hx]; omega, fun q hq => ⟨q + 1, hq, by unfold nnF; rw [if_neg (by omega)]; exact List.mem_singleton.mpr (by omega)⟩⟩
      exact bare_fin wk ar hx hdx ne fun H' e' hB => ⟨rfl, k x _ H' ((e1.trans f4).trans e') hB (by decide) wk⟩
def spIO : Sp := fun vs H Q _ => ∃ (p : Addr) (bs : List (List Nat)) (r b : Nat), vs = [.ref p, .int r, .int b] ∧ H p = some (.lst ((nI (bs.map msk)).map V.int)) ∧ bs.length ≤ 10 ∧ Q (.bl (ov bs r b)) H
def ivIO (p : Addr) (bs : List (List Nat)) (r b : Nat) (H : Hp) : Nat → L2.St → Hp → Prop := fun i σ H' => ∃ v, σ = [some (.ref p), some (.int r), some (.int b), v] ∧ H' = H ∧ ∀ q, q < i → (r.testBit q && (row bs q).all fun x => b.testBit x) = false
theorem ok_law_is_over (T : Txt K mg a) : FnOk P w K mg base CX0 2 a.f_law_is_over a.d_law_is_over ["_law_masks_here", "_law_reds", "_law_blues"] spIO := by
  refine T.F_law_is_over.ok sc_law_is_over (fun vs H Q E h => ?_) (fun cdv A outer s H vs Q E hr h => ?_)
  · obtain ⟨_, _, _, _, rfl, _⟩ := h
    rfl
  · obtain ⟨p, bs, r, b, rfl, hp, hl, k⟩ := h
    refine ⟨_, (pss_cons (ps_for PassesOwn.never rfl (pi_range1 (by rfl) T.z_range (pa_cons (pe_callB call_len_seq (by rfl) T.z_len (by decide +kernel) (pa_cons (pv 0) pa_nil)) pa_nil)) (pg_name (i := 3) sc_law_is_over.nd rfl (by first | exact Or.inl rfl | exact Or.inr rfl)) (pss_one (ps_if (PW.pt (pw_and (pt_val (pe_call (ok_law_held T) (hr.mono (by decide)) rfl T.m_law_held T.F_law_held.kp T.b_law_held .nil pass0 (pa_cons (pv 1) (pa_cons (pe_call (ok_law_two T) (hr.mono (by decide)) rfl T.m_law_two T.F_law_two.kp T.b_law_two .nil pass0 (pa_cons (pv 3) pa_nil)) pa_nil)))) (pw_and1 (pt_val (pe_call (ok_law_held T) (hr.mono (by decide)) rfl T.m_law_held T.F_law_held.kp T.b_law_held .nil pass0 (pa_cons (pv 2) (pa_cons (pe_ix ix_list (pv 0) (pv 3) (fun _ _ => rfl)) pa_nil))))))) (pss_one (ps_ret pe_bl))
    pss_nil)))
  (pss_one (ps_ret pe_bl))), ?_⟩
    walk_at "sm"
    have ll : ((nI (bs.map msk)).map V.int).length = bs.length := by rw [nI_len, List.length_map]
    refine ⟨_, rfl, p, rfl, _, .inl (SqL.of hp), _, rfl, by rw [ll]; omega, by rw [ll]; omega, for_range (lo := 0) (n := ((((nI (bs.map msk)).map V.int).length : Nat) : Int).toNat) (ivIO p bs r b H) ⟨none, rfl, rfl, fun q hq => absurd hq (Nat.not_lt_zero _)⟩ ?_ ?_⟩
    · rintro i σ HX hi ⟨v, rfl, rfl, ih⟩
      rw [show (0 : Int) + (i : Int) = ((i : Nat) : Int) by omega]
      have hi2 : i < bs.length := by omega
      walk_at "sm"
      have pw : (2 : Int) ^ i = ((2 ^ i : Nat) : Int) := by rw [Int.natCast_pow]; rfl
      refine ⟨i, rfl, by omega, r, 2 ^ i, by rw [pw], fun k1 h1 => ⟨_, rfl, ?_⟩⟩
      have e1 : k1 = r.testBit i := by
        rw [Bool.eq_iff_iff, h1]
        exact ⟨fun z => z i (by rw [bit_pow]; exact decide_eq_true rfl), fun z j hj => by rw [bit_pow, decide_eq_true_eq] at hj; rw [hj]; exact z⟩
      subst e1
      have nx : (r.testBit i && (row bs i).all fun x => b.testBit x) = false → ivIO p bs r b HX (i + 1) [some (.ref p), some (.int r), some (.int b), some (.int (i : Nat))] HX := fun h => ⟨_, rfl, rfl, fun q hq => by
        rcases Nat.lt_or_eq_of_le (Nat.le_of_lt_succ hq) with z | rfl
        · exact ih q z
        · exact h⟩
      cases c : r.testBit i with
      | false => exact iteF (nx (by rw [c]; rfl))
      | true =>
        refine iteT (ixl (SqL.of hp) (atI_nat (nI_get (by rw [List.getElem?_map, List.getElem?_eq_getElem hi2]; rfl))) ⟨b, msk bs[i], rfl, fun k2 h2 => ⟨_, rfl, ?_⟩⟩)
        have e2 : k2 = (row bs i).all fun x => b.testBit x := by
          rw [Bool.eq_iff_iff, h2, List.all_eq_true, row_of (List.getElem?_eq_getElem hi2)]
          exact ⟨fun z x hx => z x (by rw [msk_bit]; exact decide_eq_true hx), fun z j hj => z j (by rw [msk_bit, decide_eq_true_eq] at hj; exact hj)⟩
        subst e2
        cases d : (row bs i).all fun x => b.testBit x with
        | false => exact iteF (nx (by rw [c, d]; rfl))
        | true =>
          have : ov bs r b = true := List.any_eq_true.mpr ⟨i, List.mem_range.mpr hi2, by rw [c, d]; rfl⟩
          rw [this] at k
          exact iteT k
    · rintro σ HX ⟨v, rfl, rfl, ih⟩
      rw [ll, Int.toNat_natCast] at ih
      have : ov bs r b = false := by
        cases c : ov bs r b with
        | false => rfl
        | true =>
          obtain ⟨q, q1, q2⟩ := List.any_eq_true.mp c
          rw [ih q (List.mem_range.mp q1)] at q2
          cases q2
      rw [this] at k
      exact k
end


/-! ### the law's own table of paintings -/
theorem Mm.dat {H : Hp} {d : Addr} {g : Nat → Nat → Option Nat} (h : Mm H d g) : ∃ kvs, H d = some (.dT kvs) := let ⟨k, h1, _⟩ := h; ⟨k, h1⟩
def LfB (bs : List (List Nat)) (r b i : Nat) (m : Nat) : Prop := m ≤ bs.length + 1 ∧ (∀ p ∈ up bs r b, p < i → m ≤ 1 + wrs bs r b p) ∧ (m = bs.length + 1 ∨ ∃ p, p ∈ up bs r b ∧ m = 1 + wrs bs r b p)
theorem LfB.fin {bs : List (List Nat)} {r b m : Nat} (bo : BefOk bs) (ac : Acy bs) (hp : Pnt bs r b) (ho : ov bs r b = false) (h : LfB bs r b bs.length m) : m = nb bs r b := by
  obtain ⟨h1, h2, h3⟩ := h
  have ne := up_some bo ac hp ho
  have eq := nb_eq bs r b
  rw [ho, if_neg (by decide)] at eq
  obtain ⟨m1, m2⟩ := mnL_mem (l := (up bs r b).map (wrs bs r b)) (by simpa using ne)
  obtain ⟨q, hq, hq2⟩ := List.mem_map.mp m1
  have a1 := h2 q hq (up_mem.mp hq).1
  have le := nb_le bo ac _ r b (Nat.le_refl _) hp
  have ul := up_len bs r b
  rcases h3 with h3 | ⟨p, p1, p2⟩
  · omega
  · have := m2 _ (List.mem_map_of_mem (f := wrs bs r b) p1)
    omega
section
variable {P : Program} {w : World} {K : PySem.W.Frag} {mg : Str → Option Value} {base : Heap} {a : Ad}
def spLL (f : Nat) : Sp := fun vs H Q _ => ∃ (p : Addr) (bs : List (List Nat)) (r b : Nat) (d : Addr) (g : Nat → Nat → Option Nat), vs = [.ref p, .int r, .int b, .ref d] ∧ H p = some (.lst ((nI (bs.map msk)).map V.int)) ∧ BefOk bs ∧ Acy bs ∧ bs.length ≤ 8 ∧ Pnt bs r b ∧ (up bs r b).length < f ∧ Mm H d g ∧ GoodM bs 100 g ∧
  ∀ H' g', Fr d H H' → Mm H' d g' → GoodM bs 100 g' → Q (.int (nb bs r b)) H'
def mdLL (H : Hp) (bs : List (List Nat)) (p d t : Addr) (r b : Nat) : L2.St → Hp → Prop := fun σ H' => ∃ v6 v7 g', σ = [some (.ref p), some (.int r), some (.int b), some (.ref d), some (.ref t), some (.int (nb bs r b)), v6, v7] ∧ Fr d H H' ∧ Mm H' d g' ∧ GoodM bs 100 g' ∧ H' t = some (.tup [.int r, .int b])
def ivLL (H : Hp) (bs : List (List Nat)) (p d t : Addr) (r b : Nat) : Nat → L2.St → Hp → Prop := fun i σ H' => ∃ v6 v7 m g', σ = [some (.ref p), some (.int r), some (.int b), some (.ref d), some (.ref t), some (.int (m : Nat)), v6, v7] ∧ Fr d H H' ∧ Mm H' d g' ∧ GoodM bs 100 g' ∧ H' t = some (.tup [.int r, .int b]) ∧ LfB bs r b i m
theorem ok_ll (T : Txt K mg a) : ∀ f, FnOk P w K mg base CX0 (f + 3) a.f_law_left a.d_law_left ["_law_masks_here", "_law_reds", "_law_blues", "_law_kept"] (spLL f)
  | 0 => by
    refine T.F_law_left.ok sc_law_left (fun vs H Q E h => ?_) (fun cdv A outer s H vs Q E hr h => ?_)
    · obtain ⟨_, _, _, _, _, _, rfl, _⟩ := h
      rfl
    · obtain ⟨p, bs, r, b, d, g, rfl, hm, bo, ac, hl, hp, hf, hk, hg, k⟩ := h
      exact absurd hf (Nat.not_lt_zero _)
  | f + 1 => by
    have ok_law_left := fun (_ : Txt K mg a) => ok_ll T f
    refine T.F_law_left.ok sc_law_left (fun vs H Q E h => ?_) (fun cdv A outer s H vs Q E hr h => ?_)
    · obtain ⟨_, _, _, _, _, _, rfl, _⟩ := h
      rfl
    · obtain ⟨p, bs, r, b, d, g, rfl, hm, bo, ac, hl, hp, hf, hk, hg, k⟩ := h
      refine ⟨_, (pss_cons (ps_set (i := 4) sc_law_left.nd rfl (by first | exact Or.inl rfl | exact Or.inr rfl) (pe_tup (pa_cons (pv 1) (pa_cons (pv 2) pa_nil))))
  (pss_cons (ps_if (pt_cmp (pc_din (hu1 hr.units) (pv 4) (pv 3))) (pss_one (ps_ret (pe_dget (hu1 hr.units) (pv 3) (pv 4) (fun _ _ => rfl))))
    pss_nil)
  (pss_cons (ps_set (i := 5) sc_law_left.nd rfl (by first | exact Or.inl rfl | exact Or.inr rfl) pe_int)
  (Evl.pss_cut (ps_if (pt_not (pt_val (pe_call (ok_law_is_over T) (hr.mono (by omega)) rfl T.m_law_is_over T.F_law_is_over.kp T.b_law_is_over .nil pass0 (pa_cons (pv 0) (pa_cons (pv 1) (pa_cons (pv 2) pa_nil)))))) (pss_cons (ps_set (i := 5) sc_law_left.nd rfl (by first | exact Or.inl rfl | exact Or.inr rfl) (pe_op op_add (pe_callB call_len_seq (by rfl) T.z_len (by decide +kernel) (pa_cons (pv 0) pa_nil)) pe_int))
  (pss_one (ps_for PassesOwn.never rfl (pi_range1 (by rfl) T.z_range (pa_cons (pe_callB call_len_seq (by rfl) T.z_len (by decide +kernel) (pa_cons (pv 0) pa_nil)) pa_nil)) (pg_name (i := 6) sc_law_left.nd rfl (by first | exact Or.inl rfl | exact Or.inr rfl)) (pss_one (ps_if (pt_not (pt_val (pe_call (ok_law_held T) (hr.mono (by omega)) rfl T.m_law_held T.F_law_held.kp T.b_law_held .nil pass0 (pa_cons (pe_op op_orN (pv 1) (pv 2)) (pa_cons (pe_call (ok_law_two T) (hr.mono (by omega)) rfl T.m_law_two T.F_law_two.kp T.b_law_two .nil pass0 (pa_cons (pv 6) pa_nil)) pa_nil))))) (pss_cons (ps_set (i := 7) sc_law_left.nd rfl (by first | exact Or.inl rfl | exact Or.inr rfl) (pe_call (ok_law_left T) (hr.mono (by omega)) rfl T.m_law_left T.F_law_left.kp T.b_law_left .nil pass0 (pa_cons (pv 0) (pa_cons (pv 1) (pa_cons (pe_op op_add (pv 2) (pe_call (ok_law_two T) (hr.mono (by omega)) rfl T.m_law_two T.F_law_two.kp T.b_law_two .nil pass0 (pa_cons (pv 6) pa_nil))) (pa_cons (pv 3) pa_nil))))))
  (pss_one (ps_if (pt_cmpR op_lt (pe_op op_add (pv 7) pe_int) (pv 5) (nomark _)) (pss_one (ps_set (i := 5) sc_law_left.nd rfl (by first | exact Or.inl rfl | exact Or.inr rfl) (pe_callB (call_min2 rfl) (by rfl) T.z_min (by decide +kernel) (pa_cons (pv 5) (pa_cons (pe_op op_add pe_int (pe_callB (call_max2 rfl) (by rfl) T.z_max (by decide +kernel) (pa_cons (pv 7) (pa_cons (pe_call (ok_law_left T) (hr.mono (by omega)) rfl T.m_law_left T.F_law_left.kp T.b_law_left .nil pass0 (pa_cons (pv 0) (pa_cons (pe_op op_add (pv 1) (pe_call (ok_law_two T) (hr.mono (by omega)) rfl T.m_law_two T.F_law_two.kp T.b_law_two .nil pass0 (pa_cons (pv 6) pa_nil))) (pa_cons (pv 2) (pa_cons (pv 3) pa_nil))))) pa_nil)))) pa_nil)))))
    pss_nil)))
    pss_nil)))))
    pss_nil)
  (pss_cons (ps_asg (pv 5) (pg_sub (pv 3) (pv 4) (set_dict (hu1 hr.units)) (by intro _; rfl)))
  (pss_one (ps_ret (pv 5)))))))), ?_⟩
      walk_at "sm"
      have ll : ((nI (bs.map msk)).map V.int).length = bs.length := by rw [nI_len, List.length_map]
      obtain ⟨r8, b8⟩ := hp.lt hl
      refine ⟨sz (by decide), fun t ht => ?_⟩
      have e0 := Evl.Ex.new (o := .tup [.int (r : Nat), .int (b : Nat)]) ht
      have ht1 : upd H t (.tup [.int (r : Nat), .int (b : Nat)]) t = some (.tup [.int (r : Nat), .int (b : Nat)]) := upd_same
      have hk1 := hk.go e0
      have hm1 := e0 _ _ hm
      have f0 : Fr d H (upd H t (.tup [.int (r : Nat), .int (b : Nat)])) := Fr.of e0
      generalize upd H t (.tup [.int (r : Nat), .int (b : Nat)]) = H1 at e0 ht1 hk1 hm1 f0 ⊢
      refine ⟨_, rfl, _, rfl, d, _, rfl, hk1.dget ht1, ?_⟩
      have ul := up_len bs r b
      have pw : ∀ i : Nat, (2 : Int) ^ i = ((2 ^ i : Nat) : Int) := fun i => by rw [Int.natCast_pow]; rfl
      cases c : g r b with
      | some v =>
        refine ⟨_, rfl, iteT ⟨_, rfl, _, rfl, d, V.int (v : Nat), rfl, ?_, ?_⟩⟩
        · have := hk1.dget ht1
          rw [c] at this
          exact this
        · have := hg r b v c (by omega)
          subst this
          exact k H1 g f0 hk1 hg
      | none =>
        refine ⟨_, rfl, iteF ⟨mdLL H bs p d t r b, ?_, ?_⟩⟩
        · walk_at "sm"
          refine ⟨p, bs, r, b, rfl, hm1, by omega, _, rfl, ?_⟩
          cases o : ov bs r b with
          | true =>
            refine iteF ⟨none, none, g, ?_, f0, hk1, hg, ht1⟩
            rw [nb_zero.mpr o]
            rfl
          | false =>
            refine iteT ⟨_, .inl (SqL.of hm1), ?_⟩
            rw [ll]
            refine ⟨_, rfl, p, rfl, _, .inl (SqL.of hm1), _, rfl, by rw [ll]; omega, by rw [ll]; omega, for_range (lo := 0) (n := ((((nI (bs.map msk)).map V.int).length : Nat) : Int).toNat) (ivLL H bs p d t r b) ⟨none, none, bs.length + 1, g, by rfl, f0, hk1, hg, ht1, Nat.le_refl _, fun q _ hq => absurd hq (Nat.not_lt_zero _), .inl rfl⟩ ?_ ?_⟩
            · rintro i σ HX hi ⟨v6, v7, m, g', rfl, q1, q2, q3, q4, q5, q6, q7⟩
              rw [show (0 : Int) + (i : Int) = ((i : Nat) : Int) by omega]
              have hi2 : i < bs.length := by omega
              have hmX : HX p = some (.lst ((nI (bs.map msk)).map V.int)) := (hk.kd q1).lst hm
              walk_at "sm"
              refine ⟨r, rfl, b, rfl, i, rfl, by omega, r ||| b, 2 ^ i, by rw [pw], fun k1 h1 => ⟨_, rfl, ?_⟩⟩
              have e1 : k1 = (r ||| b).testBit i := by
                rw [Bool.eq_iff_iff, h1]
                exact ⟨fun z => z i (by rw [bit_pow]; exact decide_eq_true rfl), fun z j hj => by rw [bit_pow, decide_eq_true_eq] at hj; rw [hj]; exact z⟩
              subst e1
              cases cb : (r ||| b).testBit i with
              | true =>
                refine iteF ⟨_, _, m, g', rfl, q1, q2, q3, q4, q5, fun x hx hxi => ?_, q7⟩
                rcases Nat.lt_or_eq_of_le (Nat.le_of_lt_succ hxi) with z | rfl
                · exact q6 x hx z
                · obtain ⟨_, u2, u3⟩ := up_mem.mp hx
                  rw [Nat.testBit_or, u2, u3] at cb
                  cases cb
              | false =>
                rw [Nat.testBit_or, Bool.or_eq_false_iff] at cb
                have pm : i ∈ up bs r b := up_mem.mpr ⟨hi2, cb.1, cb.2⟩
                have ur := up_red pm
                have ub := up_blue pm
                refine iteT ⟨i, rfl, by omega, _, rfl, p, bs, r, b ||| 2 ^ i, d, g', by rw [or_add i b cb.2, pw, Int.natCast_add], hmX, bo, ac, hl, hp.addB pm, by omega, q2, q3, fun H4 g4 f4 m4 gd4 => ⟨_, rfl, ?_⟩⟩
                have kd4 := q2.kd f4
                have q4' := kd4.tup q4
                have hmX4 := kd4.lst hmX
                have nx : ∀ (m' : Nat) (g5 : Nat → Nat → Option Nat) (HY : Hp) (v7 : Option V), m' = min m (1 + wrs bs r b i) → Fr d H HY → Mm HY d g5 → GoodM bs 100 g5 → HY t = some (.tup [.int r, .int b]) → ivLL H bs p d t r b (i + 1) [some (.ref p), some (.int r), some (.int b), some (.ref d), some (.ref t), some (.int (m' : Nat)), some (.int (i : Nat)), v7] HY := fun m' g5 HY v7 hm' w1 w2 w3 w4 => by
                  refine ⟨_, _, m', g5, rfl, w1, w2, w3, w4, by omega, fun x hx hxi => ?_, ?_⟩
                  · rcases Nat.lt_or_eq_of_le (Nat.le_of_lt_succ hxi) with z | rfl
                    · have := q6 x hx z
                      omega
                    · omega
                  · rcases Nat.le_total m (1 + wrs bs r b i) with z | z
                    · rw [hm', Nat.min_eq_left z]
                      exact q7
                    · rw [hm', Nat.min_eq_right z]
                      exact .inr ⟨i, pm, rfl⟩
                have wd : wrs bs r b i = max (nb bs (r ||| 2 ^ i) b) (nb bs r (b ||| 2 ^ i)) := rfl
                by_cases cm : nb bs r (b ||| 2 ^ i) + 1 < m
                · refine iteP (by omega) ⟨i, rfl, by omega, _, rfl, p, bs, r ||| 2 ^ i, b, d, g4, by rw [or_add i r cb.1, pw, Int.natCast_add], hmX4, bo, ac, hl, hp.addR pm, by omega, m4, gd4, fun H5 g5 f5 m5 gd5 => ⟨_, rfl, _, rfl, ?_⟩⟩
                  have val : (if (1 + if ((nb bs (r ||| 2 ^ i) b : Nat) : Int) > ((nb bs r (b ||| 2 ^ i) : Nat) : Int) then ((nb bs (r ||| 2 ^ i) b : Nat) : Int) else ((nb bs r (b ||| 2 ^ i) : Nat) : Int)) < (m : Int) then 1 + (if ((nb bs (r ||| 2 ^ i) b : Nat) : Int) > ((nb bs r (b ||| 2 ^ i) : Nat) : Int) then ((nb bs (r ||| 2 ^ i) b : Nat) : Int) else ((nb bs r (b ||| 2 ^ i) : Nat) : Int)) else (m : Int)) = ((min m (1 + wrs bs r b i) : Nat) : Int) := by
                    rw [wd]
                    split <;> split <;> omega
                  rw [val]
                  exact nx _ g5 H5 _ rfl ((q1.trans f4).trans f5) m5 gd5 ((m4.kd f5).tup q4')
                · refine iteN (by omega) ?_
                  exact nx m g4 H4 _ (by omega) (q1.trans f4) m4 gd4 q4'
            · rintro σ HX ⟨v6, v7, m, g', rfl, q1, q2, q3, q4, q5⟩
              rw [ll, Int.toNat_natCast] at q5
              obtain rfl := q5.fin bo ac hp o
              exact ⟨_, _, g', rfl, q1, q2, q3, q4⟩
        · rintro σ HX ⟨v6, v7, g', rfl, q1, q2, q3, q4⟩
          walk_at "sm"
          obtain ⟨H5, pu, f5, m5⟩ := q2.put (nb bs r b) q4 r8 b8
          refine ⟨d, H5, rfl, pu, k H5 _ (q1.trans f5) m5 fun r' b' v h1 h2 => ?_⟩
          unfold upM at h1
          split at h1
          · next z =>
            rw [z.1, z.2]
            exact (Option.some.inj h1).symm
          · exact q3 r' b' v h1 h2
end


/-! ### plans drawn -/
mutual
def no4 : PyData → Bool
  | .list ds => ds.length != 4 && no4s ds
  | .tuple ds => no4s ds
  | _ => true
def no4s : List PyData → Bool
  | [] => true
  | d :: ds => no4 d && no4s ds
end
theorem hand_ne {H : Hp} {p c b : Addr} {xs : List V} (hh : HandAt H p c) (h : H b = some (.lst xs)) (n : xs.length ≠ 4) : b ≠ p := fun z => by
  obtain ⟨cells, i, g, t, hp, _⟩ := hh
  rw [z, hp] at h
  have := HO.lst.inj (Option.some.inj h)
  exact n (by rw [← this]; rfl)
theorem hand_tup {H : Hp} {p c b : Addr} {xs : List V} (hh : HandAt H p c) (h : H b = some (.tup xs)) : b ≠ p := fun z => by
  obtain ⟨cells, i, g, t, hp, _⟩ := hh
  rw [z, hp] at h
  cases h
mutual
theorem Ac.fr {H H' : Hp} {p c : Addr} (f : Fr p H H') (hh : HandAt H p c) : ∀ (d : PyData) (v : V), no4 d = true → Ac H v d → Ac H' v d
  | .none, _, _, h => by cases h; exact .non
  | .bool b, _, _, h => by cases h; exact .bl b
  | .int i, _, _, h => by cases h; exact .int i
  | .str x, _, _, h => by cases h; exact .str x
  | .tuple ds, _, n, h => by cases h with
    | tup h1 h2 => exact .tup (f _ _ (hand_tup hh h1) h1) (AcAll.fr f hh ds _ n h2)
  | .list ds, _, n, h => by
    have n' : (ds.length != 4 && no4s ds) = true := n
    rw [Bool.and_eq_true, bne_iff_ne] at n'
    cases h with
    | lst h1 h2 => exact .lst (f _ _ (hand_ne hh h1 (by rw [h2.len]; exact n'.1)) h1) (AcAll.fr f hh ds _ n'.2 h2)
  | .dict _, _, _, h => nomatch h
theorem AcAll.fr {H H' : Hp} {p c : Addr} (f : Fr p H H') (hh : HandAt H p c) : ∀ (ds : List PyData) (vs : List V), no4s ds = true → AcAll H vs ds → AcAll H' vs ds
  | [], _, _, h => by cases h; exact .nil
  | d :: ds, _, n, h => by
    have n' : (no4 d && no4s ds) = true := n
    rw [Bool.and_eq_true] at n'
    cases h with
    | cons h1 h2 => exact .cons (Ac.fr f hh d _ n'.1 h1) (AcAll.fr f hh ds _ n'.2 h2)
end
theorem PlAt.fr {H H' : Hp} {p c : Addr} {v : V} {pl : Pl} (f : Fr p H H') (hh : HandAt H p c) (n : no4 pl.D = true) (h : PlAt H v pl) : PlAt H' v pl := ⟨Ac.fr f hh _ _ n h.at_, h.ok, h.lay, h.dep⟩
theorem node_no4 {p : Int} {x y : Pl} : no4 (Pl.node p x y).D = (no4 x.D && no4 y.D) := by
  show (true && (no4 x.D && (no4 y.D && true))) = _
  rw [Bool.true_and, Bool.and_true]
theorem good_no4 : ∀ {x : Pl}, x.good = true → no4 x.D = true
  | .leaf, _ => rfl
  | .node p x y, h => by
    have h' : (x.good && y.good) = true := h
    rw [Bool.and_eq_true] at h'
    rw [node_no4, good_no4 h'.1, good_no4 h'.2]
    rfl
  | .bad _, h => by cases h
theorem good_dep : ∀ {x : Pl}, x.good = true → x.D.depth ≤ x.hgt + 1
  | .leaf, _ => by show 0 + 1 ≤ 0 + 1; omega
  | .node p x y, h => by
    have h' : (x.good && y.good) = true := h
    rw [Bool.and_eq_true] at h'
    have h1 := good_dep h'.1
    have h2 := good_dep h'.2
    rw [node_dep]
    show max x.D.depth y.D.depth + 1 ≤ (1 + max x.hgt y.hgt) + 1
    omega
  | .bad _, h => by cases h
theorem npl_good {bs : List (List Nat)} : ∀ (n r b : Nat), (npl bs n r b).good = true ∧ (npl bs n r b).hgt ≤ n
  | 0, _, _ => ⟨rfl, Nat.le_refl _⟩
  | n + 1, r, b => by
    unfold npl
    split
    · exact ⟨rfl, Nat.zero_le _⟩
    · have h1 := npl_good (bs := bs) n (r ||| 2 ^ ((up bs r b).find? fun p => decide (wrs bs r b p < nb bs r b)).getD 0) b
      have h2 := npl_good (bs := bs) n r (b ||| 2 ^ ((up bs r b).find? fun p => decide (wrs bs r b p < nb bs r b)).getD 0)
      refine ⟨?_, ?_⟩
      · show (_ && _) = true
        rw [h1.1, h2.1]
        rfl
      · show 1 + max _ _ ≤ _
        omega
theorem len3 {x y z : V} : ¬ (([x, y, z].length : Nat) : Int) = 0 := by
  show ¬ ((3 : Nat) : Int) = 0
  omega
section
variable {P : Program} {w : World} {K : PySem.W.Frag} {mg : Str → Option Value} {base : Heap} {a : Ad}
def spDp (f : Nat) : Sp := fun vs H Q _ => ∃ (v : V) (p : Pl), vs = [v] ∧ PlAt H v p ∧ p.good = true ∧ p.hgt < f ∧ Q (.int (p.dep : Nat)) H
theorem ok_dp (T : Txt K mg a) : ∀ f, FnOk P w K mg base CX0 (f + 1) a.f_law_depth a.d_law_depth ["_law_plan"] (spDp f)
  | 0 => by
    refine T.F_law_depth.ok sc_law_depth (fun vs H Q E h => ?_) (fun cdv A outer s H vs Q E hr h => ?_)
    · obtain ⟨_, _, rfl, _⟩ := h
      rfl
    · obtain ⟨v, p, rfl, h1, h2, h3, k⟩ := h
      exact absurd h3 (Nat.not_lt_zero _)
  | f + 1 => by
    have ok_law_depth := fun (_ : Txt K mg a) => ok_dp T f
    refine T.F_law_depth.ok sc_law_depth (fun vs H Q E h => ?_) (fun cdv A outer s H vs Q E hr h => ?_)
    · obtain ⟨_, _, rfl, _⟩ := h
      rfl
    · obtain ⟨v, p, rfl, h1, h2, h3, k⟩ := h
      refine ⟨_, (pss_cons (ps_if (pt_cmpR op_eq (pe_callB call_len_seq (by rfl) T.z_len (by decide +kernel) (pa_cons (pv 0) pa_nil)) pe_int (nomark _)) (pss_one (ps_ret pe_int))
    pss_nil)
  (pss_one (ps_ret (pe_op op_add pe_int (pe_callB (call_max2 rfl) (by rfl) T.z_max (by decide +kernel) (pa_cons (pe_call (ok_law_depth T) (hr.mono (by omega)) rfl T.m_law_depth T.F_law_depth.kp T.b_law_depth .nil pass0 (pa_cons (pe_ix ix_tup (pv 0) pe_int (fun _ _ => rfl)) pa_nil)) (pa_cons (pe_call (ok_law_depth T) (hr.mono (by omega)) rfl T.m_law_depth T.F_law_depth.kp T.b_law_depth .nil pass0 (pa_cons (pe_ix ix_tup (pv 0) pe_int (fun _ _ => rfl)) pa_nil)) pa_nil))))))), ?_⟩
      walk_at "sm"
      cases p with
      | leaf =>
        obtain ⟨t, rfl, ht⟩ := h1.leaf
        exact ⟨t, rfl, _, .inr (SqT.of ht), iteP rfl k⟩
      | bad d => cases h2
      | node q p1 p2 =>
        obtain ⟨t, u1, u2, rfl, ht, q1, q2⟩ := h1.node
        have h2' : (p1.good && p2.good) = true := h2
        rw [Bool.and_eq_true] at h2'
        have h3' : 1 + max p1.hgt p2.hgt < f + 1 := h3
        refine ⟨t, rfl, _, .inr (SqT.of ht), iteN len3 (ix1 ht ⟨u1, p1, rfl, q1, h2'.1, by omega, ixt ht (atI_nat (j := 2) rfl) ⟨u2, p2, rfl, q2, h2'.2, by omega, _, rfl, _, rfl, ?_⟩⟩)⟩
        have eq : (((Pl.node q p1 p2).dep : Nat) : Int) = 1 + if ((p2.dep : Nat) : Int) > ((p1.dep : Nat) : Int) then ((p2.dep : Nat) : Int) else ((p1.dep : Nat) : Int) := by
          show ((1 + max p1.dep p2.dep : Nat) : Int) = _
          split <;> omega
        rw [eq] at k
        exact k
def spNW (f : Nat) : Sp := fun vs H Q _ => ∃ (p : Addr) (bs : List (List Nat)) (v : V) (pl : Pl) (r b : Nat), vs = [.ref p, v, .int r, .int b] ∧ H p = some (.lst ((nI (bs.map msk)).map V.int)) ∧ bs.length ≤ 8 ∧ PlAt H v pl ∧ pl.hgt < f ∧ ∀ H', Evl.Ex H H' → Q (match pl.nw bs r b with | none => .non | some w => .str w) H'
theorem ok_nw (T : Txt K mg a) : ∀ f, FnOk P w K mg base CX0 (f + 3) a.f_law_naming_word a.d_law_naming_word ["_law_masks_here", "_law_plan", "_law_reds", "_law_blues"] (spNW f)
  | 0 => by
    refine T.F_law_naming_word.ok sc_law_naming_word (fun vs H Q E h => ?_) (fun cdv A outer s H vs Q E hr h => ?_)
    · obtain ⟨_, _, _, _, _, _, rfl, _⟩ := h
      rfl
    · obtain ⟨p, bs, v, pl, r, b, rfl, hm, hl, hp, hf, k⟩ := h
      exact absurd hf (Nat.not_lt_zero _)
  | f + 1 => by
    have ok_law_naming_word := fun (_ : Txt K mg a) => ok_nw T f
    refine T.F_law_naming_word.ok sc_law_naming_word (fun vs H Q E h => ?_) (fun cdv A outer s H vs Q E hr h => ?_)
    · obtain ⟨_, _, _, _, _, _, rfl, _⟩ := h
      rfl
    · obtain ⟨p, bs, v, pl, r, b, rfl, hm, hl, hp, hf, k⟩ := h
      refine ⟨_, (pss_cons (ps_if (PW.pt (pw_or (pt_not (pt_val (pe_callB call_isi (by rfl) T.z_isinstance (by decide +kernel) (pa_cons (pv 1) (pa_cons (pe_bltn (v := .ty "tuple") (by rfl) T.z_tuple (by decide +kernel) rfl) pa_nil))))) (pw_or1 (pt_cmpR op_notIn_seq (pe_callB call_len_seq (by rfl) T.z_len (by decide +kernel) (pa_cons (pv 1) pa_nil)) (pe_lst (pa_cons pe_int (pa_cons pe_int pa_nil))) (by rfl))))) (pss_one (ps_ret pe_str))
    pss_nil)
  (pss_cons (ps_if (pt_val (pe_call (ok_law_is_over T) (hr.mono (by omega)) rfl T.m_law_is_over T.F_law_is_over.kp T.b_law_is_over .nil pass0 (pa_cons (pv 0) (pa_cons (pv 2) (pa_cons (pv 3) pa_nil))))) (pss_one (ps_ret (pe_ifExp (pt_cmpR op_eq (pe_callB call_len_seq (by rfl) T.z_len (by decide +kernel) (pa_cons (pv 1) pa_nil)) pe_int (nomark _)) pe_non pe_str)))
    pss_nil)
  (pss_cons (ps_if (pt_cmpR op_eq (pe_callB call_len_seq (by rfl) T.z_len (by decide +kernel) (pa_cons (pv 1) pa_nil)) pe_int (nomark _)) (pss_one (ps_ret pe_str))
    pss_nil)
  (pss_cons (ps_if (PW.pt (pw_or (pt_not (pt_val (pe_call (ok_law_whole T) (hr.mono (by omega)) rfl T.m_law_whole T.F_law_whole.kp T.b_law_whole .nil pass0 (pa_cons (pe_ix ix_tup (pv 1) pe_int (fun _ _ => rfl)) pa_nil)))) (pw_or (pt_cmpR op_lt (pe_ix ix_tup (pv 1) pe_int (fun _ _ => rfl)) pe_int (nomark _)) (pw_or (pt_cmpR op_ge (pe_ix ix_tup (pv 1) pe_int (fun _ _ => rfl)) (pe_callB call_len_seq (by rfl) T.z_len (by decide +kernel) (pa_cons (pv 0) pa_nil)) (nomark _)) (pw_or1 (pt_val (pe_call (ok_law_held T) (hr.mono (by omega)) rfl T.m_law_held T.F_law_held.kp T.b_law_held .nil pass0 (pa_cons (pe_op op_orN (pv 2) (pv 3)) (pa_cons (pe_call (ok_law_two T) (hr.mono (by omega)) rfl T.m_law_two T.F_law_two.kp T.b_law_two .nil pass0 (pa_cons (pe_ix ix_tup (pv 1) pe_int (fun _ _ => rfl)) pa_nil)) pa_nil))))))))) (pss_one (ps_ret pe_str))
    pss_nil)
  (pss_cons (ps_set (i := 4) sc_law_naming_word.nd rfl (by first | exact Or.inl rfl | exact Or.inr rfl) (pe_call (ok_law_naming_word T) (hr.mono (by omega)) rfl T.m_law_naming_word T.F_law_naming_word.kp T.b_law_naming_word .nil pass0 (pa_cons (pv 0) (pa_cons (pe_ix ix_tup (pv 1) pe_int (fun _ _ => rfl)) (pa_cons (pe_op op_add (pv 2) (pe_call (ok_law_two T) (hr.mono (by omega)) rfl T.m_law_two T.F_law_two.kp T.b_law_two .nil pass0 (pa_cons (pe_ix ix_tup (pv 1) pe_int (fun _ _ => rfl)) pa_nil))) (pa_cons (pv 3) pa_nil))))))
  (pss_cons (ps_if (pt_cmpR op_notN (pv 4) pe_non (nomark _)) (pss_one (ps_ret (pv 4)))
    pss_nil)
  (pss_one (ps_ret (pe_call (ok_law_naming_word T) (hr.mono (by omega)) rfl T.m_law_naming_word T.F_law_naming_word.kp T.b_law_naming_word .nil pass0 (pa_cons (pv 0) (pa_cons (pe_ix ix_tup (pv 1) pe_int (fun _ _ => rfl)) (pa_cons (pv 2) (pa_cons (pe_op op_add (pv 3) (pe_call (ok_law_two T) (hr.mono (by omega)) rfl T.m_law_two T.F_law_two.kp T.b_law_two .nil pass0 (pa_cons (pe_ix ix_tup (pv 1) pe_int (fun _ _ => rfl)) pa_nil))) pa_nil))))))))))))), ?_⟩
      walk_at "sm"
      refine hp.at_.isi ⟨_, rfl, ?_⟩
      have io : ∀ H', Evl.Ex H H' → ∀ (R : VK) (E' : XK), R (.bl (ov bs r b)) H' → spIO [.ref p, .int (r : Nat), .int (b : Nat)] H' R E' := fun H' e R E' h => ⟨p, bs, r, b, rfl, e _ _ hm, by omega, h⟩
      cases pl with
      | bad d =>
        obtain ⟨hA, hb⟩ := hp.bad
        cases d with
        | tuple ds =>
          cases hA with
          | tup ht al =>
            have len := al.len
            have hb' : (ds.length != 0 && ds.length != 3) = true := hb
            rw [Bool.and_eq_true, bne_iff_ne, bne_iff_ne] at hb'
            refine iteF ⟨_, rfl, _, .inr (SqT.of ht), sz (by decide), fun p0 hp0 => ⟨p0, _, rfl, .inl (SqL.of upd_same), rfl, rfl, _, rfl, ?_⟩⟩
            rw [if_pos rfl, in03, len, decide_eq_false hb'.1, decide_eq_false hb'.2]
            exact iteT (k _ (Evl.Ex.new hp0))
        | _ => exact iteT (k _ (Evl.Ex.refl _))
      | leaf =>
        obtain ⟨t, rfl, ht⟩ := hp.leaf
        refine iteF ⟨_, rfl, _, .inr (SqT.of ht), sz (by decide), fun p0 hp0 => ⟨p0, _, rfl, .inl (SqL.of upd_same), rfl, rfl, _, rfl, ?_⟩⟩
        rw [if_pos rfl, in03, List.length_nil, decide_eq_true rfl]
        have e0 := Evl.Ex.new (o := .lst [.int 0, .int 3]) hp0
        have kk := k _ e0
        have eq : Pl.nw bs .leaf r b = (if ov bs r b = true then none else some ("early" : Str) : Option Str) := rfl
        rw [eq] at kk
        refine iteF (io _ e0 _ _ ⟨_, rfl, ?_⟩)
        cases o : ov bs r b with
        | true =>
          rw [o] at kk
          exact iteT ⟨t, rfl, _, .inr (SqT.of (e0 _ _ ht)), iteP rfl kk⟩
        | false =>
          rw [o] at kk
          exact iteF ⟨t, rfl, _, .inr (SqT.of (e0 _ _ ht)), iteP rfl kk⟩
      | node q p1 p2 =>
        obtain ⟨t, u1, u2, rfl, ht, q1, q2⟩ := hp.node
        have hf' : 1 + max p1.hgt p2.hgt < f + 1 := hf
        have nwq : Pl.nw bs (.node q p1 p2) r b = (if ov bs r b = true then some ("idle" : Str) else if ¬ (0 ≤ q ∧ q < bs.length) ∨ (r ||| b).testBit q.toNat = true then some ("place" : Str) else match p1.nw bs (r ||| 2 ^ q.toNat) b with
          | some w => some w
          | none => p2.nw bs r (b ||| 2 ^ q.toNat) : Option Str) := rfl
        refine iteF ⟨_, rfl, _, .inr (SqT.of ht), sz (by decide), fun p0 hp0 => ⟨p0, _, rfl, .inl (SqL.of upd_same), rfl, rfl, _, rfl, ?_⟩⟩
        rw [if_pos rfl, in03, List.length_cons, List.length_cons, List.length_cons, List.length_nil, decide_eq_true rfl, Bool.or_true]
        have e0 := Evl.Ex.new (o := .lst [.int 0, .int 3]) hp0
        generalize upd H p0 (.lst [.int 0, .int 3]) = H1 at e0 ⊢
        have ht1 := e0 _ _ ht
        have kk := k _ e0
        rw [nwq] at kk
        refine iteF (io _ e0 _ _ ⟨_, rfl, ?_⟩)
        cases o : ov bs r b with
        | true =>
          rw [o, if_pos rfl] at kk
          exact iteT ⟨t, rfl, _, .inr (SqT.of ht1), iteN len3 kk⟩
        | false =>
          rw [o, if_neg (by decide)] at kk nwq
          refine iteF ⟨t, rfl, _, .inr (SqT.of ht1), iteN len3 (ix0 ht1 ⟨.int q, rfl, plain_int, true, rfl, iteF (ix0 ht1 ⟨q, rfl, ?_⟩)⟩)⟩
          have lm : ((nI (bs.map msk)).map V.int).length = bs.length := by rw [nI_len, List.length_map]
          have hm1 := e0 _ _ hm
          by_cases c0 : q < 0
          · rw [if_pos (.inl fun z => by omega)] at kk
            exact iteP c0 kk
          · refine iteN c0 (ix0 ht1 ⟨_, .inl (SqL.of hm1), q, rfl, ?_⟩)
            rw [lm]
            by_cases c1 : (bs.length : Int) ≤ q
            · rw [if_pos (.inl fun z => by omega)] at kk
              exact iteP c1 kk
            · obtain ⟨n, rfl⟩ : ∃ n : Nat, q = n := ⟨q.toNat, by omega⟩
              rw [Int.toNat_natCast] at kk nwq
              have pw : (2 : Int) ^ n = ((2 ^ n : Nat) : Int) := by rw [Int.natCast_pow]; rfl
              refine iteN c1 ⟨r, rfl, b, rfl, ix0 ht1 ⟨n, rfl, by omega, r ||| b, 2 ^ n, by rw [pw], fun k1 h1 => ⟨_, rfl, ?_⟩⟩⟩
              have e1 : k1 = (r ||| b).testBit n := by
                rw [Bool.eq_iff_iff, h1]
                exact ⟨fun z => z n (by rw [bit_pow]; exact decide_eq_true rfl), fun z j hj => by rw [bit_pow, decide_eq_true_eq] at hj; rw [hj]; exact z⟩
              subst e1
              cases cb : (r ||| b).testBit n with
              | true =>
                rw [if_pos (.inr cb)] at kk
                exact iteT kk
              | false =>
                have nn : ¬ (¬ ((0 : Int) ≤ (n : Int) ∧ (n : Int) < bs.length) ∨ (r ||| b).testBit n = true) := fun z => z.elim (fun y => y ⟨by omega, by omega⟩) fun y => by rw [cb] at y; cases y
                rw [if_neg nn] at nwq
                have cb' := cb
                rw [Nat.testBit_or, Bool.or_eq_false_iff] at cb'
                refine iteF (ix1 ht1 (ix0 ht1 ⟨n, rfl, by omega, _, rfl, p, bs, u1, p1, r ||| 2 ^ n, b, by rw [or_add n r cb'.1, pw, Int.natCast_add], hm1, hl, q1.go e0, by omega, fun H4 e4 => ?_⟩))
                have e4' := e0.trans e4
                cases m : p1.nw bs (r ||| 2 ^ n) b with
                | some w =>
                  have kk := k H4 e4'
                  rw [nwq, m] at kk
                  exact iteT kk
                | none =>
                  refine iteF (ixt (e4 _ _ ht1) (atI_nat (j := 2) rfl) (ix0 (e4 _ _ ht1) ⟨n, rfl, by omega, _, rfl, p, bs, u2, p2, r, b ||| 2 ^ n, by rw [or_add n b cb'.2, pw, Int.natCast_add], e4 _ _ hm1, hl, q2.go e4', by omega, fun H6 e6 => ?_⟩))
                  have kk := k H6 (e4'.trans e6)
                  rw [nwq, m] at kk
                  exact kk
end


/-! ### plans by draw, the told plan -/
theorem find_up {bs : List (List Nat)} {r b i : Nat} {c : Nat → Bool} (hi : i ∈ up bs r b) (h1 : c i = true) (h2 : ∀ q ∈ up bs r b, q < i → c q = false) : (up bs r b).find? c = some i := by
  cases e : (up bs r b).find? c with
  | none =>
    have := List.find?_eq_none.mp e i hi
    exact absurd h1 this
  | some q =>
    obtain ⟨hc, as, cs, he, hn⟩ := List.find?_eq_some_iff_append.mp e
    have qm : q ∈ up bs r b := List.mem_of_find?_eq_some e
    have ge : ¬ q < i := fun z => by rw [h2 q qm z] at hc; cases hc
    have asc : (up bs r b).Pairwise (· < ·) := List.Pairwise.filter _ (range_lt _)
    have im : i ∈ as ++ q :: cs := by rw [← he]; exact hi
    rcases List.mem_append.mp im with z | z
    · have := hn i z
      rw [h1] at this
      cases this
    · rcases List.mem_cons.mp z with z | z
      · rw [z]
      · rw [he] at asc
        have := (List.pairwise_cons.mp (List.pairwise_append.mp asc).2.1).1 i z
        omega
section
variable {P : Program} {w : World} {K : PySem.W.Frag} {mg : Str → Option Value} {base : Heap} {a : Ad}
theorem ok_law_left (T : Txt K mg a) : FnOk P w K mg base CX0 12 a.f_law_left a.d_law_left ["_law_masks_here", "_law_reds", "_law_blues", "_law_kept"] (spLL 9) := ok_ll T 9
theorem ok_law_depth (T : Txt K mg a) : FnOk P w K mg base CX0 21 a.f_law_depth a.d_law_depth ["_law_plan"] (spDp 20) := ok_dp T 20
theorem ok_law_naming_word (T : Txt K mg a) : FnOk P w K mg base CX0 23 a.f_law_naming_word a.d_law_naming_word ["_law_masks_here", "_law_plan", "_law_reds", "_law_blues"] (spNW 20) := ok_nw T 20
def spTN (f : Nat) : Sp := fun vs H Q _ => ∃ (p : Addr) (bs : List (List Nat)) (r b : Nat) (d : Addr) (g : Nat → Nat → Option Nat), vs = [.ref p, .int r, .int b, .ref d] ∧ H p = some (.lst ((nI (bs.map msk)).map V.int)) ∧ BefOk bs ∧ Acy bs ∧ bs.length ≤ 8 ∧ Pnt bs r b ∧ (up bs r b).length < f ∧ Mm H d g ∧ GoodM bs 100 g ∧
  ∀ H' g' v, Fr d H H' → Mm H' d g' → GoodM bs 100 g' → PlAt H' v (npl bs (up bs r b).length r b) → Q v H'
def ivTN (H : Hp) (bs : List (List Nat)) (p d : Addr) (r b : Nat) : Nat → L2.St → Hp → Prop := fun i σ H' => ∃ v5 v6 g', σ = [some (.ref p), some (.int r), some (.int b), some (.ref d), some (.int (nb bs r b)), v5, v6] ∧ Fr d H H' ∧ Mm H' d g' ∧ GoodM bs 100 g' ∧ ∀ q ∈ up bs r b, q < i → ¬ wrs bs r b q < nb bs r b
theorem ok_tn (T : Txt K mg a) : ∀ f, FnOk P w K mg base CX0 (f + 13) a.f_law_told_naming a.d_law_told_naming ["_law_masks_here", "_law_reds", "_law_blues", "_law_kept"] (spTN f)
  | 0 => by
    refine T.F_law_told_naming.ok sc_law_told_naming (fun vs H Q E h => ?_) (fun cdv A outer s H vs Q E hr h => ?_)
    · obtain ⟨_, _, _, _, _, _, rfl, _⟩ := h
      rfl
    · obtain ⟨p, bs, r, b, d, g, rfl, hm, bo, ac, hl, hp, hf, hk, hg, k⟩ := h
      exact absurd hf (Nat.not_lt_zero _)
  | f + 1 => by
    have ok_law_told_naming := fun (_ : Txt K mg a) => ok_tn T f
    refine T.F_law_told_naming.ok sc_law_told_naming (fun vs H Q E h => ?_) (fun cdv A outer s H vs Q E hr h => ?_)
    · obtain ⟨_, _, _, _, _, _, rfl, _⟩ := h
      rfl
    · obtain ⟨p, bs, r, b, d, g, rfl, hm, bo, ac, hl, hp, hf, hk, hg, k⟩ := h
      refine ⟨_, (pss_cons (ps_set (i := 4) sc_law_told_naming.nd rfl (by first | exact Or.inl rfl | exact Or.inr rfl) (pe_call (ok_law_left T) (hr.mono (by omega)) rfl T.m_law_left T.F_law_left.kp T.b_law_left .nil pass0 (pa_cons (pv 0) (pa_cons (pv 1) (pa_cons (pv 2) (pa_cons (pv 3) pa_nil))))))
  (pss_cons (ps_if (pt_cmpR op_eq (pv 4) pe_int (nomark _)) (pss_one (ps_ret (pe_tup pa_nil)))
    pss_nil)
  (pss_cons (ps_for PassesOwn.never rfl (pi_range1 (by rfl) T.z_range (pa_cons (pe_callB call_len_seq (by rfl) T.z_len (by decide +kernel) (pa_cons (pv 0) pa_nil)) pa_nil)) (pg_name (i := 5) sc_law_told_naming.nd rfl (by first | exact Or.inl rfl | exact Or.inr rfl)) (pss_cons (ps_set (i := 6) sc_law_told_naming.nd rfl (by first | exact Or.inl rfl | exact Or.inr rfl) (pe_call (ok_law_two T) (hr.mono (by omega)) rfl T.m_law_two T.F_law_two.kp T.b_law_two .nil pass0 (pa_cons (pv 5) pa_nil)))
  (pss_one (ps_if (pt_not (pt_val (pe_call (ok_law_held T) (hr.mono (by omega)) rfl T.m_law_held T.F_law_held.kp T.b_law_held .nil pass0 (pa_cons (pe_op op_orN (pv 1) (pv 2)) (pa_cons (pv 6) pa_nil))))) (pss_one (ps_if (PW.pt (pw_and (pt_cmpR op_lt (pe_call (ok_law_left T) (hr.mono (by omega)) rfl T.m_law_left T.F_law_left.kp T.b_law_left .nil pass0 (pa_cons (pv 0) (pa_cons (pe_op op_add (pv 1) (pv 6)) (pa_cons (pv 2) (pa_cons (pv 3) pa_nil))))) (pv 4) (nomark _)) (pw_and1 (pt_cmpR op_lt (pe_call (ok_law_left T) (hr.mono (by omega)) rfl T.m_law_left T.F_law_left.kp T.b_law_left .nil pass0 (pa_cons (pv 0) (pa_cons (pv 1) (pa_cons (pe_op op_add (pv 2) (pv 6)) (pa_cons (pv 3) pa_nil))))) (pv 4) (nomark _))))) (pss_one (ps_ret (pe_tup (pa_cons (pv 5) (pa_cons (pe_call (ok_law_told_naming T) (hr.mono (by omega)) rfl T.m_law_told_naming T.F_law_told_naming.kp T.b_law_told_naming .nil pass0 (pa_cons (pv 0) (pa_cons (pe_op op_add (pv 1) (pv 6)) (pa_cons (pv 2) (pa_cons (pv 3) pa_nil))))) (pa_cons (pe_call (ok_law_told_naming T) (hr.mono (by omega)) rfl T.m_law_told_naming T.F_law_told_naming.kp T.b_law_told_naming .nil pass0 (pa_cons (pv 0) (pa_cons (pv 1) (pa_cons (pe_op op_add (pv 2) (pv 6)) (pa_cons (pv 3) pa_nil))))) pa_nil))))))
    pss_nil))
    pss_nil))))
  (pss_one (ps_ret (pe_tup pa_nil)))))), ?_⟩
      walk_at "sm"
      refine ⟨p, bs, r, b, d, g, rfl, hm, bo, ac, hl, hp, by have := up_len bs r b; omega, hk, hg, fun H1 g1 f1 m1 gd1 => ⟨rfl, ?_⟩⟩
      have ll : ((nI (bs.map msk)).map V.int).length = bs.length := by rw [nI_len, List.length_map]
      have ul := up_len bs r b
      have pw : ∀ i : Nat, (2 : Int) ^ i = ((2 ^ i : Nat) : Int) := fun i => by rw [Int.natCast_pow]; rfl
      by_cases nz : nb bs r b = 0
      · refine iteP (by rw [nz]; rfl) ⟨sz (by decide), fun p0 hp0 => ?_⟩
        refine k _ g1 _ (f1.trans (Fr.of (Evl.Ex.new hp0))) (m1.upd (m1.ne hp0)) gd1 ?_
        have : npl bs (up bs r b).length r b = .leaf := by
          cases (up bs r b).length with
          | zero => rfl
          | succ n =>
            unfold npl
            rw [if_pos nz]
        rw [this]
        exact PlAt.mk_leaf upd_same
      · have ho : ov bs r b = false := by
          cases o : ov bs r b with
          | false => rfl
          | true => exact absurd (nb_zero.mpr o) nz
        have hmS : ∀ HX, Fr d H HX → HX p = some (.lst ((nI (bs.map msk)).map V.int)) := fun HX q1 => (hk.kd q1).lst hm
        have hm1 := hmS H1 f1
        refine iteN (fun z => nz (by have := V.int.inj z; omega)) ⟨_, rfl, p, rfl, _, .inl (SqL.of hm1), _, rfl, by rw [ll]; omega, by rw [ll]; omega, for_range (lo := 0) (n := ((((nI (bs.map msk)).map V.int).length : Nat) : Int).toNat) (ivTN H bs p d r b) ⟨none, none, g1, rfl, f1, m1, gd1, fun q _ hq => absurd hq (Nat.not_lt_zero _)⟩ ?_ ?_⟩
        · rintro i σ HX hi ⟨v5, v6, g', rfl, q1, q2, q3, q4⟩
          rw [show (0 : Int) + (i : Int) = ((i : Nat) : Int) by omega]
          have hi2 : i < bs.length := by omega
          have hmX := hmS HX q1
          walk_at "sm"
          have skip : ∀ (g5 : Nat → Nat → Option Nat) (HY : Hp) (v5 v6 : Option V), Fr d H HY → Mm HY d g5 → GoodM bs 100 g5 → (i ∈ up bs r b → ¬ wrs bs r b i < nb bs r b) → ivTN H bs p d r b (i + 1) [some (.ref p), some (.int r), some (.int b), some (.ref d), some (.int (nb bs r b)), v5, v6] HY := fun g5 HY v5 v6 w1 w2 w3 w4 => ⟨_, _, g5, rfl, w1, w2, w3, fun x hx hxi => by
            rcases Nat.lt_or_eq_of_le (Nat.le_of_lt_succ hxi) with z | rfl
            · exact q4 x hx z
            · exact w4 hx⟩
          refine ⟨i, rfl, by omega, r, rfl, b, rfl, r ||| b, 2 ^ i, by rw [pw], fun k1 h1 => ⟨_, rfl, ?_⟩⟩
          have e1 : k1 = (r ||| b).testBit i := by
            rw [Bool.eq_iff_iff, h1]
            exact ⟨fun z => z i (by rw [bit_pow]; exact decide_eq_true rfl), fun z j hj => by rw [bit_pow, decide_eq_true_eq] at hj; rw [hj]; exact z⟩
          subst e1
          cases cb : (r ||| b).testBit i with
          | true =>
            refine iteF (skip g' HX _ _ q1 q2 q3 fun hx => ?_)
            obtain ⟨_, u2, u3⟩ := up_mem.mp hx
            rw [Nat.testBit_or, u2, u3] at cb
            cases cb
          | false =>
            rw [Nat.testBit_or, Bool.or_eq_false_iff] at cb
            have pm : i ∈ up bs r b := up_mem.mpr ⟨hi2, cb.1, cb.2⟩
            have ur := up_red pm
            have ub := up_blue pm
            have wd : wrs bs r b i = max (nb bs (r ||| 2 ^ i) b) (nb bs r (b ||| 2 ^ i)) := rfl
            have er : V.int ((r : Int) + 2 ^ i) = V.int ((r ||| 2 ^ i : Nat) : Int) := by rw [or_add i r cb.1, pw, Int.natCast_add]
            have eb : V.int ((b : Int) + 2 ^ i) = V.int ((b ||| 2 ^ i : Nat) : Int) := by rw [or_add i b cb.2, pw, Int.natCast_add]
            refine iteT ⟨_, rfl, p, bs, r ||| 2 ^ i, b, d, g', by rw [er], hmX, bo, ac, hl, hp.addR pm, by omega, q2, q3, fun H4 g4 f4 m4 gd4 => ⟨_, rfl, ?_⟩⟩
            have f4' := q1.trans f4
            by_cases c1 : nb bs (r ||| 2 ^ i) b < nb bs r b
            · refine iteP (by omega) ⟨_, rfl, p, bs, r, b ||| 2 ^ i, d, g4, by rw [eb], hmS _ f4', bo, ac, hl, hp.addB pm, by omega, m4, gd4, fun H5 g5 f5 m5 gd5 => ⟨_, rfl, ?_⟩⟩
              have f5' := f4'.trans f5
              by_cases c2 : nb bs r (b ||| 2 ^ i) < nb bs r b
              · refine iteP (by omega) ⟨_, rfl, p, bs, r ||| 2 ^ i, b, d, g5, by rw [er], hmS _ f5', bo, ac, hl, hp.addR pm, by omega, m5, gd5, fun H6 g6 v6 f6 m6 gd6 pl6 => ?_⟩
                have f6' := f5'.trans f6
                refine ⟨_, rfl, p, bs, r, b ||| 2 ^ i, d, g6, by rw [eb], hmS _ f6', bo, ac, hl, hp.addB pm, by omega, m6, gd6, fun H7 g7 v7 f7 m7 gd7 pl7 => ⟨sz (by decide), fun p8 hp8 => ?_⟩⟩
                have fu : (up bs r b).find? (fun p => decide (wrs bs r b p < nb bs r b)) = some i := find_up pm (decide_eq_true (by omega)) fun q hq hqi => decide_eq_false (q4 q hq hqi)
                have eq : npl bs (up bs r b).length r b = .node (i : Nat) (npl bs (up bs (r ||| 2 ^ i) b).length (r ||| 2 ^ i) b) (npl bs (up bs r (b ||| 2 ^ i)).length r (b ||| 2 ^ i)) := by
                  obtain ⟨n, hn⟩ : ∃ n, (up bs r b).length = n + 1 := ⟨(up bs r b).length - 1, by omega⟩
                  rw [hn, show (up bs (r ||| 2 ^ i) b).length = n by omega, show (up bs r (b ||| 2 ^ i)).length = n by omega]
                  show (if nb bs r b = 0 then Pl.leaf else _) = _
                  rw [if_neg nz, fu]
                  rfl
                refine k _ g7 _ ((f6'.trans f7).trans (Fr.of (Evl.Ex.new hp8))) (m7.upd (m7.ne hp8)) gd7 ?_
                have dd := npl_depth (bs := bs) (up bs r b).length r b
                rw [eq] at dd ⊢
                exact PlAt.mk_node upd_same ((pl6.kd (m6.kd f7)).go (Evl.Ex.new hp8)) (pl7.go (Evl.Ex.new hp8)) (by omega)
              · exact iteN (by omega) (skip g5 H5 _ _ f5' m5 gd5 fun _ => by omega)
            · exact iteN (by omega) (skip g4 H4 _ _ f4' m4 gd4 fun _ => by omega)
        · rintro σ HX ⟨v5, v6, g', rfl, q1, q2, q3, q4⟩
          obtain ⟨q, hq1, hq2, hq3⟩ := help_one bo ac hp nz
          have := (up_mem.mp hq2).1
          exact absurd (show wrs bs r b q < nb bs r b by omega) (q4 q hq2 (by rw [ll]; omega))
def spAN (f : Nat) : Sp := fun vs H Q _ => ∃ (h c p : Addr) (bs : List (List Nat)) (r b : Nat), vs = [.ref h, .ref p, .int r, .int b] ∧ HandAt H h c ∧ p ≠ h ∧ H p = some (.lst ((nI (bs.map msk)).map V.int)) ∧ BefOk bs ∧ Acy bs ∧ bs.length ≤ 8 ∧ Pnt bs r b ∧ (up bs r b).length < f ∧
  ∀ H' v pl, Fr h H H' → HandAt H' h c → PlAt H' v pl → pl.good = true → pl.nw bs r b = none → pl.hgt ≤ (up bs r b).length → Q v H'
def ivAN (H : Hp) (bs : List (List Nat)) (r b : Nat) (D : Addr) (i : Nat) (H' : Hp) : Prop := Evl.Ex H H' ∧ H' D = some (.lst ((nI ((List.range i).filter fun p => !(r ||| b).testBit p)).map V.int))
theorem ok_an (T : Txt K mg a) : ∀ f, FnOk P w K mg base CX0 (f + 3) a.f_law_any_naming a.d_law_any_naming ["_law_hand_here", "_law_masks_here", "_law_reds", "_law_blues"] (spAN f)
  | 0 => by
    refine T.F_law_any_naming.ok sc_law_any_naming (fun vs H Q E h => ?_) (fun cdv A outer s H vs Q E hr h => ?_)
    · obtain ⟨_, _, _, _, _, _, rfl, _⟩ := h
      rfl
    · obtain ⟨h0, c, p, bs, r, b, rfl, ha, hne, hm, bo, ac, hl, hp, hf, k⟩ := h
      exact absurd hf (Nat.not_lt_zero _)
  | f + 1 => by
    have ok_law_any_naming := fun (_ : Txt K mg a) => ok_an T f
    refine T.F_law_any_naming.ok sc_law_any_naming (fun vs H Q E h => ?_) (fun cdv A outer s H vs Q E hr h => ?_)
    · obtain ⟨_, _, _, _, _, _, rfl, _⟩ := h
      rfl
    · obtain ⟨h0, c, p, bs, r, b, rfl, ha, hne, hm, bo, ac, hl, hp, hf, k⟩ := h
      refine ⟨_, (pss_cons (ps_if (pt_val (pe_call (ok_law_is_over T) (hr.mono (by omega)) rfl T.m_law_is_over T.F_law_is_over.kp T.b_law_is_over .nil pass0 (pa_cons (pv 1) (pa_cons (pv 2) (pa_cons (pv 3) pa_nil))))) (pss_one (ps_ret (pe_tup pa_nil)))
    pss_nil)
  (pss_cons (ps_setLc (i := 4) (own := [("_law_place", 5)]) (g := gName 5)  rfl sc_law_any_naming.nd rfl rfl (sw_true rfl rfl rfl (by decide +kernel)) (pi_range1 (by rfl) T.z_range (pa_cons (pe_callB call_len_seq (by rfl) T.z_len (by decide +kernel) (pa_cons (pv 1) pa_nil)) pa_nil)) (blkOk_by (own := [("_law_place", 5)]) (N := ["_law_hand_here", "_law_masks_here", "_law_reds", "_law_blues", "_law_free", "_law_place", "_law_red"]) (sc := defScope s_law_any_naming) (by decide +kernel)) (fun _ _ _ _ _ => pg_name (i := 5) sc_law_any_naming.nd rfl (Or.inl rfl)) (fun _ _ _ _ _ => (pts_one (pt_not (pt_val (pe_call (ok_law_held T) (hr.mono (by omega)) rfl T.m_law_held T.F_law_held.kp T.b_law_held .nil pass0 (pa_cons (pe_op op_orN (pv 2) (pv 3)) (pa_cons (pe_call (ok_law_two T) (hr.mono (by omega)) rfl T.m_law_two T.F_law_two.kp T.b_law_two .nil pass0 (pa_cons (pv 5) pa_nil)) pa_nil))))))) (fun _ _ _ _ _ => (pv 5)))
  (pss_cons (ps_set (i := 5) sc_law_any_naming.nd rfl (by first | exact Or.inl rfl | exact Or.inr rfl) (pe_ix ix_list (pv 4) (pe_call (ok_law_take T) (hr.mono (by omega)) rfl T.m_law_take T.F_law_take.kp T.b_law_take .nil pass0 (pa_cons (pv 0) (pa_cons (pe_callB call_len_seq (by rfl) T.z_len (by decide +kernel) (pa_cons (pv 4) pa_nil)) pa_nil))) (fun _ _ => rfl)))
  (pss_cons (ps_set (i := 6) sc_law_any_naming.nd rfl (by first | exact Or.inl rfl | exact Or.inr rfl) (pe_call (ok_law_any_naming T) (hr.mono (by omega)) rfl T.m_law_any_naming T.F_law_any_naming.kp T.b_law_any_naming .nil pass0 (pa_cons (pv 0) (pa_cons (pv 1) (pa_cons (pe_op op_add (pv 2) (pe_call (ok_law_two T) (hr.mono (by omega)) rfl T.m_law_two T.F_law_two.kp T.b_law_two .nil pass0 (pa_cons (pv 5) pa_nil))) (pa_cons (pv 3) pa_nil))))))
  (pss_one (ps_ret (pe_tup (pa_cons (pv 5) (pa_cons (pv 6) (pa_cons (pe_call (ok_law_any_naming T) (hr.mono (by omega)) rfl T.m_law_any_naming T.F_law_any_naming.kp T.b_law_any_naming .nil pass0 (pa_cons (pv 0) (pa_cons (pv 1) (pa_cons (pv 2) (pa_cons (pe_op op_add (pv 3) (pe_call (ok_law_two T) (hr.mono (by omega)) rfl T.m_law_two T.F_law_two.kp T.b_law_two .nil pass0 (pa_cons (pv 5) pa_nil))) pa_nil))))) pa_nil)))))))))), ?_⟩
      walk_at "sm"
      refine ⟨p, bs, r, b, rfl, hm, by omega, _, rfl, ?_⟩
      have ll : ((nI (bs.map msk)).map V.int).length = bs.length := by rw [nI_len, List.length_map]
      have ul := up_len bs r b
      have pw : ∀ i : Nat, (2 : Int) ^ i = ((2 ^ i : Nat) : Int) := fun i => by rw [Int.natCast_pow]; rfl
      cases o : ov bs r b with
      | true =>
        refine iteT ⟨sz (by decide), fun q hq => ?_⟩
        obtain ⟨g1, g2, g3⟩ := hand_new (o := .tup []) (Fr.refl H) ha hq
        exact k _ _ .leaf g1 g2 (PlAt.mk_leaf upd_same) rfl (by show (if ov bs r b = true then none else _) = none; rw [if_pos o]) (Nat.zero_le _)
      | false =>
        refine iteF ⟨_, .inl (SqL.of hm), by rw [ll]; omega, by rw [ll]; omega, lcg_range (lo := 0) (n := ((((nI (bs.map msk)).map V.int).length : Nat) : Int).toNat) (ivAN H bs r b) (fun D hD => ⟨Evl.Ex.new hD, upd_same⟩) ?_ ?_⟩
        · rintro D i HX hD hi ⟨f1, f2⟩
          rw [show (0 : Int) + (i : Int) = ((i : Nat) : Int) by omega]
          have hi2 : i < bs.length := by omega
          walk_at "sm"
          refine ⟨r, rfl, b, rfl, i, rfl, by omega, r ||| b, 2 ^ i, by rw [pw], fun k1 h1 => ⟨_, rfl, ?_⟩⟩
          have e1 : k1 = (r ||| b).testBit i := by
            rw [Bool.eq_iff_iff, h1]
            exact ⟨fun z => z i (by rw [bit_pow]; exact decide_eq_true rfl), fun z j hj => by rw [bit_pow, decide_eq_true_eq] at hj; rw [hj]; exact z⟩
          subst e1
          have li : ((List.range i).filter fun p => !(r ||| b).testBit p).length ≤ i := Nat.le_trans (List.length_filter_le _ _) (Nat.le_of_eq (List.length_range ..))
          have rs : (List.range (i + 1)).filter (fun p => !(r ||| b).testBit p) = (List.range i).filter (fun p => !(r ||| b).testBit p) ++ if (r ||| b).testBit i = true then [] else [i] := by
            rw [List.range_succ, List.filter_append, List.filter_cons, List.filter_nil]
            cases (r ||| b).testBit i <;> rfl
          cases cb : (r ||| b).testBit i with
          | true =>
            rw [cb, if_pos rfl, List.append_nil] at rs
            refine iteF ⟨f1, ?_⟩
            rw [rs]
            exact f2
          | false =>
            rw [cb, if_neg (by decide)] at rs
            refine iteT ⟨_, f2, Nat.lt_of_le_of_lt (show _ ≤ 200 by rw [nI_len]; omega) (by decide), f1.mut hD, ?_⟩
            rw [upd_same, rs, nI_snoc]
        · rintro D HX hD ⟨f1, f2⟩
          rw [ll, Int.toNat_natCast] at f2
          have f2' : HX D = some (.lst ((nI (up bs r b)).map V.int)) := f2
          have ha1 := ha.go f1
          have ne := up_some bo ac hp o
          have lp := List.length_pos_iff.mpr ne
          have hne1 : D ≠ h0 := fun z => by
            obtain ⟨ys, hy⟩ := hand_lst ha
            rw [z, hy] at hD
            cases hD
          refine ⟨D, rfl, _, .inl (SqL.of f2'), h0, c, _, rfl, ha1, by rw [nI_len]; omega, by rw [nI_len]; omega, fun q H2 z1 z2 f3 g3 => ?_⟩
          rw [nI_len] at z2
          obtain ⟨q, rfl⟩ : ∃ e : Nat, q = e := ⟨q.toNat, by omega⟩
          have ql : q < (up bs r b).length := by omega
          obtain ⟨i, hi⟩ : ∃ i, (up bs r b)[q]? = some i := ⟨_, List.getElem?_eq_getElem ql⟩
          have pm : i ∈ up bs r b := List.mem_of_getElem? hi
          obtain ⟨i1, i2, i3⟩ := up_mem.mp pm
          have ur := up_red pm
          have ub := up_blue pm
          have hm2 : H2 p = some (.lst ((nI (bs.map msk)).map V.int)) := f3 _ _ hne (f1 _ _ hm)
          refine ixl (SqL.of (f3 _ _ hne1 f2')) (atI_nat (nI_get hi)) ⟨i, rfl, by omega, _, rfl, h0, c, p, bs, r ||| 2 ^ i, b, by rw [or_add i r i2, pw, Int.natCast_add], g3, hne, hm2, bo, ac, hl, hp.addR pm, by omega, fun H3 v3 p3 f4 g4 pl4 gd4 nw4 hg4 => ?_⟩
          refine ⟨i, rfl, by omega, _, rfl, h0, c, p, bs, r, b ||| 2 ^ i, by rw [or_add i b i3, pw, Int.natCast_add], g4, hne, f4 _ _ hne hm2, bo, ac, hl, hp.addB pm, by omega, fun H5 v5 p5 f5 g5 pl5 gd5 nw5 hg5 => ?_⟩
          refine ⟨sz (by decide), fun u hu => ?_⟩
          obtain ⟨w1, w2, w3⟩ := hand_new (o := .tup [V.int (i : Nat), v3, v5]) (((Fr.of (p := h0) f1).trans f3).trans (f4.trans f5)) g5 hu
          have eu := Evl.Ex.new (o := .tup [V.int (i : Nat), v3, v5]) hu
          have pl4' := (pl4.fr f5 g4 (good_no4 gd4)).go eu
          have gd : (Pl.node i p3 p5).good = true := by show (_ && _) = true; rw [gd4, gd5]; rfl
          have hg : (Pl.node i p3 p5).hgt ≤ (up bs r b).length := by show 1 + max _ _ ≤ _; omega
          have dd := good_dep gd
          refine k _ _ (.node i p3 p5) w1 w2 (PlAt.mk_node upd_same pl4' (pl5.go eu) (by omega)) gd ?_ hg
          show (if ov bs r b = true then _ else if ¬ (0 ≤ (i : Int) ∧ (i : Int) < bs.length) ∨ (r ||| b).testBit (i : Int).toNat = true then _ else match Pl.nw bs p3 (r ||| 2 ^ (i : Int).toNat) b with
            | some w => some w
            | none => Pl.nw bs p5 r (b ||| 2 ^ (i : Int).toNat)) = none
          rw [o, if_neg (by decide), Int.toNat_natCast, if_neg, nw4]
          · exact nw5
          · rintro (q | q)
            · exact q ⟨by omega, by omega⟩
            · rw [Nat.testBit_or, i2, i3] at q
              cases q
end


/-! ### plans spoilt -/
section
variable {P : Program} {w : World} {K : PySem.W.Frag} {mg : Str → Option Value} {base : Heap} {a : Ad}
theorem ok_law_told_naming (T : Txt K mg a) : FnOk P w K mg base CX0 22 a.f_law_told_naming a.d_law_told_naming ["_law_masks_here", "_law_reds", "_law_blues", "_law_kept"] (spTN 9) := ok_tn T 9
theorem ok_law_any_naming (T : Txt K mg a) : FnOk P w K mg base CX0 12 a.f_law_any_naming a.d_law_any_naming ["_law_hand_here", "_law_masks_here", "_law_reds", "_law_blues"] (spAN 9) := ok_an T 9
def SpR (h c : Addr) (H : Hp) (n : Nat) (v : V) (H' : Hp) : Prop := Fr h H H' ∧ HandAt H' h c ∧ ∃ pl, PlAt H' v pl ∧ no4 pl.D = true ∧ pl.hgt ≤ n + 1 ∧ pl.D.depth ≤ n + 3
def spSp (f : Nat) : Sp := fun vs H Q _ => ∃ (h c : Addr) (v : V) (m : Nat) (pl : Pl), vs = [.ref h, v, .int m, .bl true] ∧ HandAt H h c ∧ 1 ≤ m ∧ m ≤ 10 ∧ PlAt H v pl ∧ pl.good = true ∧ pl.hgt < f ∧ pl.hgt ≤ 20 ∧ ∀ H' v', SpR h c H pl.hgt v' H' → Q v' H'
theorem sp_tup {H HY : Hp} {h c : Addr} {n : Nat} {u v : V} {x y : Pl} {Q : VK} (i : Int) (k : ∀ H' v', SpR h c H n v' H' → Q v' H') (f : Fr h H HY) (g : HandAt HY h c) (hx : PlAt HY u x) (nx : no4 x.D = true) (hy : PlAt HY v y) (ny : no4 y.D = true) (hh : max x.hgt y.hgt ≤ n) (hd : max x.D.depth y.D.depth ≤ n + 2) (h20 : n ≤ 20) :
    0 + 1 + 1 + 1 ≤ sizeLine ∧ ∀ (p : Addr), HY p = none → Q (V.ref p) (upd HY p (HO.tup [.int i, u, v])) := by
  refine ⟨sz (by decide), fun p hp => ?_⟩
  obtain ⟨g1, g2, g3⟩ := hand_new (o := HO.tup [.int i, u, v]) f g hp
  have e := Evl.Ex.new (o := HO.tup [.int i, u, v]) hp
  exact k _ _ ⟨g1, g2, .node i x y, PlAt.mk_node upd_same (hx.go e) (hy.go e) (by rw [node_dep]; omega), by rw [node_no4, nx, ny]; rfl, by show 1 + max _ _ ≤ _; omega, by rw [node_dep]; omega⟩
theorem ok_sp (T : Txt K mg a) : ∀ f, FnOk P w K mg base CX0 (f + 3) a.f_law_spoiled a.d_law_spoiled ["_law_hand_here", "_law_plan", "_law_many", "_law_forms"] (spSp f)
  | 0 => by
    refine T.F_law_spoiled.ok sc_law_spoiled (fun vs H Q E h => ?_) (fun cdv A outer s H vs Q E hr h => ?_)
    · obtain ⟨_, _, _, _, _, rfl, _⟩ := h
      rfl
    · obtain ⟨h0, c, v, m, pl, rfl, ha, m1, m10, hp, hgd, hf, h20, k⟩ := h
      exact absurd hf (Nat.not_lt_zero _)
  | f + 1 => by
    have ok_law_spoiled := fun (_ : Txt K mg a) => ok_sp T f
    refine T.F_law_spoiled.ok sc_law_spoiled (fun vs H Q E h => ?_) (fun cdv A outer s H vs Q E hr h => ?_)
    · obtain ⟨_, _, _, _, _, rfl, _⟩ := h
      rfl
    · obtain ⟨h0, c, v, m, pl, rfl, ha, m1, m10, hp, hgd, hf, h20, k⟩ := h
      refine ⟨_, (pss_cons (ps_if (pt_cmpR op_eq (pe_callB call_len_seq (by rfl) T.z_len (by decide +kernel) (pa_cons (pv 1) pa_nil)) pe_int (nomark _)) (pss_one (ps_ret (pe_tup (pa_cons (pe_call (ok_law_take T) (hr.mono (by omega)) rfl T.m_law_take T.F_law_take.kp T.b_law_take .nil pass0 (pa_cons (pv 0) (pa_cons (pv 2) pa_nil))) (pa_cons (pe_tup pa_nil) (pa_cons (pe_tup pa_nil) pa_nil))))))
    pss_nil)
  (pss_cons (ps_set (i := 4) sc_law_spoiled.nd rfl (by first | exact Or.inl rfl | exact Or.inr rfl) (pe_call (ok_law_take T) (hr.mono (by omega)) rfl T.m_law_take T.F_law_take.kp T.b_law_take .nil pass0 (pa_cons (pv 0) (pa_cons pe_int pa_nil))))
  (pss_cons (ps_if (pt_cmpR op_eq (pv 4) pe_int (nomark _)) (pss_one (ps_ret (pe_tup pa_nil)))
    pss_nil)
  (pss_cons (ps_if (pt_cmpR op_eq (pv 4) pe_int (nomark _)) (pss_one (ps_ret (pe_tup (pa_cons (pe_op op_sub (pe_call (ok_law_take T) (hr.mono (by omega)) rfl T.m_law_take T.F_law_take.kp T.b_law_take .nil pass0 (pa_cons (pv 0) (pa_cons (pe_op op_add (pv 2) pe_int) pa_nil))) pe_int) (pa_cons (pe_ix ix_tup (pv 1) pe_int (fun _ _ => rfl)) (pa_cons (pe_ix ix_tup (pv 1) pe_int (fun _ _ => rfl)) pa_nil))))))
    pss_nil)
  (pss_cons (ps_if (PW.pt (pw_and (pt_cmpR op_eq (pv 4) pe_int (nomark _)) (pw_and1 (pt_val (pv 3))))) (pss_one (ps_ret (pe_ix ix_list (pe_lst (pa_cons (pe_callTy call_list_of (by rfl) T.z_list (by decide +kernel) (pa_cons (pv 1) pa_nil)) (pa_cons (pe_slice sl_tup (pv 1) po_none (po_some pe_int)) (pa_cons (pe_tup (pa_cons (pe_ix ix_tup (pv 1) pe_int (fun _ _ => rfl)) (pa_cons (pe_ix ix_tup (pv 1) pe_int (fun _ _ => rfl)) (pa_cons (pe_ix ix_tup (pv 1) pe_int (fun _ _ => rfl)) (pa_cons (pe_tup pa_nil) pa_nil))))) (pa_cons pe_non (pa_cons pe_str pa_nil)))))) (pe_call (ok_law_take T) (hr.mono (by omega)) rfl T.m_law_take T.F_law_take.kp T.b_law_take .nil pass0 (pa_cons (pv 0) (pa_cons pe_int pa_nil))) (fun _ _ => rfl))))
    pss_nil)
  (pss_cons (ps_if (pt_cmpR op_eq (pv 4) pe_int (nomark _)) (pss_one (ps_ret (pe_tup (pa_cons (pe_call (ok_law_take T) (hr.mono (by omega)) rfl T.m_law_take T.F_law_take.kp T.b_law_take .nil pass0 (pa_cons (pv 0) (pa_cons (pv 2) pa_nil))) (pa_cons (pe_ix ix_tup (pv 1) pe_int (fun _ _ => rfl)) (pa_cons (pe_ix ix_tup (pv 1) pe_int (fun _ _ => rfl)) pa_nil))))))
    pss_nil)
  (pss_cons (ps_if (pt_cmpR op_lt (pv 4) pe_int (nomark _)) (pss_one (ps_ret (pe_tup (pa_cons (pe_ix ix_tup (pv 1) pe_int (fun _ _ => rfl)) (pa_cons (pe_call (ok_law_spoiled T) (hr.mono (by omega)) rfl T.m_law_spoiled T.F_law_spoiled.kp T.b_law_spoiled .nil pass0 (pa_cons (pv 0) (pa_cons (pe_ix ix_tup (pv 1) pe_int (fun _ _ => rfl)) (pa_cons (pv 2) (pa_cons (pv 3) pa_nil))))) (pa_cons (pe_ix ix_tup (pv 1) pe_int (fun _ _ => rfl)) pa_nil))))))
    pss_nil)
  (pss_one (ps_ret (pe_tup (pa_cons (pe_ix ix_tup (pv 1) pe_int (fun _ _ => rfl)) (pa_cons (pe_ix ix_tup (pv 1) pe_int (fun _ _ => rfl)) (pa_cons (pe_call (ok_law_spoiled T) (hr.mono (by omega)) rfl T.m_law_spoiled T.F_law_spoiled.kp T.b_law_spoiled .nil pass0 (pa_cons (pv 0) (pa_cons (pe_ix ix_tup (pv 1) pe_int (fun _ _ => rfl)) (pa_cons (pv 2) (pa_cons (pv 3) pa_nil))))) pa_nil))))))))))))), ?_⟩
      walk_at "sm"
      cases pl with
      | bad d => cases hgd
      | leaf =>
        obtain ⟨t, rfl, ht⟩ := hp.leaf
        refine ⟨t, rfl, _, .inr (SqT.of ht), iteP rfl ?_⟩
        refine ⟨h0, c, _, rfl, ha, by omega, by omega, fun r H1 r1 r2 f1 g1 => ⟨sz (by decide), fun a1 ha1 => ⟨sz (by decide), fun a2 ha2 => ?_⟩⟩⟩
        obtain ⟨f2, g2, _⟩ := hand_new (o := .tup []) f1 g1 ha1
        obtain ⟨f3, g3, _⟩ := hand_new (o := .tup []) f2 g2 ha2
        exact sp_tup r k f3 g3 (PlAt.mk_leaf (Evl.Ex.new ha2 _ _ upd_same)) rfl (PlAt.mk_leaf upd_same) rfl (Nat.le_refl _) (by decide) (by decide)
      | node q p1 p2 =>
        obtain ⟨t, u1, u2, rfl, ht, q1, q2⟩ := hp.node
        refine ⟨t, rfl, _, .inr (SqT.of ht), iteN len3 ?_⟩
        have gd' : (p1.good && p2.good) = true := hgd
        rw [Bool.and_eq_true] at gd'
        obtain ⟨gd1, gd2⟩ := gd'
        have hn : (Pl.node q p1 p2).hgt = 1 + max p1.hgt p2.hgt := rfl
        generalize hN : (Pl.node q p1 p2).hgt = N at k hf h20 hn
        have n1 := good_no4 gd1
        have n2 := good_no4 gd2
        have d1 := good_dep gd1
        have d2 := good_dep gd2
        refine ⟨h0, c, 9, rfl, ha, by decide, by decide, fun r H1 r1 r2 f1 g1 => ⟨rfl, ?_⟩⟩
        have ht1 := f1 _ _ (hand_tup ha ht) ht
        have a1 := q1.fr f1 ha n1
        have a2 := q2.fr f1 ha n2
        refine ite2 (fun _ => ⟨sz (by decide), fun z hz => ?_⟩) fun _ => ⟨rfl, ite2 (fun _ => ?_) fun _ => ⟨rfl, ite2 (fun _ => ?_) fun _ => ⟨rfl, ite2 (fun _ => ?_) fun _ => ⟨r, rfl, ite2 (fun _ => ?_) fun _ => ?_⟩⟩⟩⟩
        · obtain ⟨f2, g2, _⟩ := hand_new (o := .tup []) f1 g1 hz
          exact k _ _ ⟨f2, g2, .leaf, PlAt.mk_leaf upd_same, rfl, Nat.zero_le _, by show 0 + 1 ≤ _; omega⟩
        · refine ⟨h0, c, _, rfl, g1, by omega, by omega, fun r H2 r1 r2 f2 g2 => ⟨r, rfl, ?_⟩⟩
          have ht2 := f2 _ _ (hand_tup g1 ht1) ht1
          refine ix1 ht2 (ixt ht2 (atI_nat (j := 2) rfl) ?_)
          exact sp_tup _ k (f1.trans f2) g2 (a1.fr f2 g1 n1) n1 (a2.fr f2 g1 n2) n2 (by omega) (by omega) h20
        · have ct : cutV [V.int q, u1, u2] none (some 2) = [V.int q, u1] := rfl
          refine ⟨t, rfl, _, .inr (SqT.of ht1), fun l hl => ?_⟩
          obtain ⟨f2, g2, _⟩ := hand_new (o := .lst [V.int q, u1, u2]) f1 g1 hl
          have e2 := Evl.Ex.new (o := .lst [V.int q, u1, u2]) hl
          have hl2 : upd H1 l (.lst [V.int q, u1, u2]) l = some (.lst [V.int q, u1, u2]) := upd_same
          generalize upd H1 l (.lst [V.int q, u1, u2]) = H2 at f2 g2 e2 hl2 ⊢
          refine ⟨t, _, rfl, SqT.of (e2 _ _ ht1), (show ¬ (HT.sIx 3 0 none = 0 ∧ HT.sIx 3 3 (some 2) = 3) by decide), fun s hs => ?_⟩
          rw [ct]
          obtain ⟨f3, g3, _⟩ := hand_new (o := .tup [V.int q, u1]) f2 g2 hs
          have e3 := e2.trans (Evl.Ex.new (o := .tup [V.int q, u1]) hs)
          have hs3 : upd H2 s (.tup [V.int q, u1]) s = some (.tup [V.int q, u1]) := upd_same
          have hl3 := Evl.Ex.new (o := .tup [V.int q, u1]) hs _ _ hl2
          generalize upd H2 s (.tup [V.int q, u1]) = H3 at f3 g3 e3 hl3 hs3 ⊢
          have ht3 := e3 _ _ ht1
          refine ix0 ht3 (ix1 ht3 (ixt ht3 (atI_nat (j := 2) rfl) ⟨sz (by decide), fun w0 hw0 => ⟨sz (by decide), fun w1 hw1 => ⟨sz (by decide), fun z hz => ?_⟩⟩⟩))
          obtain ⟨f4, g4, _⟩ := hand_new (o := .tup []) f3 g3 hw0
          obtain ⟨f5, g5, _⟩ := hand_new (o := .tup [V.int q, u1, u2, V.ref w0]) f4 g4 hw1
          obtain ⟨f6, g6, nz⟩ := hand_new (o := .lst [V.ref l, V.ref s, V.ref w1, V.non, V.str (Str.ofString "x")]) f5 g5 hz
          have e6 := ((Evl.Ex.new (o := .tup []) hw0).trans (Evl.Ex.new (o := .tup [V.int q, u1, u2, V.ref w0]) hw1)).trans (Evl.Ex.new (o := .lst [V.ref l, V.ref s, V.ref w1, V.non, V.str (Str.ofString "x")]) hz)
          have hw0' := ((Evl.Ex.new (o := .tup [V.int q, u1, u2, V.ref w0]) hw1).trans (Evl.Ex.new (o := .lst [V.ref l, V.ref s, V.ref w1, V.non, V.str (Str.ofString "x")]) hz)) _ _ (upd_same (H := H3) (a := w0) (o := .tup []))
          have hw1' := (Evl.Ex.new (o := .lst [V.ref l, V.ref s, V.ref w1, V.non, V.str (Str.ofString "x")]) hz) _ _ (upd_same (H := upd H3 w0 (.tup [])) (a := w1) (o := .tup [V.int q, u1, u2, V.ref w0]))
          have hz' := upd_same (H := upd (upd H3 w0 (.tup [])) w1 (.tup [V.int q, u1, u2, V.ref w0])) (a := z) (o := .lst [V.ref l, V.ref s, V.ref w1, V.non, V.str (Str.ofString "x")])
          have hl6 := e6 _ _ hl3
          have hs6 := e6 _ _ hs3
          have b1 := a1.go (e3.trans e6)
          have b2 := a2.go (e3.trans e6)
          generalize upd (upd (upd H3 w0 (.tup [])) w1 (.tup [V.int q, u1, u2, V.ref w0])) z (.lst [V.ref l, V.ref s, V.ref w1, V.non, V.str (Str.ofString "x")]) = H6 at f6 g6 hw0' hw1' hz' hl6 hs6 b1 b2 ⊢
          refine ⟨h0, c, 5, rfl, g6, by decide, by decide, fun y H7 y1 y2 f7 g7 => ?_⟩
          have fin : ∀ (v' : V) (d : PyData), Ac H6 v' d → badD d = true → no4 d = true → d.canLay0 = true → d.depth ≤ N + 3 → Q v' H7 := fun v' d c1 c2 c3 c4 c5 => k _ _ ⟨f6.trans f7, g7, .bad d, PlAt.fr f7 g6 c3 ⟨c1, c2, c4, by show d.depth ≤ 60; omega⟩, c3, Nat.zero_le _, c5⟩
          have hz7 := f7 _ _ nz hz'
          have dm : max p1.D.depth p2.D.depth ≤ N := by omega
          obtain ⟨y, rfl⟩ : ∃ e : Nat, y = e := ⟨y.toNat, by omega⟩
          have y5 : y < 5 := by omega
          have ixy : ∀ v', [V.ref l, V.ref s, V.ref w1, V.non, V.str (Str.ofString "x")][y]? = some v' → Q v' H7 → rIxL K (V.ref z) (V.int (y : Nat)) H7 Q := fun v' e q => ixl (SqL.of hz7) (atI_nat e) q
          match y, y5 with
          | 0, _ => exact ixy _ rfl (fin _ (.list [.int q, p1.D, p2.D]) (.lst hl6 (.cons (.int q) (.cons b1.at_ (.cons b2.at_ .nil)))) rfl (by show (true && (true && (no4 p1.D && (no4 p2.D && true)))) = true; rw [n1, n2]; rfl) (by show (true && (p1.D.canLay0 && (p2.D.canLay0 && true))) = true; rw [b1.lay, b2.lay]; rfl) (by show max 0 (max p1.D.depth (max p2.D.depth 0)) + 1 ≤ _; omega))
          | 1, _ => exact ixy _ rfl (fin _ (.tuple [.int q, p1.D]) (.tup hs6 (.cons (.int q) (.cons b1.at_ .nil))) rfl (by show (true && (no4 p1.D && true)) = true; rw [n1]; rfl) (by show (true && (p1.D.canLay0 && true)) = true; rw [b1.lay]; rfl) (by show max 0 (max p1.D.depth 0) + 1 ≤ _; omega))
          | 2, _ => exact ixy _ rfl (fin _ (.tuple [.int q, p1.D, p2.D, .tuple []]) (.tup hw1' (.cons (.int q) (.cons b1.at_ (.cons b2.at_ (.cons (.tup hw0' .nil) .nil))))) rfl (by show (true && (no4 p1.D && (no4 p2.D && (true && true)))) = true; rw [n1, n2]; rfl) (by show (true && (p1.D.canLay0 && (p2.D.canLay0 && (true && true)))) = true; rw [b1.lay, b2.lay]; rfl) (by show max 0 (max p1.D.depth (max p2.D.depth (max (0 + 1) 0))) + 1 ≤ _; omega))
          | 3, _ => exact ixy _ rfl (fin _ .none .non rfl rfl rfl (Nat.zero_le _))
          | 4, _ => exact ixy _ rfl (fin _ (.str (Str.ofString "x")) (.str _) rfl rfl (by decide +kernel) (Nat.zero_le _))
        · refine ⟨h0, c, _, rfl, g1, by omega, by omega, fun r H2 r1 r2 f2 g2 => ?_⟩
          have ht2 := f2 _ _ (hand_tup g1 ht1) ht1
          refine ixt ht2 (atI_nat (j := 2) rfl) (ix1 ht2 ?_)
          exact sp_tup _ k (f1.trans f2) g2 (a2.fr f2 g1 n2) n2 (a1.fr f2 g1 n1) n1 (by omega) (by omega) h20
        · refine ix0 ht1 (ix1 ht1 ⟨h0, c, u1, m, p1, rfl, g1, m1, m10, a1, gd1, by omega, by omega, fun H2 v2 ⟨f2, g2, pl, b1, b2, b3, b4⟩ => ?_⟩)
          have ht2 := f2 _ _ (hand_tup g1 ht1) ht1
          refine ixt ht2 (atI_nat (j := 2) rfl) ?_
          exact sp_tup _ k (f1.trans f2) g2 b1 b2 (a2.fr f2 g1 n2) n2 (by omega) (by omega) h20
        · refine ix0 ht1 (ix1 ht1 (ixt ht1 (atI_nat (j := 2) rfl) ⟨h0, c, u2, m, p2, rfl, g1, m1, m10, a2, gd2, by omega, by omega, fun H2 v2 ⟨f2, g2, pl, b1, b2, b3, b4⟩ => ?_⟩))
          exact sp_tup _ k (f1.trans f2) g2 (a1.fr f2 g1 n1) n1 b1 b2 (by omega) (by omega) h20
end


/-! ### paintings by draw -/
section
variable {P : Program} {w : World} {K : PySem.W.Frag} {mg : Str → Option Value} {base : Heap} {a : Ad}
theorem ok_law_spoiled (T : Txt K mg a) : FnOk P w K mg base CX0 24 a.f_law_spoiled a.d_law_spoiled ["_law_hand_here", "_law_plan", "_law_many", "_law_forms"] (spSp 21) := ok_sp T 21
/-- two lists of unlike places, reds not empty -/
def RbAt (H : Hp) (p1 p2 : Addr) (n : Nat) (l m : List Nat) : Prop := H p1 = some (.lst ((nI l).map V.int)) ∧ H p2 = some (.lst ((nI m).map V.int)) ∧ l ≠ [] ∧ (l ++ m).Nodup ∧ ∀ x ∈ l ++ m, x < n
def spPn : Sp := fun vs H Q _ => ∃ (h c : Addr) (n : Nat), vs = [.ref h, .int n] ∧ HandAt H h c ∧ 1 ≤ n ∧ n ≤ 8 ∧ ∀ v H' p1 p2 l m t, Fr h H H' → HandAt H' h c → v = .ref t → H' t = some (.tup [.ref p1, .ref p2]) → RbAt H' p1 p2 n l m → Q v H'
structure PtS (h c : Addr) (H : Hp) (p1 p2 : Addr) (n : Nat) (l m : List Nat) (H' : Hp) : Prop where
  fr : Fr h H H'
  hd : HandAt H' h c
  a1 : H' p1 = some (.lst ((nI l).map V.int))
  a2 : H' p2 = some (.lst ((nI m).map V.int))
  nd : (l ++ m).Nodup
  lo : ∀ x ∈ l ++ m, x < n
def mdP1 (h c : Addr) (H : Hp) (p1 p2 : Addr) (n : Nat) : L2.St → Hp → Prop := fun σ H' => ∃ v4 v5 l m, σ = [some (.ref h), some (.int n), some (.ref p1), some (.ref p2), v4, v5, none] ∧ PtS h c H p1 p2 n l m H'
def mdP2 (h c : Addr) (H : Hp) (p1 : Addr) (n : Nat) : L2.St → Hp → Prop := fun σ H' => ∃ v4 v5 v6 p2 l m, σ = [some (.ref h), some (.int n), some (.ref p1), some (.ref p2), v4, v5, v6] ∧ PtS h c H p1 p2 n l m H' ∧ l ≠ []
def ivP (h c : Addr) (H : Hp) (p1 p2 : Addr) (n : Nat) (o : List Nat) : Nat → L2.St → Hp → Prop := fun i σ H' => ∃ v4 v5 l m, σ = [some (.ref h), some (.int n), some (.ref p1), some (.ref p2), v4, v5, none] ∧ PtS h c H p1 p2 n l m H' ∧ ∀ x ∈ l ++ m, x ∈ o.take i
theorem PtS.red {h c : Addr} {H : Hp} {p1 p2 : Addr} {n : Nat} {l m : List Nat} {H' : Hp} {x : Nat} (s : PtS h c H p1 p2 n l m H') (ha : HandAt H h c) (h1 : H p1 = none) (n12 : p1 ≠ p2) (hx : x ∉ l ++ m) (hn : x < n) : PtS h c H p1 p2 n (l ++ [x]) m (upd H' p1 (.lst ((nI l).map V.int ++ [.int (x : Nat)]))) := by
  obtain ⟨s1, s2, s3, s4, s5, s6⟩ := s
  have hm : ∀ y, y ∈ (l ++ [x]) ++ m ↔ y ∈ l ++ m ∨ y = x := fun y => by simp only [List.mem_append, List.mem_singleton]; grind
  refine ⟨s1.mut h1, s2.upd (ha.lt h1) (ha.lc h1), by rw [upd_same, nI_snoc], by rw [upd_ne (Ne.symm n12)]; exact s4, ?_, fun y hy => ?_⟩
  · have p : ((l ++ [x]) ++ m).Perm (x :: (l ++ m)) := by
      rw [List.append_assoc]
      exact List.perm_middle
    exact p.nodup_iff.mpr (List.nodup_cons.mpr ⟨hx, s5⟩)
  · rcases (hm y).mp hy with z | rfl
    · exact s6 y z
    · exact hn
theorem PtS.blue {h c : Addr} {H : Hp} {p1 p2 : Addr} {n : Nat} {l m : List Nat} {H' : Hp} {x : Nat} (s : PtS h c H p1 p2 n l m H') (ha : HandAt H h c) (h2 : H p2 = none) (n12 : p1 ≠ p2) (hx : x ∉ l ++ m) (hn : x < n) : PtS h c H p1 p2 n l (m ++ [x]) (upd H' p2 (.lst ((nI m).map V.int ++ [.int (x : Nat)]))) := by
  obtain ⟨s1, s2, s3, s4, s5, s6⟩ := s
  refine ⟨s1.mut h2, s2.upd (ha.lt h2) (ha.lc h2), by rw [upd_ne n12]; exact s3, by rw [upd_same, nI_snoc], ?_, fun y hy => ?_⟩
  · have p : (l ++ (m ++ [x])).Perm (x :: (l ++ m)) := by
      rw [← List.append_assoc]
      exact List.perm_append_singleton x (l ++ m)
    exact p.nodup_iff.mpr (List.nodup_cons.mpr ⟨hx, s5⟩)
  · rw [← List.append_assoc] at hy
    rcases List.mem_append.mp hy with z | z
    · exact s6 y z
    · rw [List.mem_singleton.mp z]
      exact hn
theorem PtS.lens {h c : Addr} {H : Hp} {p1 p2 : Addr} {n : Nat} {l m : List Nat} {H' : Hp} (s : PtS h c H p1 p2 n l m H') : l.length ≤ n ∧ m.length ≤ n := by
  have := s.nd.length_le_of_subset (fun x hx => List.mem_range.mpr (s.lo x hx) : l ++ m ⊆ List.range n)
  rw [List.length_range, List.length_append] at this
  omega
theorem PtS.draw {h c : Addr} {H : Hp} {p1 p2 : Addr} {n : Nat} {l m : List Nat} {H' H2 : Hp} (s : PtS h c H p1 p2 n l m H') (n1 : p1 ≠ h) (n2 : p2 ≠ h) (f : Fr h H' H2) (g : HandAt H2 h c) : PtS h c H p1 p2 n l m H2 := ⟨s.fr.trans f, g, f _ _ n1 s.a1, f _ _ n2 s.a2, s.nd, s.lo⟩
def ivF (H : Hp) (m : List Nat) (x : Nat) (D : Addr) (i : Nat) (H' : Hp) : Prop := Evl.Ex H H' ∧ H' D = some (.lst ((nI ((m.take i).filter fun y => decide (y ≠ x))).map V.int))
theorem ok_law_painting (T : Txt K mg a) : FnOk P w K mg base CX0 4 a.f_law_painting a.d_law_painting ["_law_hand_here", "_law_many"] spPn := by
  refine T.F_law_painting.ok sc_law_painting (fun vs H Q E h => ?_) (fun cdv A outer s H vs Q E hr h => ?_)
  · obtain ⟨_, _, _, rfl, _⟩ := h
    rfl
  · obtain ⟨h0, c, n, rfl, ha, n1, n8, k⟩ := h
    refine ⟨_, (pss_cons (ps_set (i := 2) sc_law_painting.nd rfl (by first | exact Or.inl rfl | exact Or.inr rfl) (pe_lst pa_nil))
  (pss_cons (ps_set (i := 3) sc_law_painting.nd rfl (by first | exact Or.inl rfl | exact Or.inr rfl) (pe_lst pa_nil))
  (Evl.pss_cut (ps_for PassesOwn.never rfl (pi_list (pe_call (ok_law_order T) (hr.mono (by decide)) rfl T.m_law_order T.F_law_order.kp T.b_law_order .nil pass0 (pa_cons (pv 0) (pa_cons (pv 1) pa_nil)))) (pg_name (i := 4) sc_law_painting.nd rfl (by first | exact Or.inl rfl | exact Or.inr rfl)) (pss_cons (ps_set (i := 5) sc_law_painting.nd rfl (by first | exact Or.inl rfl | exact Or.inr rfl) (pe_call (ok_law_take T) (hr.mono (by decide)) rfl T.m_law_take T.F_law_take.kp T.b_law_take .nil pass0 (pa_cons (pv 0) (pa_cons pe_int pa_nil))))
  (pss_one (ps_if (pt_cmpR op_eq (pv 5) pe_int (nomark _)) (pss_one (ps_expr (pe_bm PySem.F.plainAttrs_list PySem.F.slot_list_append PySem.F.type_list_append mt_append (pv 2) (pa_cons (pv 4) pa_nil))))
    (pss_one (ps_if (pt_cmpR op_eq (pv 5) pe_int (nomark _)) (pss_one (ps_expr (pe_bm PySem.F.plainAttrs_list PySem.F.slot_list_append PySem.F.type_list_append mt_append (pv 3) (pa_cons (pv 4) pa_nil))))
    pss_nil))))))
  (Evl.pss_cut (ps_if (pt_cmpR op_eq (pe_callB call_len_seq (by rfl) T.z_len (by decide +kernel) (pa_cons (pv 2) pa_nil)) pe_int (nomark _)) (pss_cons (ps_set (i := 4) sc_law_painting.nd rfl (by first | exact Or.inl rfl | exact Or.inr rfl) (pe_call (ok_law_take T) (hr.mono (by decide)) rfl T.m_law_take T.F_law_take.kp T.b_law_take .nil pass0 (pa_cons (pv 0) (pa_cons (pv 1) pa_nil))))
  (pss_cons (ps_expr (pe_bm PySem.F.plainAttrs_list PySem.F.slot_list_append PySem.F.type_list_append mt_append (pv 2) (pa_cons (pv 4) pa_nil)))
  (pss_one (ps_setLc (i := 3) (own := [("_law_other", 6)]) (g := gName 6)  rfl sc_law_painting.nd rfl rfl (sw_true rfl rfl rfl (by decide +kernel)) (pi_list (pv 3)) (blkOk_by (own := [("_law_other", 6)]) (N := ["_law_hand_here", "_law_many", "_law_reds", "_law_blues", "_law_place", "_law_hue", "_law_other"]) (sc := defScope s_law_painting) (by decide +kernel)) (fun _ _ _ _ _ => pg_name (i := 6) sc_law_painting.nd rfl (Or.inl rfl)) (fun _ _ _ _ _ => (pts_one (pt_cmpR op_ne (pv 6) (pv 4) (nomark _)))) (fun _ _ _ _ _ => (pv 6))))))
    pss_nil)
  (pss_one (ps_ret (pe_tup (pa_cons (pv 2) (pa_cons (pv 3) pa_nil))))))))), ?_⟩
    walk_at "sm"
    refine ⟨sz (by decide), fun p1 hp1 => ⟨sz (by decide), fun p2 hp2 => ?_⟩⟩
    obtain ⟨f1, g1, x1⟩ := hand_new (o := .lst []) (Fr.refl H) ha hp1
    obtain ⟨f2, g2, x2⟩ := hand_new (o := .lst []) f1 g1 hp2
    have n12 : p1 ≠ p2 := fun z => by rw [← z, upd_same] at hp2; cases hp2
    have hp2' : H p2 = none := by rw [upd_ne (Ne.symm n12)] at hp2; exact hp2
    have s0 : PtS h0 c H p1 p2 n [] [] (upd (upd H p1 (.lst [])) p2 (.lst [])) := ⟨f2, g2, by rw [upd_ne n12]; exact upd_same, upd_same, List.nodup_nil, fun x hx => nomatch hx⟩
    have e2 := Evl.Ex.new (o := .lst []) hp2
    generalize upd (upd H p1 (.lst [])) p2 (.lst []) = H1 at s0 g2 f2 ⊢
    refine ⟨mdP1 h0 c H p1 p2 n, ?_, fun σ HX ⟨v4, v5, l, m, e1, s⟩ => ⟨mdP2 h0 c H p1 n, ?_, fun σ HX ⟨v4, v5, v6, p2, l, m, e1, s, ne⟩ => ?_⟩⟩
    · refine ⟨_, rfl, _, rfl, h0, c, n, rfl, g2, by omega, fun q o H2 f3 g3 hq nq hq1 pm => ⟨q, rfl, ⟨_, SqL.of hq⟩, ?_⟩⟩
      have s1 := s0.draw x1 x2 f3 g3
      have ond : o.Nodup := pm.nodup_iff.mpr List.nodup_range
      have q1 : q ≠ p1 := fun z => by rw [z, s0.a1] at hq1; cases hq1
      have q2 : q ≠ p2 := fun z => by rw [z, s0.a2] at hq1; cases hq1
      refine for_list (K := K) (a := q) (xs := (nI o).map V.int) (fun i σ H' => ivP h0 c H p1 p2 n o i σ H' ∧ H' q = some (.lst ((nI o).map V.int))) ⟨⟨none, none, [], [], rfl, s1, fun x hx => nomatch hx⟩, hq⟩ (fun i σ HX hi ⟨_, e⟩ => SqL.of e) ?_ ?_
      · rintro i y σ HX hy ⟨⟨v4, v5, l, m, rfl, s, sub⟩, hqX⟩
        obtain ⟨x, hx, rfl⟩ := nat_at hy
        have xn : x < n := List.mem_range.mp (pm.mem_iff.mp (List.mem_of_getElem? hx))
        have tk := fun y => take_mem (x := y) hx
        have nin : x ∉ l ++ m := fun z => take_not hx ond (sub x z)
        have lens := s.lens
        walk_at "sm"
        refine ⟨h0, c, 4, rfl, s.hd, by decide, by decide, fun r H4 r1 r2 f4 g4 => ?_⟩
        have s4 := s.draw x1 x2 f4 g4
        have hq4 := f4 _ _ nq hqX
        refine ⟨rfl, ite2 (fun _ => ?_) fun _ => ⟨rfl, ite2 (fun _ => ?_) fun _ => ⟨⟨_, _, l, m, rfl, s4, fun y hy => (tk y).mpr (.inl (sub y hy))⟩, hq4⟩⟩⟩
        · refine ⟨(show tyV K "list" (.ref p1) H4 from .inl ⟨rfl, _, SqL.of s4.a1⟩), p1, _, _, rfl, rfl, s4.a1, by rw [nI_len, sizeLine_eq]; omega, ⟨_, _, l ++ [x], m, rfl, s4.red ha hp1 n12 nin xn, fun y hy => ?_⟩, by rw [upd_ne q1]; exact hq4⟩
          rw [List.append_assoc] at hy
          rcases List.mem_append.mp hy with z | z
          · exact (tk y).mpr (.inl (sub y (List.mem_append_left _ z)))
          · rcases List.mem_append.mp z with z | z
            · exact (tk y).mpr (.inr (List.mem_singleton.mp z))
            · exact (tk y).mpr (.inl (sub y (List.mem_append_right _ z)))
        · refine ⟨(show tyV K "list" (.ref p2) H4 from .inl ⟨rfl, _, SqL.of s4.a2⟩), p2, _, _, rfl, rfl, s4.a2, by rw [nI_len, sizeLine_eq]; omega, ⟨_, _, l, m ++ [x], rfl, s4.blue ha hp2' n12 nin xn, fun y hy => ?_⟩, by rw [upd_ne q2]; exact hq4⟩
          rw [← List.append_assoc] at hy
          rcases List.mem_append.mp hy with z | z
          · exact (tk y).mpr (.inl (sub y z))
          · exact (tk y).mpr (.inr (List.mem_singleton.mp z))
      · rintro σ HX ⟨⟨v4, v5, l, m, rfl, s, sub⟩, hqX⟩
        exact ⟨_, _, l, m, rfl, s⟩
    · subst e1
      have lens := s.lens
      walk_at "sm"
      refine ⟨_, .inl (SqL.of s.a1), ?_⟩
      rw [nI_len]
      by_cases lz : l = []
      · subst lz
        refine iteP rfl ⟨h0, c, n, rfl, s.hd, by omega, by omega, fun r H4 r1 r2 f4 g4 => ?_⟩
        obtain ⟨x, rfl⟩ : ∃ e : Nat, r = e := ⟨r.toNat, by omega⟩
        have s4 := s.draw x1 x2 f4 g4
        have xn : x < n := by omega
        refine ⟨(show tyV K "list" (.ref p1) H4 from .inl ⟨rfl, _, SqL.of s4.a1⟩), p1, _, _, rfl, rfl, s4.a1, by rw [nI_len, sizeLine_eq]; simp, ?_⟩
        have b1 : upd H4 p1 (.lst ((nI []).map V.int ++ [V.int (x : Nat)])) p1 = some (.lst ((nI [x]).map V.int)) := upd_same
        have b2 : upd H4 p1 (.lst ((nI []).map V.int ++ [V.int (x : Nat)])) p2 = some (.lst ((nI m).map V.int)) := by rw [upd_ne (Ne.symm n12)]; exact s4.a2
        have b3 : Fr h0 H (upd H4 p1 (.lst ((nI []).map V.int ++ [V.int (x : Nat)]))) := s4.fr.mut hp1
        have b4 : HandAt (upd H4 p1 (.lst ((nI []).map V.int ++ [V.int (x : Nat)]))) h0 c := s4.hd.upd (ha.lt hp1) (ha.lc hp1)
        generalize upd H4 p1 (.lst ((nI []).map V.int ++ [V.int (x : Nat)])) = H5 at b1 b2 b3 b4 ⊢
        refine ⟨⟨_, SqL.of b2⟩, lcg_list (K := K) (a := p2) (xs := (nI m).map V.int) (ivF H5 m x) (fun D hD => ⟨Evl.Ex.new hD, upd_same⟩) (fun D i HY hD hi h => SqL.of (h.1 _ _ b2)) ?_ ?_⟩
        · rintro D i y HY hD hy ⟨w1, w2⟩
          obtain ⟨z, hz, rfl⟩ := nat_at hy
          have il := (List.getElem?_eq_some_iff.mp hz).1
          walk_at "sm"
          have ts : (m.take (i + 1)).filter (fun y => decide (y ≠ x)) = (m.take i).filter (fun y => decide (y ≠ x)) ++ if z = x then [] else [z] := by
            rw [List.take_succ, hz, Option.toList_some, List.filter_append, List.filter_cons, List.filter_nil]
            by_cases c : z = x
            · rw [if_pos c, if_neg (by simpa using c)]
            · rw [if_neg c, if_pos (by simpa using c)]
          have len : ((m.take i).filter (fun y => decide (y ≠ x))).length ≤ 8 := by
            have := List.length_filter_le (fun y => decide (y ≠ x)) (m.take i)
            rw [List.length_take] at this
            omega
          by_cases c : z = x
          · rw [if_pos c, List.append_nil] at ts
            refine iteF' (by rw [decide_eq_true (show (z : Int) = (x : Int) by omega)]; rfl) ⟨w1, ?_⟩
            rw [ts]
            exact w2
          · rw [if_neg c] at ts
            refine iteT' (by rw [decide_eq_false (show ¬ (z : Int) = (x : Int) by omega)]; rfl) ⟨_, w2, by rw [nI_len, sizeLine_eq]; omega, w1.mut hD, ?_⟩
            rw [upd_same, ts, nI_app]
            rfl
        · rintro D HY hD ⟨w1, w2⟩
          rw [nI_len, List.take_length] at w2
          have nd := s4.nd
          refine ⟨_, _, _, D, [x], m.filter (fun y => decide (y ≠ x)), rfl, ⟨b3.trans (Fr.of w1), b4.go w1, w1 _ _ b1, w2, ?_, ?_⟩, by simp⟩
          · exact List.nodup_cons.mpr ⟨fun z => by simpa using (List.mem_filter.mp z).2, (show m.Nodup from nd).filter _⟩
          · intro y hy
            rcases List.mem_cons.mp hy with rfl | z
            · exact xn
            · exact s4.lo y (List.mem_filter.mp z).1
      · exact iteN (fun z => lz (List.length_eq_zero_iff.mp (by omega))) ⟨_, _, _, p2, l, m, rfl, s, lz⟩
    · subst e1
      walk_at "sm"
      refine ⟨sz (by decide), fun t ht => ?_⟩
      obtain ⟨f3, g3, x3⟩ := hand_new (o := .tup [V.ref p1, V.ref p2]) s.fr s.hd ht
      have e3 := Evl.Ex.new (o := .tup [V.ref p1, V.ref p2]) ht
      exact k _ _ p1 p2 l m t f3 g3 rfl upd_same ⟨e3 _ _ s.a1, e3 _ _ s.a2, ne, s.nd, s.lo⟩
def spPE : Sp := fun vs H Q _ => ∃ (h c : Addr) (e : Nat), vs = [.ref h, .int e] ∧ HandAt H h c ∧ e < 8 ∧ ∀ v H' p1 p2 l m t, Fr h H H' → HandAt H' h c → v = .ref t → H' t = some (.tup [.ref p1, .ref p2]) → RbAt H' p1 p2 8 l m → Q v H'
theorem cut_nI (oo : List Nat) (lo hi : Option Int) : ∃ oc : List Nat, cutV ((nI oo).map V.int) lo hi = (nI oc).map V.int ∧ oc.Sublist oo := by
  unfold cutV
  exact ⟨(oo.drop _).take _, by rw [← List.map_drop, ← List.map_drop, ← List.map_take, ← List.map_take], (List.take_sublist _ _).trans (List.drop_sublist _ _)⟩
def ivPE (h c : Addr) (H : Hp) (p1 p2 z : Addr) (e : Nat) (o : List Nat) : Nat → L2.St → Hp → Prop := fun i σ H' => ∃ v4 v5 l m, σ = [some (.ref h), some (.int e), some (.ref p1), some (.ref p2), v4, v5] ∧ PtS h c H p1 p2 8 l m H' ∧ l ≠ [] ∧ (∀ x ∈ l ++ m, x = e ∨ x ∈ o.take i) ∧ H' z = some (.lst ((nI o).map V.int))
theorem ok_law_painted_eight (T : Txt K mg a) : FnOk P w K mg base CX0 4 a.f_law_painted_eight a.d_law_painted_eight ["_law_hand_here", "_law_end"] spPE := by
  refine T.F_law_painted_eight.ok sc_law_painted_eight (fun vs H Q E h => ?_) (fun cdv A outer s H vs Q E hr h => ?_)
  · obtain ⟨_, _, _, rfl, _⟩ := h
    rfl
  · obtain ⟨h0, c, e, rfl, ha, he, k⟩ := h
    refine ⟨_, (pss_cons (ps_set (i := 2) sc_law_painted_eight.nd rfl (by first | exact Or.inl rfl | exact Or.inr rfl) (pe_lst (pa_cons (pv 1) pa_nil)))
  (pss_cons (ps_set (i := 3) sc_law_painted_eight.nd rfl (by first | exact Or.inl rfl | exact Or.inr rfl) (pe_lst pa_nil))
  (pss_cons (ps_setLc (i := 4) (own := [("_law_place", 5)]) (g := gName 5)  rfl sc_law_painted_eight.nd rfl rfl (sw_true rfl rfl rfl (by decide +kernel)) (pi_list (pe_call (ok_law_order T) (hr.mono (by decide)) rfl T.m_law_order T.F_law_order.kp T.b_law_order .nil pass0 (pa_cons (pv 0) (pa_cons pe_int pa_nil)))) (blkOk_by (own := [("_law_place", 5)]) (N := ["_law_hand_here", "_law_end", "_law_reds", "_law_blues", "_law_others", "_law_place"]) (sc := defScope s_law_painted_eight) (by decide +kernel)) (fun _ _ _ _ _ => pg_name (i := 5) sc_law_painted_eight.nd rfl (Or.inl rfl)) (fun _ _ _ _ _ => (pts_one (pt_cmpR op_ne (pv 5) (pv 1) (nomark _)))) (fun _ _ _ _ _ => (pv 5)))
  (pss_cons (ps_for PassesOwn.never rfl (pi_list (pe_slice sl_list (pv 4) po_none (po_some (pe_op op_add pe_int (pe_call (ok_law_take T) (hr.mono (by decide)) rfl T.m_law_take T.F_law_take.kp T.b_law_take .nil pass0 (pa_cons (pv 0) (pa_cons pe_int pa_nil))))))) (pg_name (i := 5) sc_law_painted_eight.nd rfl (by first | exact Or.inl rfl | exact Or.inr rfl)) (pss_one (ps_if (pt_cmpR op_eq (pe_call (ok_law_take T) (hr.mono (by decide)) rfl T.m_law_take T.F_law_take.kp T.b_law_take .nil pass0 (pa_cons (pv 0) (pa_cons pe_int pa_nil))) pe_int (nomark _)) (pss_one (ps_expr (pe_bm PySem.F.plainAttrs_list PySem.F.slot_list_append PySem.F.type_list_append mt_append (pv 2) (pa_cons (pv 5) pa_nil))))
    (pss_one (ps_expr (pe_bm PySem.F.plainAttrs_list PySem.F.slot_list_append PySem.F.type_list_append mt_append (pv 3) (pa_cons (pv 5) pa_nil)))))))
  (pss_one (ps_ret (pe_tup (pa_cons (pv 2) (pa_cons (pv 3) pa_nil))))))))), ?_⟩
    walk_at "sm"
    refine ⟨sz (by decide), fun p1 hp1 => ⟨sz (by decide), fun p2 hp2 => ?_⟩⟩
    obtain ⟨f1, g1, x1⟩ := hand_new (o := .lst [V.int (e : Nat)]) (Fr.refl H) ha hp1
    obtain ⟨f2, g2, x2⟩ := hand_new (o := .lst []) f1 g1 hp2
    have n12 : p1 ≠ p2 := fun z => by rw [← z, upd_same] at hp2; cases hp2
    have hp2' : H p2 = none := by rw [upd_ne (Ne.symm n12)] at hp2; exact hp2
    have s0 : PtS h0 c H p1 p2 8 [e] [] (upd (upd H p1 (.lst [V.int (e : Nat)])) p2 (.lst [])) := ⟨f2, g2, by rw [upd_ne n12]; exact upd_same, upd_same, by simp, fun x hx => by rw [List.append_nil, List.mem_singleton] at hx; omega⟩
    generalize upd (upd H p1 (.lst [V.int (e : Nat)])) p2 (.lst []) = H1 at s0 g2 f2 ⊢
    refine ⟨h0, c, 8, rfl, g2, by omega, fun q o H2 f3 g3 hq nq hq1 pm => ⟨q, rfl, ⟨_, SqL.of hq⟩, ?_⟩⟩
    have s1 := s0.draw x1 x2 f3 g3
    have ond : o.Nodup := pm.nodup_iff.mpr List.nodup_range
    have olen : o.length = 8 := by rw [pm.length_eq, List.length_range]
    refine lcg_list (K := K) (a := q) (xs := (nI o).map V.int) (ivF H2 o e) (fun D hD => ⟨Evl.Ex.new hD, upd_same⟩) (fun D i HY hD hi h => SqL.of (h.1 _ _ hq)) ?_ ?_
    · rintro D i y HY hD hy ⟨w1, w2⟩
      obtain ⟨z, hz, rfl⟩ := nat_at hy
      have il := (List.getElem?_eq_some_iff.mp hz).1
      walk_at "sm"
      have ts : (o.take (i + 1)).filter (fun y => decide (y ≠ e)) = (o.take i).filter (fun y => decide (y ≠ e)) ++ if z = e then [] else [z] := by
        rw [List.take_succ, hz, Option.toList_some, List.filter_append, List.filter_cons, List.filter_nil]
        by_cases c : z = e
        · rw [if_pos c, if_neg (by simpa using c)]
        · rw [if_neg c, if_pos (by simpa using c)]
      have len : ((o.take i).filter (fun y => decide (y ≠ e))).length ≤ 8 := by
        have := List.length_filter_le (fun y => decide (y ≠ e)) (o.take i)
        rw [List.length_take] at this
        omega
      by_cases c : z = e
      · rw [if_pos c, List.append_nil] at ts
        refine iteF' (by rw [decide_eq_true (show (z : Int) = (e : Int) by omega)]; rfl) ⟨w1, ?_⟩
        rw [ts]
        exact w2
      · rw [if_neg c] at ts
        refine iteT' (by rw [decide_eq_false (show ¬ (z : Int) = (e : Int) by omega)]; rfl) ⟨_, w2, by rw [nI_len, sizeLine_eq]; omega, w1.mut hD, ?_⟩
        rw [upd_same, ts, nI_app]
        rfl
    · rintro D HY hD ⟨w1, w2⟩
      rw [nI_len, List.take_length] at w2
      have s3 := PtS.mk (s1.fr.trans (Fr.of w1)) (s1.hd.go w1) (w1 _ _ s1.a1) (w1 _ _ s1.a2) s1.nd s1.lo
      obtain ⟨oo, hoo⟩ : ∃ oo, o.filter (fun y => decide (y ≠ e)) = oo := ⟨_, rfl⟩
      rw [hoo] at w2
      have oond : oo.Nodup := by rw [← hoo]; exact ond.filter _
      have oo8 : ∀ x ∈ oo, x < 8 ∧ x ≠ e := fun x hx => by
        rw [← hoo] at hx
        obtain ⟨z1, z2⟩ := List.mem_filter.mp hx
        exact ⟨List.mem_range.mp (pm.mem_iff.mp z1), by simpa using z2⟩
      refine ⟨_, rfl, _, rfl, h0, c, 4, rfl, s3.hd, by decide, by decide, fun r H4 r1 r2 f4 g4 => ⟨3, r, rfl, rfl, _, rfl, ?_⟩⟩
      have nD : D ≠ h0 := fun z => by
        obtain ⟨ys, hy⟩ := hand_lst g3
        rw [z, hy] at hD
        cases hD
      have s4 := s3.draw x1 x2 f4 g4
      obtain ⟨oc, hoc, sub⟩ := cut_nI oo none (some (3 + r))
      have w4 := f4 _ _ nD w2
      refine ⟨D, _, rfl, SqL.of w4, fun z hz => ?_⟩
      rw [hoc]
      have nz1 : z ≠ p1 := fun w => by rw [w, s4.a1] at hz; cases hz
      have nz2 : z ≠ p2 := fun w => by rw [w, s4.a2] at hz; cases hz
      obtain ⟨f5, g5, nz⟩ := hand_new (o := .lst ((nI oc).map V.int)) s4.fr s4.hd hz
      have e5 := Evl.Ex.new (o := .lst ((nI oc).map V.int)) hz
      have s5 := PtS.mk f5 g5 (e5 _ _ s4.a1) (e5 _ _ s4.a2) s4.nd s4.lo
      have hz5 : upd H4 z (.lst ((nI oc).map V.int)) z = some (.lst ((nI oc).map V.int)) := upd_same
      generalize upd H4 z (.lst ((nI oc).map V.int)) = H5 at s5 hz5 ⊢
      have ocnd := oond.sublist sub
      refine ⟨z, rfl, ⟨_, SqL.of hz5⟩, for_list (K := K) (a := z) (xs := (nI oc).map V.int) (ivPE h0 c H p1 p2 z e oc) ⟨_, _, [e], [], rfl, s5, by simp, fun x hx => .inl (by simpa using hx), hz5⟩ (fun i σ HX hi ⟨_, _, _, _, _, _, _, _, q⟩ => SqL.of q) ?_ ?_⟩
      · rintro i y σ HX hy ⟨v4, v5, l, m, rfl, s, ne, sb5, hzX⟩
        obtain ⟨x, hx, rfl⟩ := nat_at hy
        obtain ⟨x8, xe⟩ := oo8 x (sub.subset (List.mem_of_getElem? hx))
        have tk := fun y => take_mem (x := y) hx
        have nin : x ∉ l ++ m := fun w => (sb5 x w).elim xe (take_not hx ocnd)
        have lens := s.lens
        walk_at "sm"
        refine ⟨h0, c, 2, rfl, s.hd, by decide, by decide, fun r H6 r1 r2 f6 g6 => ?_⟩
        have s6 := s.draw x1 x2 f6 g6
        have hz6 := f6 _ _ nz hzX
        refine ⟨rfl, ite2 (fun _ => ?_) fun _ => ?_⟩
        · refine ⟨(show tyV K "list" (.ref p1) H6 from .inl ⟨rfl, _, SqL.of s6.a1⟩), p1, _, _, rfl, rfl, s6.a1, by rw [nI_len, sizeLine_eq]; omega, _, _, l ++ [x], m, rfl, s6.red ha hp1 n12 nin x8, by simp, fun y hy => ?_, by rw [upd_ne nz1]; exact hz6⟩
          rw [List.append_assoc] at hy
          rcases List.mem_append.mp hy with w | w
          · exact (sb5 y (List.mem_append_left _ w)).imp id fun q => (tk y).mpr (.inl q)
          · rcases List.mem_append.mp w with w | w
            · exact .inr ((tk y).mpr (.inr (List.mem_singleton.mp w)))
            · exact (sb5 y (List.mem_append_right _ w)).imp id fun q => (tk y).mpr (.inl q)
        · refine ⟨(show tyV K "list" (.ref p2) H6 from .inl ⟨rfl, _, SqL.of s6.a2⟩), p2, _, _, rfl, rfl, s6.a2, by rw [nI_len, sizeLine_eq]; omega, _, _, l, m ++ [x], rfl, s6.blue ha hp2' n12 nin x8, ne, fun y hy => ?_, by rw [upd_ne nz2]; exact hz6⟩
          rw [← List.append_assoc] at hy
          rcases List.mem_append.mp hy with w | w
          · exact (sb5 y w).imp id fun q => (tk y).mpr (.inl q)
          · exact .inr ((tk y).mpr (.inr (List.mem_singleton.mp w)))
      · rintro σ HX ⟨v4, v5, l, m, rfl, s, ne, sb5, hzX⟩
        walk_at "sm"
        refine ⟨sz (by decide), fun t ht => ?_⟩
        obtain ⟨f3, g3, x3⟩ := hand_new (o := .tup [V.ref p1, V.ref p2]) s.fr s.hd ht
        have e3 := Evl.Ex.new (o := .tup [V.ref p1, V.ref p2]) ht
        exact k _ _ p1 p2 l m t f3 g3 rfl upd_same ⟨e3 _ _ s.a1, e3 _ _ s.a2, ne, s.nd, s.lo⟩
end


/-! ### broken paintings -/
section
variable {P : Program} {w : World} {K : PySem.W.Frag} {mg : Str → Option Value} {base : Heap} {a : Ad}
def spBk : Sp := fun vs H Q _ => ∃ (h c p1 p2 : Addr) (n : Nat) (l m : List Nat), vs = [.ref h, .ref p1, .ref p2, .int n] ∧ HandAt H h c ∧ p1 ≠ h ∧ p2 ≠ h ∧ 1 ≤ n ∧ n ≤ 8 ∧ RbAt H p1 p2 n l m ∧ ∀ H' t bv wd, Fr h H H' → HandAt H' h c → H' t = some (.tup [bv, .str wd]) → (∀ H'', Fr h H' H'' → HandAt H'' h c → PtAt H'' n bv (.inl wd) ∧ PlainV H'' bv) → bv ≠ .non → Q (.ref t) H'
structure Bk (h c : Addr) (H : Hp) (p1 p2 : Addr) (l m : List Nat) (HX : Hp) : Prop where
  fr : Fr h H HX
  hd : HandAt HX h c
  a1 : HX p1 = some (.lst ((nI l).map V.int))
  a2 : HX p2 = some (.lst ((nI m).map V.int))
theorem Bk.new {h c : Addr} {H : Hp} {p1 p2 : Addr} {l m : List Nat} {HX : Hp} (s : Bk h c H p1 p2 l m HX) {q : Addr} {o : HO} (hq : HX q = none) : Bk h c H p1 p2 l m (upd HX q o) := by
  obtain ⟨g1, g2, _⟩ := hand_new (o := o) s.fr s.hd hq
  have e := Evl.Ex.new (o := o) hq
  exact ⟨g1, g2, e _ _ s.a1, e _ _ s.a2⟩
def PairOk (n : Nat) (HX : Hp) (x y : V) (w : Str) : Prop := (w = "reds" ∧ (UlV HX n x none ∨ UlV HX n x (some []))) ∨ ∃ l, UlV HX n x (some l) ∧ l ≠ [] ∧ ((w = "blues" ∧ UlV HX n y none) ∨ ∃ m, UlV HX n y (some m) ∧ w = "both" ∧ ∃ p, p ∈ l ∧ p ∈ m)
theorem PairOk.go {n : Nat} {HX HY : Hp} {x y : V} {w : Str} (e : Evl.Ex HX HY) (h : PairOk n HX x y w) : PairOk n HY x y w := by
  rcases h with ⟨h1, h2⟩ | ⟨l, h1, h2, h3⟩
  · exact .inl ⟨h1, h2.imp (UlV.go e) (UlV.go e)⟩
  · refine .inr ⟨l, h1.go e, h2, ?_⟩
    rcases h3 with ⟨h3, h4⟩ | ⟨m, h3, h4⟩
    · exact .inl ⟨h3, h4.go e⟩
    · exact .inr ⟨m, h3.go e, h4⟩
theorem PairOk.pt {n : Nat} {HX : Hp} {x y : V} {w : Str} {q : Addr} (h : PairOk n HX x y w) (hq : SqAt HX q [x, y]) : PtAt HX n (.ref q) (.inl w) := .inr ⟨q, x, y, rfl, hq, h⟩
theorem PlainV.frh {H H' : Hp} {h c : Addr} {v : V} (f : Fr h H H') (g : HandAt H' h c) (p : PlainV H v) : PlainV H' v := by
  rcases p with p | p | p | p | ⟨q, xs, rfl, e⟩ | ⟨q, xs, rfl, e⟩
  · exact .inl p
  · exact .inr (.inl p)
  · exact .inr (.inr (.inl p))
  · exact .inr (.inr (.inr (.inl p)))
  all_goals
    by_cases z : q = h
    · subst z
      obtain ⟨ys, hy⟩ := hand_lst g
      exact .inr (.inr (.inr (.inr (.inr ⟨_, _, rfl, hy⟩))))
    · first
        | exact .inr (.inr (.inr (.inr (.inl ⟨_, _, rfl, f _ _ z e⟩))))
        | exact .inr (.inr (.inr (.inr (.inr ⟨_, _, rfl, f _ _ z e⟩))))
theorem SqAt.frh {H H' : Hp} {h q : Addr} {xs : List V} (f : Fr h H H') (n : q ≠ h) (p : SqAt H q xs) : SqAt H' q xs := p.imp (f _ _ n) (f _ _ n)
theorem UlV.frh {H H' : Hp} {h c : Addr} {n : Nat} {v : V} {o : Option (List Nat)} (f : Fr h H H') (g : HandAt H' h c) (nv : v ≠ .ref h) (p : UlV H n v o) : UlV H' n v o := by
  cases o with
  | some l =>
    obtain ⟨q, rfl, h2, h3⟩ := p
    exact ⟨q, rfl, h2.frh f fun z => nv (by rw [z]), h3⟩
  | none =>
    rcases p with p | ⟨q, ys, rfl, h2, h3, h4, h5⟩
    · exact .inl ⟨p.1.frh f g, p.2⟩
    · exact .inr ⟨q, ys, rfl, h2.frh f fun z => nv (by rw [z]), h3, fun y hy => (h4 y hy).frh f g, h5⟩
theorem PairOk.frh {n : Nat} {HX HY : Hp} {h c : Addr} {x y : V} {w : Str} (f : Fr h HX HY) (g : HandAt HY h c) (nx : x ≠ .ref h) (ny : y ≠ .ref h) (p : PairOk n HX x y w) : PairOk n HY x y w := by
  rcases p with ⟨h1, h2⟩ | ⟨l, h1, h2, h3⟩
  · exact .inl ⟨h1, h2.imp (UlV.frh f g nx) (UlV.frh f g nx)⟩
  · refine .inr ⟨l, h1.frh f g nx, h2, ?_⟩
    rcases h3 with ⟨h3, h4⟩ | ⟨m, h3, h4⟩
    · exact .inl ⟨h3, h4.frh f g ny⟩
    · exact .inr ⟨m, h3.frh f g ny, h4⟩
theorem ul_bad {HX : Hp} {n q : Nat} {l : List Nat} {z : V} (hq : HX q = some (.lst ((nI l).map V.int ++ [z]))) (hl : l.length ≤ 8) (hz : isP n z = false) (hp : PlainV HX z) : UlV HX n (.ref q) none := by
  refine .inr ⟨q, _, rfl, .inr hq, by rw [List.length_append, nI_len]; show l.length + 1 ≤ 60; omega, fun y hy => ?_, .inl ?_⟩
  · rcases List.mem_append.mp hy with w | w
    · exact ints_plain' _ y w
    · rw [List.mem_singleton.mp w]
      exact hp
  · rw [List.all_append]
    show (_ && (isP n z && true)) = false
    rw [hz]
    simp
theorem ul_dup {HX : Hp} {n q : Nat} {l : List Nat} (hq : HX q = some (.lst ((nI l).map V.int))) (hl : l.length ≤ 12) (hn : ∀ x ∈ l, x < n) (hd : ¬ l.Nodup) : UlV HX n (.ref q) none :=
  .inr ⟨q, _, rfl, .inr hq, by rw [nI_len]; omega, ints_plain' _, .inr ⟨l, rfl, hn, hd⟩⟩
theorem ok_law_broken (T : Txt K mg a) : FnOk P w K mg base CX0 3 a.f_law_broken a.d_law_broken ["_law_hand_here", "_law_reds", "_law_blues", "_law_many"] spBk := by
  refine T.F_law_broken.ok sc_law_broken (fun vs H Q E h => ?_) (fun cdv A outer s H vs Q E hr h => ?_)
  · obtain ⟨_, _, _, _, _, _, _, rfl, _⟩ := h
    rfl
  · obtain ⟨h0, c, p1, p2, n, l, m, rfl, ha, x1, x2, n1, n8, ⟨b1, b2, ne, nd, lo⟩, k⟩ := h
    refine ⟨_, (pss_cons (ps_set (i := 4) sc_law_broken.nd rfl (by first | exact Or.inl rfl | exact Or.inr rfl) (pe_call (ok_law_take T) (hr.mono (by decide)) rfl T.m_law_take T.F_law_take.kp T.b_law_take .nil pass0 (pa_cons (pv 0) (pa_cons pe_int pa_nil))))
  (pss_cons (ps_set (i := 5) sc_law_broken.nd rfl (by first | exact Or.inl rfl | exact Or.inr rfl) (pe_ix ix_list (pv 1) pe_int (fun _ _ => rfl)))
  (pss_cons (ps_if (pt_cmpR op_eq (pv 4) pe_int (nomark _)) (pss_one (ps_ret (pe_tup (pa_cons (pe_tup (pa_cons (pv 1) (pa_cons (pv 2) (pa_cons (pv 1) pa_nil)))) (pa_cons pe_str pa_nil)))))
    pss_nil)
  (pss_cons (ps_if (pt_cmpR op_eq (pv 4) pe_int (nomark _)) (pss_one (ps_ret (pe_tup (pa_cons pe_int (pa_cons pe_str pa_nil)))))
    pss_nil)
  (pss_cons (ps_if (pt_cmpR op_eq (pv 4) pe_int (nomark _)) (pss_one (ps_ret (pe_tup (pa_cons (pe_tup (pa_cons (pe_lst pa_nil) (pa_cons (pv 2) pa_nil))) (pa_cons pe_str pa_nil)))))
    pss_nil)
  (pss_cons (ps_if (pt_cmpR op_eq (pv 4) pe_int (nomark _)) (pss_one (ps_ret (pe_tup (pa_cons (pe_tup (pa_cons (pe_op op_cat (pv 1) (pe_lst (pa_cons (pv 5) pa_nil))) (pa_cons (pv 2) pa_nil))) (pa_cons pe_str pa_nil)))))
    pss_nil)
  (pss_cons (ps_if (pt_cmpR op_eq (pv 4) pe_int (nomark _)) (pss_one (ps_ret (pe_tup (pa_cons (pe_lst (pa_cons (pe_op op_cat (pv 1) (pe_lst (pa_cons (pv 3) pa_nil))) (pa_cons (pe_op op_cat (pv 2) (pe_lst (pa_cons (pe_un un_neg pe_int) pa_nil))) pa_nil))) (pa_cons pe_str pa_nil)))))
    pss_nil)
  (pss_cons (ps_if (pt_cmpR op_eq (pv 4) pe_int (nomark _)) (pss_one (ps_ret (pe_tup (pa_cons (pe_tup (pa_cons pe_bl (pa_cons (pe_op op_cat (pv 2) (pe_lst (pa_cons (pv 5) pa_nil))) pa_nil))) (pa_cons pe_str pa_nil)))))
    pss_nil)
  (pss_cons (ps_if (pt_cmpR op_eq (pv 4) pe_int (nomark _)) (pss_one (ps_ret (pe_tup (pa_cons (pe_lst (pa_cons (pv 1) (pa_cons (pe_op op_cat (pv 2) (pe_lst (pa_cons (pe_un un_neg pe_int) pa_nil))) pa_nil))) (pa_cons pe_str pa_nil)))))
    pss_nil)
  (pss_cons (ps_if (pt_cmpR op_eq (pv 4) pe_int (nomark _)) (pss_one (ps_ret (pe_tup (pa_cons (pe_tup (pa_cons (pv 1) (pa_cons pe_non pa_nil))) (pa_cons pe_str pa_nil)))))
    pss_nil)
  (pss_cons (ps_if (pt_cmpR op_eq (pv 4) pe_int (nomark _)) (pss_one (ps_ret (pe_tup (pa_cons (pe_tup (pa_cons (pv 1) (pa_cons (pe_op op_cat (pv 2) (pe_lst (pa_cons (pv 5) (pa_cons (pv 5) pa_nil)))) pa_nil))) (pa_cons pe_str pa_nil)))))
    pss_nil)
  (pss_cons (ps_if (pt_cmpR op_eq (pv 4) pe_int (nomark _)) (pss_one (ps_ret (pe_tup (pa_cons (pe_tup (pa_cons (pe_lst (pa_cons pe_bl pa_nil)) (pa_cons (pe_op op_cat (pv 2) (pe_lst (pa_cons (pv 3) pa_nil))) pa_nil))) (pa_cons pe_str pa_nil)))))
    pss_nil)
  (pss_cons (ps_if (pt_cmpR op_eq (pv 4) pe_int (nomark _)) (pss_one (ps_ret (pe_tup (pa_cons (pe_tup (pa_cons (pe_lst pa_nil) (pa_cons pe_non pa_nil))) (pa_cons pe_str pa_nil)))))
    pss_nil)
  (pss_one (ps_ret (pe_tup (pa_cons (pe_tup (pa_cons (pv 1) (pa_cons (pe_op op_cat (pe_lst (pa_cons (pv 5) pa_nil)) (pv 2)) pa_nil))) (pa_cons pe_str pa_nil)))))))))))))))))), ?_⟩
    walk_at "sm"
    have lens : l.length ≤ 8 ∧ m.length ≤ 8 := by
      have := nd.length_le_of_subset (fun x hx => List.mem_range.mpr (lo x hx) : l ++ m ⊆ List.range n)
      rw [List.length_range, List.length_append] at this
      omega
    have lnd : l.Nodup := (List.nodup_append.mp nd).1
    have mnd : m.Nodup := (List.nodup_append.mp nd).2.1
    have dj : ∀ x ∈ l, x ∉ m := fun x hx hx2 => (List.nodup_append.mp nd).2.2 x hx x hx2 rfl
    have ln : ∀ x ∈ l, x < n := fun x hx => lo x (List.mem_append_left _ hx)
    have mn : ∀ x ∈ m, x < n := fun x hx => lo x (List.mem_append_right _ hx)
    obtain ⟨fs, l', hl'⟩ := List.exists_cons_of_ne_nil ne
    have fsl : fs ∈ l := by rw [hl']; exact List.mem_cons_self
    have l0 : l[0]? = some fs := by rw [hl']; rfl
    have out : ∀ (HX : Hp) (bv : V) (wd : Str), Bk h0 c H p1 p2 l m HX → bv ≠ .non → ∀ (q : Addr), HX q = none → (∀ HY, Fr h0 HX HY → HandAt HY h0 c → PtAt HY n bv (.inl wd) ∧ PlainV HY bv) → Q (.ref q) (upd HX q (.tup [bv, .str wd])) := fun HX bv wd s nn q hq pg => by
      have s' := s.new (o := .tup [bv, .str wd]) hq
      exact k _ q bv wd s'.fr s'.hd upd_same (fun HY f g => pg HY ((Fr.of (Evl.Ex.new hq)).trans f) g) nn
    have nref : ∀ {q : Addr}, q ≠ h0 → V.ref q ≠ V.ref h0 := fun z w => z (V.ref.inj w)
    have nnew : ∀ {HX : Hp} {q : Addr}, Bk h0 c H p1 p2 l m HX → HX q = none → q ≠ h0 := fun s hq => (hand_new (o := .tup []) s.fr s.hd hq).2.2
    have prT : ∀ (HX : Hp) (x y : V) (wd : Str), Bk h0 c H p1 p2 l m HX → x ≠ .ref h0 → y ≠ .ref h0 → PairOk n HX x y wd → 0 + 1 + 1 ≤ sizeLine ∧ ∀ (q : Addr), HX q = none → 0 + 1 + 1 ≤ sizeLine ∧ ∀ (q1 : Addr), upd HX q (.tup [x, y]) q1 = none → Q (.ref q1) (upd (upd HX q (.tup [x, y])) q1 (.tup [.ref q, .str wd])) := fun HX x y wd s nx ny hpo => by
      refine ⟨sz (by decide), fun q hq => ⟨sz (by decide), fun q1 hq1 => ?_⟩⟩
      have e := Evl.Ex.new (o := .tup [x, y]) hq
      have sq : SqAt (upd HX q (.tup [x, y])) q [x, y] := .inl upd_same
      have qh := nnew s hq
      exact out _ (.ref q) wd (s.new hq) (by intro z; cases z) q1 hq1 fun HY fY gY => ⟨((hpo.go e).frh fY gY nx ny).pt (sq.frh fY qh), (sq.frh fY qh).plain⟩
    have prL : ∀ (HX : Hp) (x y : V) (wd : Str), Bk h0 c H p1 p2 l m HX → x ≠ .ref h0 → y ≠ .ref h0 → PairOk n HX x y wd → 0 + 1 + 1 ≤ sizeLine ∧ ∀ (q : Addr), HX q = none → 0 + 1 + 1 ≤ sizeLine ∧ ∀ (q1 : Addr), upd HX q (.lst [x, y]) q1 = none → Q (.ref q1) (upd (upd HX q (.lst [x, y])) q1 (.tup [.ref q, .str wd])) := fun HX x y wd s nx ny hpo => by
      refine ⟨sz (by decide), fun q hq => ⟨sz (by decide), fun q1 hq1 => ?_⟩⟩
      have e := Evl.Ex.new (o := .lst [x, y]) hq
      have sq : SqAt (upd HX q (.lst [x, y])) q [x, y] := .inr upd_same
      have qh := nnew s hq
      exact out _ (.ref q) wd (s.new hq) (by intro z; cases z) q1 hq1 fun HY fY gY => ⟨((hpo.go e).frh fY gY nx ny).pt (sq.frh fY qh), (sq.frh fY qh).plain⟩
    have ct : ∀ (HX : Hp) (pa : Addr) (la : List Nat) (zs : List V) (R : VK), Bk h0 c H p1 p2 l m HX → HX pa = some (.lst ((nI la).map V.int)) → la.length ≤ 8 → zs.length ≤ 2 → (∀ HY q, Bk h0 c H p1 p2 l m HY → Evl.Ex HX HY → V.ref q ≠ V.ref h0 → HY q = some (.lst ((nI la).map V.int ++ zs)) → R (.ref q) HY) → ∀ (q : Addr), HX q = none → rCat (.ref pa) (.ref q) (upd HX q (.lst zs)) R := fun HX pa la zs R s hpa hla hzs r q hq => by
      have e := Evl.Ex.new (o := .lst zs) hq
      refine ⟨pa, q, _, _, rfl, rfl, e _ _ hpa, upd_same, by rw [nI_len, sizeLine_eq]; omega, fun q2 hq2 => ?_⟩
      exact r _ q2 ((s.new hq).new hq2) (e.trans (Evl.Ex.new hq2)) (nref (nnew (s.new hq) hq2)) upd_same
    have ur : ∀ HX, Bk h0 c H p1 p2 l m HX → UlV HX n (.ref p1) (some l) := fun HX s => ⟨p1, rfl, .inr s.a1, lnd, ln⟩
    refine ⟨h0, c, 12, rfl, ha, by decide, by decide, fun r H1 r1 r2 f1 g1 => ?_⟩
    have s1 : Bk h0 c H p1 p2 l m H1 := ⟨f1, g1, f1 _ _ x1 b1, f1 _ _ x2 b2⟩
    refine ixl (SqL.of s1.a1) (atI_nat (j := 0) (nI_get l0)) ⟨rfl, ite2 (fun _ => ?_) fun _ => ⟨rfl, ite2 (fun _ => ?_) fun _ => ⟨rfl, ite2 (fun _ => ?_) fun _ => ⟨rfl, ite2 (fun _ => ?_) fun _ => ⟨rfl, ite2 (fun _ => ?_) fun _ => ⟨rfl, ite2 (fun _ => ?_) fun _ => ⟨rfl, ite2 (fun _ => ?_) fun _ => ⟨rfl, ite2 (fun _ => ?_) fun _ => ⟨rfl, ite2 (fun _ => ?_) fun _ => ⟨rfl, ite2 (fun _ => ?_) fun _ => ⟨rfl, ite2 (fun _ => ?_) fun _ => ?_⟩⟩⟩⟩⟩⟩⟩⟩⟩⟩⟩
    · refine ⟨sz (by decide), fun q hq => ⟨sz (by decide), fun q1 hq1 => ?_⟩⟩
      have e := Evl.Ex.new (o := .tup [V.ref p1, V.ref p2, V.ref p1]) hq
      have sq : SqAt (upd H1 q (.tup [V.ref p1, V.ref p2, V.ref p1])) q [V.ref p1, V.ref p2, V.ref p1] := .inl upd_same
      have qh := nnew s1 hq
      exact out _ (.ref q) "painting" (s1.new hq) (by intro z; cases z) q1 hq1 fun HY fY gY => ⟨.inl ⟨rfl, .inr ⟨q, _, rfl, sq.frh fY qh, (by decide : (3 : Nat) ≠ 2), (by decide : (3 : Nat) ≤ 60)⟩⟩, (sq.frh fY qh).plain⟩
    · refine ⟨sz (by decide), fun q1 hq1 => ?_⟩
      have pk : ∀ HY, PtAt HY n (.int 5) (.inl "painting") := fun HY => .inl ⟨rfl, .inl ⟨plain_int, rfl⟩⟩
      exact out _ (.int 5) "painting" s1 (by intro z; cases z) q1 hq1 fun HY _ _ => ⟨pk HY, plain_int⟩
    · refine ⟨sz (by decide), fun q hq => ?_⟩
      exact prT _ _ _ _ (s1.new hq) (nref (nnew s1 hq)) (by first | exact nref x2 | exact (by intro z; cases z)) (.inl ⟨rfl, .inr ⟨q, rfl, .inr upd_same, List.nodup_nil, fun x hx => nomatch hx⟩⟩)
    · refine ⟨sz (by decide), ct H1 p1 l [.int (fs : Nat)] _ s1 s1.a1 lens.1 (by simp) fun HY q sY eY qn hq => prT _ _ _ _ sY qn (nref x2) (.inl ⟨rfl, .inl (ul_dup (l := l ++ [fs]) (by rw [nI_snoc]; exact hq) (by rw [List.length_append]; show l.length + 1 ≤ 12; omega) ?_ ?_)⟩)⟩
      · intro x hx
        rcases List.mem_append.mp hx with w | w
        · exact ln x w
        · rw [List.mem_singleton.mp w]
          exact ln fs fsl
      · exact fun w => (List.nodup_append.mp w).2.2 fs fsl fs List.mem_cons_self rfl
    · refine ⟨sz (by decide), ct H1 p1 l [.int (n : Nat)] _ s1 s1.a1 lens.1 (by simp) fun HY q sY eY qn hq => ⟨sz (by decide), ct HY p2 m [.int (-1)] _ sY sY.a2 lens.2 (by simp) fun HZ q2 sZ eZ qn2 hq2 => prL _ _ _ _ sZ qn qn2 (.inl ⟨rfl, .inl ((ul_bad hq lens.1 ?_ plain_int).go eZ)⟩)⟩⟩
      rw [isP_int]
      exact decide_eq_false (Nat.lt_irrefl n)
    · exact ⟨sz (by decide), ct H1 p2 m [.int (fs : Nat)] _ s1 s1.a2 lens.2 (by simp) fun HY q sY eY qn hq => prT _ _ _ _ sY (by intro z; cases z) qn (.inl ⟨rfl, .inl (.inl ⟨.inr (.inl ⟨true, rfl⟩), rfl⟩)⟩)⟩
    · exact ⟨sz (by decide), ct H1 p2 m [.int (-1)] _ s1 s1.a2 lens.2 (by simp) fun HY q sY eY qn hq => prL _ _ _ _ sY (nref x1) qn (.inr ⟨l, ur _ sY, ne, .inl ⟨rfl, ul_bad hq lens.2 rfl plain_int⟩⟩)⟩
    · exact prT _ _ _ _ s1 (nref x1) (by intro z; cases z) (.inr ⟨l, ur _ s1, ne, .inl ⟨rfl, .inl ⟨.inl rfl, rfl⟩⟩⟩)
    · refine ⟨sz (by decide), ct H1 p2 m [.int (fs : Nat), .int (fs : Nat)] _ s1 s1.a2 lens.2 (by simp) fun HY q sY eY qn hq => prT _ _ _ _ sY (nref x1) qn (.inr ⟨l, ur _ sY, ne, .inl ⟨rfl, ul_dup (l := m ++ [fs, fs]) ?_ (by rw [List.length_append]; show m.length + 2 ≤ 12; omega) ?_ ?_⟩⟩)⟩
      · rw [nI_app]
        exact hq
      · intro x hx
        rcases List.mem_append.mp hx with w | w
        · exact mn x w
        · have : x = fs := by simpa using w
          rw [this]
          exact ln fs fsl
      · exact fun w => (List.nodup_cons.mp (List.nodup_append.mp w).2.1).1 List.mem_cons_self
    · refine ⟨sz (by decide), fun q hq => ⟨sz (by decide), ct _ p2 m [.int (n : Nat)] _ (s1.new hq) (s1.new hq).a2 lens.2 (by simp) fun HY q1 sY eY qn1 hq1 => prT _ _ _ _ sY (nref (nnew s1 hq)) qn1 (.inl ⟨rfl, .inl (.inr ⟨q, [.bl false], rfl, .inr (eY _ _ upd_same), (by decide : (1 : Nat) ≤ 60), fun y hy => by rw [List.mem_singleton.mp hy]; exact .inr (.inl ⟨false, rfl⟩), .inl rfl⟩)⟩)⟩⟩
    · refine ⟨sz (by decide), fun q hq => ?_⟩
      exact prT _ _ _ _ (s1.new hq) (nref (nnew s1 hq)) (by first | exact nref x2 | exact (by intro z; cases z)) (.inl ⟨rfl, .inr ⟨q, rfl, .inr upd_same, List.nodup_nil, fun x hx => nomatch hx⟩⟩)
    · refine ⟨sz (by decide), fun q hq => ?_⟩
      have s2 := s1.new (o := .lst [V.int (fs : Nat)]) hq
      refine ⟨q, p2, _, _, rfl, rfl, upd_same, s2.a2, by rw [nI_len, sizeLine_eq]; show 1 + m.length ≤ _; omega, fun q2 hq2 => ?_⟩
      have s3 := s2.new (o := .lst ([V.int (fs : Nat)] ++ (nI m).map V.int)) hq2
      refine prT _ _ _ _ s3 (nref x1) (nref (nnew s2 hq2)) (.inr ⟨l, ur _ s3, ne, .inr ⟨fs :: m, ⟨q2, rfl, .inr upd_same, List.nodup_cons.mpr ⟨dj fs fsl, mnd⟩, fun x hx => ?_⟩, rfl, fs, fsl, List.mem_cons_self⟩⟩)
      rcases List.mem_cons.mp hx with rfl | w
      · exact ln x fsl
      · exact mn x w
end


/-! ### try with several clauses, each with a name or without -/
/-- the ends of a suite whose name goes behind it -/
def enM (o : Option Nat) (D : Ends) : Ends := match o with
  | none => D
  | some i => { nx := fun σ H => D.nx (σ.set i none) H, rt := D.rt, bk := fun σ H => D.bk (σ.set i none) H, ct := fun σ H => D.ct (σ.set i none) H }
def stM (o : Option Nat) (σ : L2.St) (e : Addr) : L2.St := match o with
  | none => σ
  | some i => σ.set i (some (.ref e))
abbrev Cla := Value × Option Nat × (Addr → Value → Option Addr → TS)
/-- what such clauses wish of an exception of the body -/
def wM (K : PySem.W.Frag) (W : L2.WX) (D : Ends) : List Cla → L2.WX
  | [] => W
  | p :: l => fun cls d σ H => ∃ b, PySem.W.exmOne K cls p.1 = some b ∧ (b = true → ∀ e, H e = none → p.2.2 e cls d (enM p.2.1 D) (stM p.2.1 σ e) H) ∧ (b = false → wM K W D l cls d σ H)
inductive ClaOk (X : Cx) : List ExceptHandler → List Cla → Prop
  | nil : ClaOk X [] []
  | bare {x : Str} {c : Value} {ts : Addr → Value → Option Addr → TS} {f : Stmt} {fs : List Stmt} {p1 p2 : Pos} {hs : List ExceptHandler} {l : List Cla} (n : Names X x c)
      (su : ∀ (e : Addr) (o : Obj) (cls : Value) (d : Option Addr) (pn : List (Addr × Obj)), Zc cls d o → (∃ vs, o.data = .fields vs) → PSs (X.suite e ((e, o) :: pn)) (f :: fs) (ts e cls d)) (r : ClaOk X hs l) : ClaOk X (.ExceptHandler (some (.Name x p1)) none (f :: fs) p2 :: hs) ((c, none, ts) :: l)
  | named {x n : Str} {c : Value} {i : Nat} {ts : Addr → Value → Option Addr → TS} {f : Stmt} {fs : List Stmt} {p1 p2 : Pos} {hs : List ExceptHandler} {l : List Cla} (nd : X.N.Nodup) (hi : X.N[i]? = some n) (hl : X.env.kindOf n = some .local) (nm : Names X x c)
      (su : ∀ (e : Addr) (o : Obj) (cls : Value) (d : Option Addr) (pn : List (Addr × Obj)), Zc cls d o → (∃ vs, o.data = .fields vs) → PSs (X.suite e ((e, o) :: pn)) (f :: fs) (ts e cls d)) (r : ClaOk X hs l) : ClaOk X (.ExceptHandler (some (.Name x p1)) (some n) (f :: fs) p2 :: hs) ((c, some i, ts) :: l)
theorem ps_try_m {X : Cx} {body : List Stmt} {h1 : ExceptHandler} {hs : List ExceptHandler} {l : List Cla} {pos : Pos} {tb : L2.WX → TS} {W : L2.WX} (es : X.stack = X.env :: X.outer) (ef : X.env.frame = some X.env.locals) (tk : Takes X W)
    (hb : ∀ (V : L2.WX) (pn : List (Addr × Obj)) (xe : Value → Shared → Prop), Takes (X.tr pn xe) V → PassesOwn (model X.prog X.w) X.A X.env xe → PSs (X.tr pn xe) body (tb V)) (hh : ClaOk X (h1 :: hs) l) : PS X (.Try body (h1 :: hs) [] [] pos) (fun D σ H => tb (wM X.K W D l) D σ H) := by
  refine ⟨fun pins s σ H D I h => wpAny_Try_except ?_⟩
  have ok := I.ok
  have fr : X.A.frames = some (X.env :: X.outer) := ok.frames.trans (by rw [es])
  refine wpAny_mono ((hb (wM X.K W D l) (X.pn ++ pins) (fun e t1 => wpAny (model X.prog X.w) X.A (noteFrame e X.env) (fun _ t2 => wpAny (model X.prog X.w) X.A (setFlight e none) (fun _ t3 => wpAny (model X.prog X.w) X.A (handleBy e X.env (h1 :: hs)) (SP X pins D) X.xe t3) X.xe t2) X.xe t1) (fun u t xx => ?_) PassesOwn.looking).run [] s σ H D (I.toTry _) h) (fun f t hsp => ?_) fun _ _ z => z
  · obtain ⟨e, B, sI, pz, σ1, H1, cls, d, rfl, Jt, nb, up, sky, na, os, ag, w⟩ := xx
    have J : Inv X pins σ1 H1 sI := Jt.ofTry ok
    have sky2 : Sky B (X.env :: X.outer) e (Zc cls d) X.env.locals t.heap := by rw [← es]; exact sky
    show wpAny (model X.prog X.w) X.A (noteFrame (.ref e) X.env) _ _ _
    refine Sky.land Zc.steady fr ef sky2 fun hp fl u3 => ?_
    have J3 : Inv X pins σ1 H1 { t with heap := hp } := J.landed nb fl.1 (up.trans u3) os ag
    obtain ⟨o3, v3, g3, z3, d3⟩ := fl.there
    have far : e ∉ frs (X.env :: X.outer) := fun hm => by
      obtain ⟨_, o, q, hn⟩ := fl.2.2.1.mem hm
      rw [g3] at q; injection q with q; subst q
      exact hn _ d3
    have nL : e ≠ X.env.locals := fun z => far (List.mem_filterMap.mpr ⟨_, List.mem_cons_self, by rw [ef, z]⟩)
    have nF : e ∉ X.fs := fun hm => by
      obtain ⟨v, hv, q⟩ := List.mem_filterMap.mp hm
      exact far (List.mem_filterMap.mpr ⟨v, List.mem_cons_of_mem _ hv, q⟩)
    have S3 := J3.suite g3 d3 na nL nF
    have LT : PySem.W.Looks (model X.prog X.w) hp (typeOf (.ref e)) cls := fun A Q E s k q => wpAny_typeOf_ref (k _ _ g3) (by rw [z3.1]; exact q)
    have test : ∀ {x : Str} {c : Value} {np : Pos} {Q E : Value → Shared → Prop}, Names X x c → Q c { t with heap := hp } → wpAny (model X.prog X.w) (X.A.mark (some (.ref e))) (eval (.Name x np) X.env) Q E { t with heap := hp } := fun {x c np Q E} hc q => by
      obtain ⟨g, db, m | ⟨m, bt, nn⟩⟩ := hc
      · exact ld_glob (X := X.suite e ((e, o3) :: (X.pn ++ pins))) S3 g m q db
      · exact ld_blt (X := X.suite e ((e, o3) :: (X.pn ++ pins))) S3 g m bt q nn db
    have go : ∀ {hs2 : List ExceptHandler} {l2 : List Cla}, ClaOk X hs2 l2 → wM X.K W D l2 cls d σ1 H1 → wpAny (model X.prog X.w) X.A (handleBy (.ref e) X.env hs2) (SP X pins D) X.xe { t with heap := hp } := by
      intro hs2 l2 hk
      induction hk with
      | nil =>
        intro w
        refine wpAny_handleBy_nil ?_
        obtain ⟨_, _, _, oe, vs, T, oT, ts2, he, hz, hd, hh1, hr⟩ := id fl
        unfold PySem.passOn
        refine wpAny_bind (wpAny_field he hd hh1 ?_)
        have nn : ¬ ((Value.ref T == Value.none) = true) := by simp
        rw [if_neg nn]
        have fin : wpAny (model X.prog X.w) X.A (setFlight (.ref e) X.env.frame) (fun _ s4 => wpAny (model X.prog X.w) X.A (throw (.ref e) : Sem Flow) (SP X pins D) X.xe s4) X.xe { t with heap := hp } := by
          rw [ef]
          exact HandSPX.setFlight_upZ fl fun h4 hh4 u4 => wpAny_throw (tk _ _ ⟨e, B, sI, pins, σ1, H1, cls, d, rfl, J, nb, (up.trans u3).trans u4, .inr (.inr (by rw [es]; exact hh4)), na, os, ag, w⟩)
        first
          | exact wpAny_bind (wpAny_pure (wpAny_bind fin))
          | exact wpAny_bind fin
      | @bare x c ts f fs p1 p2 hs3 l3 hc su r ih =>
        rintro ⟨b, hb1, yes, no⟩
        refine wpAny_handleBy_cons (codeAny_handlers_test (test hc ((PySem.W.exm_one (M := model X.prog X.w) J3.kIn LT hb1).here ?_))) (by intro q; cases q)
        cases b with
        | false => exact ih (no rfl)
        | true =>
          refine codeAny_handlers_suite (HandSPX.lands_againZ fl fun h4 fl4 u4 => ?_)
          have J4 : Inv X pins σ1 H1 { t with heap := h4 } := J.landed nb fl4.1 ((up.trans u3).trans u4) os ag
          obtain ⟨o4, v4, g4, z4, d4⟩ := fl4.there
          refine wpAny_mono ((su e o4 cls d (X.pn ++ pins) z4 ⟨_, d4⟩).run [] _ _ H1 _ (J4.suite g4 d4 na nL nF) (yes rfl e na)) (fun f s6 q => ?_) fun _ _ z => z.elim
          cases f with
          | ret u => obtain ⟨v6, σ6, H6, S6, r6, q6⟩ := q; exact ⟨_, _, _, S6.unsuite ok, r6, q6⟩
          | next => obtain ⟨σ6, H6, S6, q6⟩ := q; exact ⟨_, _, S6.unsuite ok, q6⟩
          | brk => obtain ⟨σ6, H6, S6, q6⟩ := q; exact ⟨_, _, S6.unsuite ok, q6⟩
          | cont => obtain ⟨σ6, H6, S6, q6⟩ := q; exact ⟨_, _, S6.unsuite ok, q6⟩
      | @named x n c i ts f fs p1 p2 hs3 l3 nd hi hl hc su r ih =>
        rintro ⟨b, hb1, yes, no⟩
        refine wpAny_handleBy_cons (codeAny_handlers_test (test hc ((PySem.W.exm_one (M := model X.prog X.w) J3.kIn LT hb1).here ?_))) (by intro q; cases q)
        cases b with
        | false => exact ih (no rfl)
        | true =>
          refine codeAny_handlers_suite_as (HandSPX.lands_againZ fl fun h4 fl4 u4 => ?_)
          have J4 : Inv X pins σ1 H1 { t with heap := h4 } := J.landed nb fl4.1 ((up.trans u3).trans u4) os ag
          obtain ⟨o4, v4, g4, z4, d4⟩ := fl4.there
          refine store_ok (X := X.suite e ((e, o4) :: (X.pn ++ pins))) (v := .ref e) (J4.suite g4 d4 na nL nF) nd hi (.inl hl) rfl (fun s5 S5 => ?_) (.inr hl)
          refine wpAny_mono ((su e o4 cls d (X.pn ++ pins) z4 ⟨_, d4⟩).run [] s5 _ H1 _ S5 (yes rfl e na)) (fun f s6 q => ?_) fun _ _ z => z.elim
          have fin : ∀ {σ6 : L2.St} {H6 : Hp} {Q : Shared → Prop}, Inv (X.suite e ((e, o4) :: (X.pn ++ pins))) [] σ6 H6 s6 → (∀ s7, Inv X pins (σ6.set i none) H6 s7 → Q s7) → wpAny (model X.prog X.w) X.A (do bindName X.env n .none; unbindBehindTheSuite X.env n p2) (fun _ s7 => Q s7) X.xe s6 := fun S6 k => gone_ok (S6.unsuite ok) nd hi hl k
          cases f with
          | ret u => obtain ⟨v6, σ6, H6, S6, r6, q6⟩ := q; exact fin S6 fun s7 J7 => ⟨_, _, _, J7, r6, q6⟩
          | next => obtain ⟨σ6, H6, S6, q6⟩ := q; exact fin S6 fun s7 J7 => ⟨_, _, J7, q6⟩
          | brk => obtain ⟨σ6, H6, S6, q6⟩ := q; exact fin S6 fun s7 J7 => ⟨_, _, J7, q6⟩
          | cont => obtain ⟨σ6, H6, S6, q6⟩ := q; exact fin S6 fun s7 J7 => ⟨_, _, J7, q6⟩
    exact go hh w
  · cases f with
    | ret u => obtain ⟨v, σ1, H1, J, r, q⟩ := hsp; exact ⟨v, σ1, H1, J.ofTry ok, r, q⟩
    | next => obtain ⟨σ1, H1, J, q⟩ := hsp; exact wpAny_execs_nil ⟨σ1, H1, J.ofTry ok, q⟩
    | brk => obtain ⟨σ1, H1, J, q⟩ := hsp; exact ⟨σ1, H1, J.ofTry ok, q⟩
    | cont => obtain ⟨σ1, H1, J, q⟩ := hsp; exact ⟨σ1, H1, J.ofTry ok, q⟩


/-! ### what is refused -/
theorem PtAt.go {H H' : Hp} {n : Nat} {pnt : V} {o : Sum Str (List Nat × List Nat)} (e : Evl.Ex H H') (h : PtAt H n pnt o) : PtAt H' n pnt o := by
  cases o with
  | inl w =>
    rcases h with ⟨h1, h2⟩ | ⟨q, rv, bv, h1, h2, h3⟩
    · refine .inl ⟨h1, ?_⟩
      rcases h2 with ⟨h2, h3⟩ | ⟨q, ys, h2, h3, h4⟩
      · exact .inl ⟨h2.go e, h3⟩
      · exact .inr ⟨q, ys, h2, h3.go e, h4⟩
    · exact .inr ⟨q, rv, bv, h1, h2.go e, PairOk.go e h3⟩
  | inr lm =>
    obtain ⟨l, m⟩ := lm
    obtain ⟨q, rv, bv, h1, h2, h3, h4, h5, h6⟩ := h
    exact ⟨q, rv, bv, h1, h2.go e, h3.go e, h4, h5.go e, h6⟩
structure Txe (K : PySem.W.Frag) (a : Ad) : Prop where
  tb : PySem.W.exmOne K (.ref a.c_TooMany) (.ref a.c_BadPainting) = some false
section
variable {P : Program} {w : World} {K : PySem.W.Frag} {mg : Str → Option Value} {base : Heap} {a : Ad}
def Wrf (K : PySem.W.Frag) (a : Ad) (Q : VK) (σ : L2.St) : XK := WE (wM K (fun _ _ _ _ => False) { nx := tRet (tC V.non) { nx := fun _ H' => Q V.non H', rt := Q }, rt := Q } [(Value.ref a.c_BadPainting, some 3, fun e cls d => tRet (tXf e cls d a.c_BadPainting (Str.ofString "what") (tVar 3))), (Value.ref a.c_TooMany, some 3, fun e cls d => tRet (tXf e cls d a.c_TooMany (Str.ofString "most") (tVar 3)))]) σ
theorem wrf_bad (T : Txt K mg a) {Q : VK} {x : Addr} {pnt : V} {n : Int} {w : V} {HX : Hp} (k : ∀ H', Evl.Ex HX H' → Q w H') : RzP a.c_BadPainting "what" w HX (Wrf K a Q [some (.ref x), some pnt, some (.int n), none]) := fun d H' e' hd => by
  refine ⟨true, T.xe_BadPainting, fun _ eo heo => ?_, fun q => (nomatch q)⟩
  dsimp only [enM, stM]
  walk_at "sm"
  exact ⟨_, hd, _, rfl, k H' e'⟩
theorem wrf_many (T : Txt K mg a) (Z : Txe K a) {Q : VK} {x : Addr} {pnt : V} {n : Int} {w : V} {HX : Hp} (k : ∀ H', Evl.Ex HX H' → Q w H') : RzP a.c_TooMany "most" w HX (Wrf K a Q [some (.ref x), some pnt, some (.int n), none]) := fun d H' e' hd => by
  refine ⟨false, Z.tb, fun q => (nomatch q), fun _ => ⟨true, T.xe_TooMany, fun _ eo heo => ?_, fun q => (nomatch q)⟩⟩
  dsimp only [enM, stM]
  walk_at "sm"
  exact ⟨_, hd, _, rfl, k H' e'⟩
def spRf (a : Ad) : Sp := fun vs H Q _ => ∃ (x : Addr) (bs : List (List Nat)) (e : Nat) (pnt : V) (at_ : Nat) (o : Option V), vs = [.ref x, pnt, .int at_] ∧ BareAt a.c_Bare H x bs e ∧ BefOk bs ∧ Acy bs ∧ e < bs.length ∧ bs.length ≤ 60 ∧ PlainV H pnt ∧ pnt ≠ .non ∧ at_ < 4 ∧
  ((8 < bs.length ∧ o = some (.int 8)) ∨ (bs.length ≤ 8 ∧ ∃ q, PtAt H bs.length pnt q ∧ o = match q with | .inl w => some (.str w) | .inr _ => none)) ∧ ∀ H', Evl.Ex H H' → Q (o.getD .non) H'
theorem ok_law_refused (T : Txt K mg a) (Z : Txe K a) : FnOk P w K mg base CX0 36 a.f_law_refused a.d_law_refused ["_law_bare_here", "_law_painting_here", "_law_at"] (spRf a) := by
  refine T.F_law_refused.ok sc_law_refused (fun vs H Q E h => ?_) (fun cdv A outer s H vs Q E hr h => ?_)
  · obtain ⟨_, _, _, _, _, _, rfl, _⟩ := h
    rfl
  · obtain ⟨x, bs, e, pnt, at_, o, rfl, hB, bo, ac, he, hn, hp, hnn, h4, hc, k⟩ := h
    refine ⟨_, (pss_cons (ps_try_m (W := fun _ _ _ _ => False) rfl rfl takes0 (fun V pn xe tk _ => (pss_one (ps_if (pt_cmpR op_eq (pv 2) pe_int (nomark _)) (pss_one (ps_expr (pe_callS (ok_check_painting T) (hr.mono (by decide)) rfl T.m_check_painting T.F_check_painting.kp T.b_check_painting (fun σ => passAt tk σ) (pa_cons (pv 0) (pa_cons (pv 1) pa_nil)))))
    (pss_one (ps_if (pt_cmpR op_eq (pv 2) pe_int (nomark _)) (pss_one (ps_expr (pe_callS (ok_names_left T) (hr.mono (by decide)) rfl T.m_names_left T.F_names_left.kp T.b_names_left (fun σ => passAt tk σ) (pa_cons (pv 0) (pa_cons (pv 1) pa_nil)))))
    (pss_one (ps_if (pt_cmpR op_eq (pv 2) pe_int (nomark _)) (pss_one (ps_expr (pe_callS (ok_naming_fault T) (hr.mono (by decide)) rfl T.m_naming_fault T.F_naming_fault.kp T.bf_naming_fault (fun σ => passAt tk σ) (pa_cons (pv 0) (pa_cons (pe_tup pa_nil) (pa_cons (pv 1) pa_nil))))))
    (pss_one (ps_expr (pe_callS (ok_naming_plan T) (hr.mono (by decide)) rfl T.m_naming_plan T.F_naming_plan.kp T.bf_naming_plan (fun σ => passAt tk σ) (pa_cons (pv 0) (pa_cons (pv 1) pa_nil)))))))))))) (ClaOk.named (i := 3) sc_law_refused.nd rfl rfl ⟨rfl, by decide, Or.inl T.m_BadPainting⟩ (fun e o cls d pn hz hf => (pss_one (ps_ret (pe_xf T.xf_BadPainting T.xn_BadPainting_what hz hf (pv 3))))) (ClaOk.named (i := 3) sc_law_refused.nd rfl rfl ⟨rfl, by decide, Or.inl T.m_TooMany⟩ (fun e o cls d pn hz hf => (pss_one (ps_ret (pe_xf T.xf_TooMany T.xn_TooMany_most hz hf (pv 3))))) ClaOk.nil)))
  (pss_one (ps_ret pe_non))), ?_⟩
    walk_at "sm"
    have ask : ∀ HX, Evl.Ex H HX → ∀ kk : Nat → Nat → Prop, (o = none → ∀ r b, kk r b) → AskP a HX bs pnt (Wrf K a Q [some (V.ref x), some pnt, some (V.int (at_ : Nat)), none]) kk := fun HX e kk h3 => by
      rcases hc with ⟨c1, c2⟩ | ⟨c1, q, c2, c3⟩
      · refine .inl ⟨c1, wrf_many T Z fun H' e' => ?_⟩
        have := k H' (e.trans e')
        rw [c2] at this
        exact this
      · refine .inr ⟨c1, q, c2.go e, ?_⟩
        cases q with
        | inl w =>
          refine wrf_bad T fun H' e' => ?_
          have := k H' (e.trans e')
          rw [c3] at this
          exact this
        | inr lm =>
          obtain ⟨l, m⟩ := lm
          exact h3 c3 _ _
    have kn : o = none → ∀ H', Evl.Ex H H' → Q .non H' := fun e H' e' => by
      have := k H' e'
      rw [e] at this
      exact this
    refine ite2 (fun _ => ?_) fun _ => ite2 (fun _ => ?_) fun _ => ite2 (fun _ => ?_) fun _ => ?_
    · refine ⟨x, bs, e, pnt, rfl, hB, hn, hp, ?_⟩
      have A := ask H (Evl.Ex.refl _) (fun _ _ => ∀ H', Evl.Ex H H' → Q .non H') fun e _ _ => kn e
      rcases A with h | ⟨h1, q, h2, h3⟩
      · exact .inl h
      · refine .inr ⟨h1, q, h2, ?_⟩
        cases q with
        | inl w => exact h3
        | inr lm =>
          obtain ⟨l, m⟩ := lm
          exact fun t t1 t2 H' e' _ _ _ => h3 H' e'
    · exact ⟨x, bs, e, pnt, rfl, hB, bo, ac, hn, hp, ask H (Evl.Ex.refl _) _ fun e _ _ H' e' => kn e H' e'⟩
    · refine ⟨sz (by decide), fun q hq => ?_⟩
      have e1 := Evl.Ex.new (o := .tup []) hq
      exact ⟨x, bs, e, .ref q, pnt, .leaf, rfl, hB.go e1, bo, he, hn, PlAt.mk_leaf upd_same, (by decide : (0 : Nat) < 20), hp.go e1, .inr ⟨hnn, ask _ e1 _ fun e _ _ H' e' => kn e H' (e1.trans e')⟩⟩
    · exact ⟨x, bs, e, pnt, rfl, hB, bo, ac, he, hn, hp, .inr ⟨hnn, ask H (Evl.Ex.refl _) _ fun e _ _ v H' e' _ => kn e H' e'⟩⟩
end


/-! ### one web with a painting -/
section
variable {P : Program} {w : World} {K : PySem.W.Frag} {mg : Str → Option Value} {base : Heap} {a : Ad}
def sg1 (h x pm d p1 p2 : Addr) (n : Nat) : L2.St := [some (.ref h), some (.ref x), some (.ref pm), some (.ref d), some (.ref p1), some (.ref p2), some (.int n), none, none, none, none, none, none, none, none, none, none, none, none]
theorem sum_one {h x pm d p1 p2 q : Addr} {n : Nat} {l : List Nat} {HX : Hp} {R : VK} (hq : HX q = some (.lst ((nI l).map V.int))) (nd : l.Nodup) (lo : ∀ x ∈ l, x < 10) (ll : l.length ≤ 10) (r : ∀ H', Evl.Ex HX H' → R (.int (msk l : Nat)) H') :
    LcG (Itl K q) (gName 18) tYes (tCall spTwo [] E0 (tCons (tVar 18) tNil)) [18] (sg1 h x pm d p1 p2 n) (fun y H1 => rSum K [y] H1 R) HX := by
  have pc : ∀ l : List Nat, (l.map fun x => (2 : Int) ^ x).sum = (((l.map fun x => 2 ^ x).sum : Nat) : Int) := fun l => by
    induction l with
    | nil => rfl
    | cons x l ih =>
      rw [List.map_cons, List.map_cons, List.sum_cons, List.sum_cons, ih]
      rw [Int.natCast_add, Int.natCast_pow]
      rfl
  refine lcg_list (K := K) (a := q) (xs := (nI l).map V.int) (fun E j H' => Evl.Ex HX H' ∧ H' E = some (.lst (((l.take j).map fun x => (2 : Int) ^ x).map V.int))) (fun E hE => ⟨Evl.Ex.new hE, upd_same⟩) (fun E j HY hE hj h => SqL.of (h.1 _ _ hq)) ?_ ?_
  · rintro E j y HY hE hj ⟨h1, h2⟩
    obtain ⟨b, hb, rfl⟩ := nat_at hj
    have bn := lo b (List.mem_of_getElem? hb)
    have jl := (List.getElem?_eq_some_iff.mp hb).1
    unfold sg1
    walk_at "sm"
    refine ⟨b, rfl, by omega, _, h2, by rw [List.length_map, List.length_map, List.length_take, sizeLine_eq]; omega, h1.mut hE, ?_⟩
    rw [upd_same, List.take_succ, hb, Option.toList_some, List.map_append, List.map_append]
    rfl
  · rintro E HY hE ⟨h1, h2⟩
    rw [nI_len, List.take_length] at h2
    refine ⟨E, _, rfl, SqL.of h2, ?_⟩
    have := msk_sum l nd l.length (Nat.le_refl _)
    rw [List.take_length] at this
    rw [pc, this]
    exact r HY h1
structure OS (a : Ad) (h c x pm d p1 p2 : Addr) (bs : List (List Nat)) (e : Nat) (l m : List Nat) (H H' : Hp) : Prop where
  fr : ∀ b u, b ≠ h → b ≠ d → H b = some u → H' b = some u
  hd : HandAt H' h c
  br : BareAt a.c_Bare H' x bs e
  ms : H' pm = some (.lst ((nI (bs.map msk)).map V.int))
  kp : ∃ g, Mm H' d g ∧ GoodM bs 100 g
  r1 : H' p1 = some (.lst ((nI l).map V.int))
  r2 : H' p2 = some (.lst ((nI m).map V.int))
theorem hand_int {H : Hp} {p c b : Addr} {l : List Nat} (hh : HandAt H p c) (h : H b = some (.lst ((nI l).map V.int))) : b ≠ p := fun z => by
  obtain ⟨cells, i, g, t, hp, _⟩ := hh
  rw [z, hp] at h
  have := HO.lst.inj (Option.some.inj h)
  cases l with
  | nil => cases this
  | cons x l =>
    have := (List.cons.inj this).1
    cases this
theorem BareAt.frh {C : Addr} {H H' : Hp} {x h c : Addr} {bs : List (List Nat)} {e : Nat} (f : Fr h H H') (g : HandAt H h c) (b : BareAt C H x bs e) : BareAt C H' x bs e := by
  have kt : ∀ b xs, H b = some (.tup xs) → H' b = some (.tup xs) := fun b xs hb => f b _ (hand_tup g hb) hb
  have ka : ∀ {p : Addr} {bs : List (List Nat)}, ArrT H p bs → ArrT H' p bs := fun ⟨xs, h1, h2⟩ => ⟨xs, kt _ _ h1, Paired.mapP h2 fun _ _ ⟨q, z1, z2⟩ => ⟨q, z1, kt _ _ z2⟩⟩
  obtain ⟨dx, p, af, od, nd, h1, h2, h3, h4, h5⟩ := b
  have hx : x ≠ h := fun z => by
    obtain ⟨ys, hy⟩ := hand_lst g
    rw [z, hy] at h1
    cases h1
  exact ⟨dx, p, af, od, nd, f _ _ hx h1, ka h2, ka h3, kt _ _ h4, kt _ _ h5⟩
theorem Mm.frh {H H' : Hp} {d h c : Addr} {g : Nat → Nat → Option Nat} (f : Fr h H H') (ha : HandAt H h c) (k : Mm H d g) : Mm H' d g := by
  obtain ⟨kvs, h1, h2⟩ := k
  refine ⟨kvs, f _ _ (fun z => ?_) h1, h2⟩
  obtain ⟨ys, hy⟩ := hand_lst ha
  rw [z, hy] at h1
  cases h1
theorem HandAt.kd {H H' : Hp} {h c : Addr} (k : Kd H H') (g : HandAt H h c) : HandAt H' h c := by
  obtain ⟨cells, i, g, t, hp, hc, r⟩ := g
  exact ⟨cells, i, g, t, k.lst hp, k.lst hc, r⟩
section
variable {h c x pm d p1 p2 : Addr} {bs : List (List Nat)} {e : Nat} {l m : List Nat} {H H' H'' : Hp}
theorem OS.ex (s : OS a h c x pm d p1 p2 bs e l m H H') (k : Evl.Ex H' H'') : OS a h c x pm d p1 p2 bs e l m H H'' := by
  obtain ⟨g, g1, g2⟩ := s.kp
  exact ⟨fun b u n1 n2 hb => k _ _ (s.fr b u n1 n2 hb), s.hd.go k, s.br.go k, k _ _ s.ms, ⟨g, g1.go k, g2⟩, k _ _ s.r1, k _ _ s.r2⟩
theorem OS.hand (s : OS a h c x pm d p1 p2 bs e l m H H') (f : Fr h H' H'') (g' : HandAt H'' h c) : OS a h c x pm d p1 p2 bs e l m H H'' := by
  obtain ⟨g, g1, g2⟩ := s.kp
  exact ⟨fun b u n1 n2 hb => f _ _ n1 (s.fr b u n1 n2 hb), g', s.br.frh f s.hd, f _ _ (hand_int s.hd s.ms) s.ms, ⟨g, g1.frh f s.hd, g2⟩, f _ _ (hand_int s.hd s.r1) s.r1, f _ _ (hand_int s.hd s.r2) s.r2⟩
theorem OS.memo (s : OS a h c x pm d p1 p2 bs e l m H H') {g0 g' : Nat → Nat → Option Nat} (k0 : Mm H' d g0) (f : Fr d H' H'') (k' : Mm H'' d g') (gd : GoodM bs 100 g') : OS a h c x pm d p1 p2 bs e l m H H'' :=
  have k := k0.kd f
  ⟨fun b u n1 n2 hb => f _ _ n2 (s.fr b u n1 n2 hb), s.hd.kd k, s.br.kd k, k.lst s.ms, ⟨g', k', gd⟩, k.lst s.r1, k.lst s.r2⟩
end
structure PN (h q u1 u2 : Addr) (l m : List Nat) (H : Hp) : Prop where
  s0 : SqAt H q [.ref u1, .ref u2]
  s1 : SqAt H u1 ((nI l).map V.int)
  s2 : SqAt H u2 ((nI m).map V.int)
  n0 : q ≠ h
  n1 : u1 ≠ h
  n2 : u2 ≠ h
theorem PN.go {h q u1 u2 : Addr} {l m : List Nat} {H H' : Hp} (s : PN h q u1 u2 l m H) (k : Kp H H') : PN h q u1 u2 l m H' := ⟨s.s0.kp k, s.s1.kp k, s.s2.kp k, s.n0, s.n1, s.n2⟩
theorem PN.hand {h q u1 u2 : Addr} {l m : List Nat} {H H' : Hp} (s : PN h q u1 u2 l m H) (f : Fr h H H') : PN h q u1 u2 l m H' := ⟨s.s0.frh f s.n0, s.s1.frh f s.n1, s.s2.frh f s.n2, s.n0, s.n1, s.n2⟩
def dI (l : List Nat) : PyData := .tuple (((nI l).map V.int).map dV)
theorem okF_ints (ns : List Int) : (ns.map V.int).all okF = true := List.all_eq_true.mpr fun v hv => by
  obtain ⟨i, _, rfl⟩ := List.mem_map.mp hv
  rfl
theorem dp_ints {K : PySem.W.Frag} {H : Hp} {q : Addr} {l : List Nat} (hq : H q = some (.tup ((nI l).map V.int))) : Dp K H (.ref q) (dI l) := .tup (SqT.of hq) (dp_flats (okF_ints _))
theorem lay_ints (l : List Nat) : (dI l).canLay0 = true ∧ (dI l).depth ≤ 2 := lay_tup fun d hd => by
  obtain ⟨v, hv, rfl⟩ := List.mem_map.mp hd
  exact lay_flat (List.all_eq_true.mp (okF_ints _) v hv)
def mdO (a : Ad) (h c x pm d p1 p2 : Addr) (bs : List (List Nat)) (e : Nat) (l m : List Nat) (H : Hp) : L2.St → Hp → Prop := fun σ H' => ∃ q u1 u2, σ = [some (.ref h), some (.ref x), some (.ref pm), some (.ref d), some (.ref p1), some (.ref p2), some (.int bs.length), some (.int (msk l : Nat)), some (.int (msk m : Nat)), some (.int (nb bs (msk l) (msk m) : Nat)), some (.ref q), none, none, none, none, none, none, none, none] ∧ OS a h c x pm d p1 p2 bs e l m H H' ∧ PN h q u1 u2 l m H'
def spOn (a : Ad) : Sp := fun vs H Q _ => ∃ (h c x pm d p1 p2 : Addr) (bs : List (List Nat)) (e : Nat) (g : Nat → Nat → Option Nat) (l m : List Nat), vs = [.ref h, .ref x, .ref pm, .ref d, .ref p1, .ref p2] ∧ HandAt H h c ∧ BareAt a.c_Bare H x bs e ∧ WebOk bs e ∧ bs.length ≤ 8 ∧ H pm = some (.lst ((nI (bs.map msk)).map V.int)) ∧ Mm H d g ∧ GoodM bs 100 g ∧ RbAt H p1 p2 bs.length l m ∧ ∀ H', OS a h c x pm d p1 p2 bs e l m H H' → Q (.bl true) H'
theorem ok_law_one (T : Txt K mg a) (Z : Txe K a) : FnOk P w K mg base (L2.CX P w) 37 a.f_law_one a.d_law_one ["_law_hand_here", "_law_bare_here", "_law_masks_here", "_law_kept", "_law_reds", "_law_blues"] (spOn a) := by
  refine T.F_law_one.okX sc_law_one (fun vs H Q E h => ?_) (fun cdv A outer s H vs Q E hr h => ?_)
  · obtain ⟨_, _, _, _, _, _, _, _, _, _, _, _, rfl, _⟩ := h
    rfl
  · obtain ⟨h0, c, x, pm, d, p1, p2, bs, e, g, l, m, rfl, ha, hB, hw, h8, hm, hk, hg, ⟨b1, b2, ne, nd, lo⟩, k⟩ := h
    refine ⟨_, (pss_cons (ps_set (i := 6) sc_law_one.nd rfl (by first | exact Or.inl rfl | exact Or.inr rfl) (pe_callB call_len_seq (by rfl) T.z_len (by decide +kernel) (pa_cons (pv 2) pa_nil)))
  (pss_cons (ps_par (by rfl) sc_law_one.nd (i := 7) (j := 8) rfl rfl (by decide) rfl rfl (pa_cons (pe_callB (cr_sum rfl) (by rfl) T.z_sum (by decide +kernel) (pa_cons (pe_lc (own := [("_law_place", 18)]) (g := gName 18) (tt := tYes) rfl sc_law_one.nd (pi_list (pv 4)) (blkOk_by (own := [("_law_place", 18)]) (N := ["_law_hand_here", "_law_bare_here", "_law_masks_here", "_law_kept", "_law_reds", "_law_blues", "_law_many", "_law_red", "_law_blue", "_law_left_here", "_law_painting_here", "_law_told", "_law_number", "_law_plan", "_law_other", "_law_broken_here", "_law_word", "_law_at", "_law_place"]) (sc := defScope s_law_one) (by decide +kernel)) (fun _ _ _ _ _ => pg_name (i := 18) sc_law_one.nd rfl (Or.inl rfl)) (fun _ _ _ _ _ => pts_nil) (fun _ _ _ _ _ => (pe_call (ok_law_two T) (hr.mono (by decide)) rfl T.m_law_two T.F_law_two.kp T.b_law_two .nil pass0 (pa_cons (pv 18) pa_nil)))) pa_nil)) (pa_cons (pe_callB (cr_sum rfl) (by rfl) T.z_sum (by decide +kernel) (pa_cons (pe_lc (own := [("_law_place", 18)]) (g := gName 18) (tt := tYes) rfl sc_law_one.nd (pi_list (pv 5)) (blkOk_by (own := [("_law_place", 18)]) (N := ["_law_hand_here", "_law_bare_here", "_law_masks_here", "_law_kept", "_law_reds", "_law_blues", "_law_many", "_law_red", "_law_blue", "_law_left_here", "_law_painting_here", "_law_told", "_law_number", "_law_plan", "_law_other", "_law_broken_here", "_law_word", "_law_at", "_law_place"]) (sc := defScope s_law_one) (by decide +kernel)) (fun _ _ _ _ _ => pg_name (i := 18) sc_law_one.nd rfl (Or.inl rfl)) (fun _ _ _ _ _ => pts_nil) (fun _ _ _ _ _ => (pe_call (ok_law_two T) (hr.mono (by decide)) rfl T.m_law_two T.F_law_two.kp T.b_law_two .nil pass0 (pa_cons (pv 18) pa_nil)))) pa_nil)) pa_nil)) (by rfl))
  (pss_cons (ps_set (i := 9) sc_law_one.nd rfl (by first | exact Or.inl rfl | exact Or.inr rfl) (pe_call (ok_law_left T) (hr.mono (by decide)) rfl T.m_law_left T.F_law_left.kp T.b_law_left .nil pass0 (pa_cons (pv 2) (pa_cons (pv 7) (pa_cons (pv 8) (pa_cons (pv 3) pa_nil))))))
  (Evl.pss_cut (ps_set (i := 10) sc_law_one.nd rfl (by first | exact Or.inl rfl | exact Or.inr rfl) (pe_ifExp (pt_cmpR op_eq (pe_call (ok_law_take T) (hr.mono (by decide)) rfl T.m_law_take T.F_law_take.kp T.b_law_take .nil pass0 (pa_cons (pv 0) (pa_cons pe_int pa_nil))) pe_int (nomark _)) (pe_lst (pa_cons (pe_slice sl_list (pv 4) po_none po_none) (pa_cons (pe_slice sl_list (pv 5) po_none po_none) pa_nil))) (pe_tup (pa_cons (pe_callTy call_tuple_of (by rfl) T.z_tuple (by decide +kernel) (pa_cons (pv 4) pa_nil)) (pa_cons (pe_callTy call_tuple_of (by rfl) T.z_tuple (by decide +kernel) (pa_cons (pv 5) pa_nil)) pa_nil)))))
  (pss_cons (ps_set (i := 11) sc_law_one.nd rfl (by first | exact Or.inl rfl | exact Or.inr rfl) (pe_call (ok_check_painting T) (hr.mono (by decide)) rfl T.m_check_painting T.F_check_painting.kp T.b_check_painting .nil (passes_call (takes_of rfl rfl rfl rfl) (fun _ _ _ _ q => q)) (pa_cons (pv 1) (pa_cons (pv 10) pa_nil))))
  (pss_cons (ps_if (PW.pt (pw_or (pt_not (pt_val (pe_callB call_isi (by rfl) T.z_isinstance (by decide +kernel) (pa_cons (pv 11) (pa_cons (pe_bltn (v := .ty "tuple") (by rfl) T.z_tuple (by decide +kernel) rfl) pa_nil))))) (pw_or1 (pt_cmpR (op_neD hr.units) (pv 11) (pe_tup (pa_cons (pe_callTy call_tuple_of (by rfl) T.z_tuple (by decide +kernel) (pa_cons (pe_callB cr_sortedI (by rfl) T.z_sorted (by decide +kernel) (pa_cons (pv 4) pa_nil)) pa_nil)) (pa_cons (pe_callTy call_tuple_of (by rfl) T.z_tuple (by decide +kernel) (pa_cons (pe_callB cr_sortedI (by rfl) T.z_sorted (by decide +kernel) (pa_cons (pv 5) pa_nil)) pa_nil)) pa_nil))) (nomark _))))) (pss_one (ps_ret pe_bl))
    pss_nil)
  (pss_cons (ps_set (i := 12) sc_law_one.nd rfl (by first | exact Or.inl rfl | exact Or.inr rfl) (pe_call (ok_names_left T) (hr.mono (by decide)) rfl T.m_names_left T.F_names_left.kp T.b_names_left .nil (passes_call (takes_of rfl rfl rfl rfl) (fun _ _ _ _ q => q)) (pa_cons (pv 1) (pa_cons (pv 10) pa_nil))))
  (pss_cons (ps_if (PW.pt (pw_or (pt_not (pt_val (pe_call (ok_law_whole T) (hr.mono (by decide)) rfl T.m_law_whole T.F_law_whole.kp T.b_law_whole .nil pass0 (pa_cons (pv 12) pa_nil)))) (pw_or1 (pt_cmpR op_ne (pv 12) (pv 9) (nomark _))))) (pss_one (ps_ret pe_bl))
    pss_nil)
  (pss_cons (ps_set (i := 13) sc_law_one.nd rfl (by first | exact Or.inl rfl | exact Or.inr rfl) (pe_call (ok_naming_plan T) (hr.mono (by decide)) rfl T.m_naming_plan T.F_naming_plan.kp T.bf_naming_plan .nil (passes_call (takes_of rfl rfl rfl rfl) (fun _ _ _ _ q => q)) (pa_cons (pv 1) (pa_cons (pv 10) pa_nil))))
  (pss_cons (ps_if (PW.pt (pw_or (pt_cmpR (op_neD hr.units) (pv 13) (pe_call (ok_law_told_naming T) (hr.mono (by decide)) rfl T.m_law_told_naming T.F_law_told_naming.kp T.b_law_told_naming .nil pass0 (pa_cons (pv 2) (pa_cons (pv 7) (pa_cons (pv 8) (pa_cons (pv 3) pa_nil))))) (nomark _)) (pw_or (pt_cmpR op_notN (pe_call (ok_naming_fault T) (hr.mono (by decide)) rfl T.m_naming_fault T.F_naming_fault.kp T.bf_naming_fault .nil (passes_call (takes_of rfl rfl rfl rfl) (fun _ _ _ _ q => q)) (pa_cons (pv 1) (pa_cons (pv 13) (pa_cons (pv 10) pa_nil)))) pe_non (nomark _)) (pw_or1 (pt_cmpR op_ne (pe_call (ok_plan_names T) (hr.mono (by decide)) rfl T.m_plan_names T.F_plan_names.kp T.b_plan_names .nil pass0 (pa_cons (pv 13) pa_nil)) (pv 9) (nomark _)))))) (pss_one (ps_ret pe_bl))
    pss_nil)
  (pss_cons (ps_set (i := 14) sc_law_one.nd rfl (by first | exact Or.inl rfl | exact Or.inr rfl) (pe_call (ok_law_spoiled T) (hr.mono (by decide)) rfl T.m_law_spoiled T.F_law_spoiled.kp T.b_law_spoiled .nil pass0 (pa_cons (pv 0) (pa_cons (pv 13) (pa_cons (pv 6) (pa_cons pe_bl pa_nil))))))
  (pss_cons (ps_if (pt_cmpR op_ne (pe_call (ok_naming_fault T) (hr.mono (by decide)) rfl T.m_naming_fault T.F_naming_fault.kp T.bf_naming_fault .nil (passes_call (takes_of rfl rfl rfl rfl) (fun _ _ _ _ q => q)) (pa_cons (pv 1) (pa_cons (pv 14) (pa_cons (pv 10) pa_nil)))) (pe_call (ok_law_naming_word T) (hr.mono (by decide)) rfl T.m_law_naming_word T.F_law_naming_word.kp T.b_law_naming_word .nil pass0 (pa_cons (pv 2) (pa_cons (pv 14) (pa_cons (pv 7) (pa_cons (pv 8) pa_nil))))) (nomark _)) (pss_one (ps_ret pe_bl))
    pss_nil)
  (pss_cons (ps_asg (pe_call (ok_law_broken T) (hr.mono (by decide)) rfl T.m_law_broken T.F_law_broken.kp T.b_law_broken .nil pass0 (pa_cons (pv 0) (pa_cons (pv 4) (pa_cons (pv 5) (pa_cons (pv 6) pa_nil))))) (pg_tup rfl (pgs_cons (pg_name (i := 15) sc_law_one.nd rfl (by first | exact Or.inl rfl | exact Or.inr rfl)) (pgs_cons (pg_name (i := 16) sc_law_one.nd rfl (by first | exact Or.inl rfl | exact Or.inr rfl)) pgs_nil))))
  (pss_cons (ps_set (i := 17) sc_law_one.nd rfl (by first | exact Or.inl rfl | exact Or.inr rfl) (pe_call (ok_law_take T) (hr.mono (by decide)) rfl T.m_law_take T.F_law_take.kp T.b_law_take .nil pass0 (pa_cons (pv 0) (pa_cons pe_int pa_nil))))
  (pss_one (ps_ret (pe_and (pe_cmpR op_isN (pe_call (ok_law_refused T Z) (hr.mono (by decide)) rfl T.m_law_refused T.F_law_refused.kp T.b_law_refused .nil pass0 (pa_cons (pv 1) (pa_cons (pv 10) (pa_cons (pv 17) pa_nil)))) pe_non (nomark _)) (pe_and (pe_cmpR op_eq (pe_call (ok_law_refused T Z) (hr.mono (by decide)) rfl T.m_law_refused T.F_law_refused.kp T.b_law_refused .nil pass0 (pa_cons (pv 1) (pa_cons (pv 15) (pa_cons (pv 17) pa_nil)))) (pv 16) (nomark _)) (pe_one (pe_cmpR op_eq (pe_call (ok_law_refused T Z) (hr.mono (by decide)) rfl T.m_law_refused T.F_law_refused.kp T.b_law_refused .nil pass0 (pa_cons (pe_call0 (ok_law_nine T) (hr.mono (by decide)) rfl T.m_law_nine T.F_law_nine.kp T.b_law_nine .nil pass0) (pa_cons (pv 15) (pa_cons (pv 17) pa_nil)))) pe_int (nomark _))))))))))))))))))))), ?_⟩
    walk_at "sm"
    have lens : l.length ≤ 8 ∧ m.length ≤ 8 := by
      have := nd.length_le_of_subset (fun x hx => List.mem_range.mpr (lo x hx) : l ++ m ⊆ List.range bs.length)
      rw [List.length_range, List.length_append] at this
      omega
    have lnd : l.Nodup := (List.nodup_append.mp nd).1
    have mnd : m.Nodup := (List.nodup_append.mp nd).2.1
    have dj : ∀ x ∈ m, x ∉ l := fun x hx hx2 => (List.nodup_append.mp nd).2.2 x hx2 x hx rfl
    have ln : ∀ x ∈ l, x < bs.length := fun x hx => lo x (List.mem_append_left _ hx)
    have mn : ∀ x ∈ m, x < bs.length := fun x hx => lo x (List.mem_append_right _ hx)
    have lm : ((nI (bs.map msk)).map V.int).length = bs.length := by rw [nI_len, List.length_map]
    refine ⟨_, .inl (SqL.of hm), ?_⟩
    rw [lm]
    unfold tPar
    walk_at "sm"
    refine ⟨⟨_, SqL.of b1⟩, sum_one (h := h0) (x := x) (pm := pm) (d := d) (p1 := p1) (p2 := p2) (n := bs.length) b1 lnd (fun x hx => by have := ln x hx; omega) (by omega) fun H1 e1 => ?_⟩
    refine ⟨⟨_, SqL.of (e1 _ _ b2)⟩, sum_one (h := h0) (x := x) (pm := pm) (d := d) (p1 := p1) (p2 := p2) (n := bs.length) (e1 _ _ b2) mnd (fun x hx => by have := mn x hx; omega) (by omega) fun H2 e2 => ?_⟩
    have e12 := e1.trans e2
    have pn : Pnt bs (msk l) (msk m) := by
      obtain ⟨y, l', hl⟩ := List.exists_cons_of_ne_nil ne
      refine ⟨⟨y, ln y (by rw [hl]; exact List.mem_cons_self), by rw [msk_bit, hl]; exact decide_eq_true List.mem_cons_self⟩, fun y hy => ?_, fun y hy => ?_⟩
      · rw [msk_bit, decide_eq_true_eq] at hy
        rw [msk_bit]
        exact decide_eq_false fun z => dj y z hy
      · rw [msk_bit, msk_bit, decide_eq_true_eq, decide_eq_true_eq] at hy
        exact hy.elim (ln y) (mn y)
    have s0 : OS a h0 c x pm d p1 p2 bs e l m H H := ⟨fun _ _ _ _ hb => hb, ha, hB, hm, ⟨g, hk, hg⟩, b1, b2⟩
    have s2 := s0.ex e12
    refine ⟨pm, bs, msk l, msk m, d, g, rfl, s2.ms, hw.ok, hw.ac, h8, pn, up9 h8, hk.go e12, hg, fun H3 g3 f3 m3 gd3 => ⟨mdO a h0 c x pm d p1 p2 bs e l m H, ?_, fun σ HX ⟨q, u1, u2, e1, s, pa⟩ => ?_⟩⟩
    · have s3 := s2.memo (hk.go e12) f3 m3 gd3
      walk_at "sm"
      refine ⟨h0, c, 2, rfl, s3.hd, by decide, by decide, fun r H4 r1 r2 f4 g4 => ⟨rfl, ?_⟩⟩
      have s4 := s3.hand f4 g4
      refine ite2 (fun _ => ?_) fun _ => ?_
      · refine ⟨p1, _, rfl, SqL.of s4.r1, fun u1 hu1 => ?_⟩
        rw [cutV_all]
        have v1 := (hand_new (o := .tup []) (Fr.refl H4) s4.hd hu1).2.2
        have c1 := Evl.Ex.new (o := .lst ((nI l).map V.int)) hu1
        have s5 := s4.ex c1
        have w1 : upd H4 u1 (.lst ((nI l).map V.int)) u1 = some (.lst ((nI l).map V.int)) := upd_same
        generalize upd H4 u1 (.lst ((nI l).map V.int)) = H5 at s5 w1 ⊢
        refine ⟨p2, _, rfl, SqL.of s5.r2, fun u2 hu2 => ⟨sz (by decide), fun q hq => ?_⟩⟩
        rw [cutV_all] at hq ⊢
        have v2 := (hand_new (o := .tup []) (Fr.refl H5) s5.hd hu2).2.2
        have c2 := Evl.Ex.new (o := .lst ((nI m).map V.int)) hu2
        have s6 := s5.ex c2
        have w2 : upd H5 u2 (.lst ((nI m).map V.int)) u2 = some (.lst ((nI m).map V.int)) := upd_same
        have w1' := c2 _ _ w1
        generalize upd H5 u2 (.lst ((nI m).map V.int)) = H6 at s6 w2 w1' hq ⊢
        have v3 := (hand_new (o := .tup []) (Fr.refl H6) s6.hd hq).2.2
        have c3 := Evl.Ex.new (o := .lst [V.ref u1, V.ref u2]) hq
        exact ⟨q, u1, u2, rfl, s6.ex c3, ⟨.inr upd_same, .inr (c3 _ _ w1'), .inr (c3 _ _ w2), v3, v1, v2⟩⟩
      · refine ⟨_, .inl ⟨SqL.of s4.r1, fun u1 hu1 => ?_⟩⟩
        have v1 := (hand_new (o := .tup []) (Fr.refl H4) s4.hd hu1).2.2
        have c1 := Evl.Ex.new (o := .tup ((nI l).map V.int)) hu1
        have s5 := s4.ex c1
        have w1 : upd H4 u1 (.tup ((nI l).map V.int)) u1 = some (.tup ((nI l).map V.int)) := upd_same
        generalize upd H4 u1 (.tup ((nI l).map V.int)) = H5 at s5 w1 ⊢
        refine ⟨_, .inl ⟨SqL.of s5.r2, fun u2 hu2 => ⟨sz (by decide), fun q hq => ?_⟩⟩⟩
        have v2 := (hand_new (o := .tup []) (Fr.refl H5) s5.hd hu2).2.2
        have c2 := Evl.Ex.new (o := .tup ((nI m).map V.int)) hu2
        have s6 := s5.ex c2
        have w2 : upd H5 u2 (.tup ((nI m).map V.int)) u2 = some (.tup ((nI m).map V.int)) := upd_same
        have w1' := c2 _ _ w1
        generalize upd H5 u2 (.tup ((nI m).map V.int)) = H6 at s6 w2 w1' hq ⊢
        have v3 := (hand_new (o := .tup []) (Fr.refl H6) s6.hd hq).2.2
        have c3 := Evl.Ex.new (o := .tup [V.ref u1, V.ref u2]) hq
        exact ⟨q, u1, u2, rfl, s6.ex c3, ⟨.inl upd_same, .inl (c3 _ _ w1'), .inl (c3 _ _ w2), v3, v1, v2⟩⟩
    · subst e1
      have ptOf : ∀ HY, PN h0 q u1 u2 l m HY → PtAt HY bs.length (.ref q) (.inr (l, m)) := fun HY p => ⟨q, _, _, rfl, p.s0, ⟨u1, rfl, p.s1, lnd, ln⟩, ne, ⟨u2, rfl, p.s2, mnd, mn⟩, dj⟩
      have askP : ∀ HY, PN h0 q u1 u2 l m HY → ∀ (E' : XK) (kk : Nat → Nat → Prop), kk (msk l) (msk m) → AskP a HY bs (.ref q) E' kk := fun HY p E' kk hk => .inr ⟨h8, .inr (l, m), ptOf HY p, hk⟩
      walk_at "sm"
      refine ⟨x, bs, e, .ref q, rfl, s.br, by omega, pa.s0.plain, .inr ⟨h8, .inr (l, m), ptOf _ pa, fun t t1 t2 H4 e4 ht ht1 ht2 => ?_⟩⟩
      have s4 := s.ex e4
      have pa4 := pa.go (Kp.ex e4)
      refine isi_ty (t := "tuple") (.base (.tup ht)) rfl ⟨_, rfl, iteF ?_⟩
      have l200 : ∀ x ∈ l, x < 200 := fun x hx => by have := ln x hx; omega
      have m200 : ∀ x ∈ m, x < 200 := fun x hx => by have := mn x hx; omega
      refine ⟨p1, nI l, rfl, SqL.of s4.r1, fun ns1 d1 pm1 pw1 hd1 => ⟨d1, rfl, _, .inl ⟨SqL.of upd_same, fun v1 hv1 => ?_⟩⟩⟩
      obtain rfl := sb_uniq l200 lnd pm1 pw1
      have k1 := Evl.Ex.new (o := .lst ((nI (sb l)).map V.int)) hd1
      have k2 := k1.trans (Evl.Ex.new (o := .tup ((nI (sb l)).map V.int)) hv1)
      have hv1' : upd (upd H4 d1 (.lst ((nI (sb l)).map V.int))) v1 (.tup ((nI (sb l)).map V.int)) v1 = some (.tup ((nI (sb l)).map V.int)) := upd_same
      have s5 := s4.ex k2
      generalize upd (upd H4 d1 (.lst ((nI (sb l)).map V.int))) v1 (.tup ((nI (sb l)).map V.int)) = H5 at k2 hv1' s5 ⊢
      refine ⟨p2, nI m, rfl, SqL.of s5.r2, fun ns2 d2 pm2 pw2 hd2 => ⟨d2, rfl, _, .inl ⟨SqL.of upd_same, fun v2 hv2 => ⟨sz (by decide), fun v3 hv3 => ?_⟩⟩⟩⟩
      obtain rfl := sb_uniq m200 mnd pm2 pw2
      have k3 := (Evl.Ex.new (o := .lst ((nI (sb m)).map V.int)) hd2).trans (Evl.Ex.new (o := .tup ((nI (sb m)).map V.int)) hv2)
      have hv2' : upd (upd H5 d2 (.lst ((nI (sb m)).map V.int))) v2 (.tup ((nI (sb m)).map V.int)) v2 = some (.tup ((nI (sb m)).map V.int)) := upd_same
      have k4 := Evl.Ex.new (o := .tup [V.ref v1, V.ref v2]) hv3
      have hv3' : upd (upd (upd H5 d2 (.lst ((nI (sb m)).map V.int))) v2 (.tup ((nI (sb m)).map V.int))) v3 (.tup [V.ref v1, V.ref v2]) v3 = some (.tup [V.ref v1, V.ref v2]) := upd_same
      have k34 := k3.trans k4
      have hv2'' := k4 _ _ hv2'
      generalize upd (upd (upd H5 d2 (.lst ((nI (sb m)).map V.int))) v2 (.tup ((nI (sb m)).map V.int))) v3 (.tup [V.ref v1, V.ref v2]) = H6 at k34 hv2'' hv3' ⊢
      have s6 := s5.ex k34
      have e6 := k2.trans k34
      have pa6 := pa4.go (Kp.ex e6)
      have sh : SeqAt.shaped (.tuple [dI (sb l), dI (sb m)]) = true := shaped_of (n := 3) (lay_tup fun d hd => by
        rcases List.mem_cons.mp hd with rfl | hd
        · exact lay_ints _
        · rw [List.mem_singleton.mp hd]
          exact lay_ints _) (by decide)
      refine ne_same (d := .tuple [dI (sb l), dI (sb m)]) (.tup (SqT.of (e6 _ _ ht)) (.cons (dp_ints (e6 _ _ ht1)) (.cons (dp_ints (e6 _ _ ht2)) .nil))) (.tup (SqT.of hv3') (.cons (dp_ints (k34 _ _ hv1')) (.cons (dp_ints hv2'') .nil))) sh ⟨_, rfl, iteF ?_⟩
      refine ⟨x, bs, e, .ref q, rfl, s6.br, hw.ok, hw.ac, by omega, pa6.s0.plain, askP _ pa6 _ _ fun H7 e7 => ⟨_, rfl, plain_int, true, rfl, iteF ⟨rfl, ?_⟩⟩⟩
      have s7 := s6.ex e7
      have pa7 := pa6.go (Kp.ex e7)
      have nz := npl_ok hw.ok hw.ac (up bs (msk l) (msk m)).length _ _ (Nat.le_refl _) pn
      have ng := npl_good (bs := bs) (up bs (msk l) (msk m)).length (msk l) (msk m)
      have ul := up_len bs (msk l) (msk m)
      have qn : V.ref q ≠ V.non := by intro z; cases z
      refine iteF' (by simp) ⟨x, bs, e, .ref q, rfl, s7.br, hw.ok, hw.ac, hw.lt, by omega, pa7.s0.plain, .inr ⟨qn, askP _ pa7 _ _ fun vp H8 e8 pl8 => ?_⟩⟩
      have s8 := s7.ex e8
      have pa8 := pa7.go (Kp.ex e8)
      obtain ⟨g8, k8, gd8⟩ := s8.kp
      refine ⟨pm, bs, msk l, msk m, d, g8, rfl, s8.ms, hw.ok, hw.ac, h8, pn, up9 h8, k8, gd8, fun H9 g9 vt f9 m9 gd9 pl9 => ?_⟩
      have s9 := s8.memo k8 f9 m9 gd9
      have kd9 := k8.kd f9
      have pa9 := pa8.go kd9.kp
      have pl9' := pl8.kd kd9
      refine ne_same (Ac.dp _ _ pl9'.at_) (Ac.dp _ _ pl9.at_) pl9'.shaped ⟨_, rfl, iteF ?_⟩
      refine ⟨x, bs, e, vp, .ref q, _, rfl, s9.br, hw.ok, hw.lt, by omega, pl9', by omega, pa9.s0.plain, .inr ⟨qn, askP _ pa9 _ _ fun H10 e10 => ?_⟩⟩
      rw [nz.1]
      have s10 := s9.ex e10
      refine iteF' (by simp) ⟨vp, _, rfl, pl9'.go e10, ng.1, by omega, fun H11 e11 => ⟨rfl, iteF' (by rw [nz.2]; simp) ?_⟩⟩
      have s11 := s10.ex e11
      have pa11 := (pa9.go (Kp.ex e10)).go (Kp.ex e11)
      have pos : 1 ≤ bs.length := hw.ok.1
      refine ⟨h0, c, vp, bs.length, _, rfl, s11.hd, pos, by omega, (pl9'.go e10).go e11, ng.1, by omega, by omega, fun H12 vo ⟨f12, g12, po, q1, q2, q3, q4⟩ => ?_⟩
      have s12 := s11.hand f12 g12
      have pa12 := pa11.hand f12
      refine ⟨x, bs, e, vo, .ref q, po, rfl, s12.br, hw.ok, hw.lt, by omega, q1, by omega, pa12.s0.plain, .inr ⟨qn, askP _ pa12 _ _ fun H13 e13 => ?_⟩⟩
      have s13 := s12.ex e13
      refine ⟨pm, bs, vo, po, msk l, msk m, rfl, s13.ms, h8, q1.go e13, by omega, fun H14 e14 => ?_⟩
      have s14 := s13.ex e14
      have pa14 := (pa12.go (Kp.ex e13)).go (Kp.ex e14)
      have nx : ∀ (A B : Prop) (v : V) (y : V), v = y → B → (if (!decide (v = y)) = true then A else B) := fun A B v y z b => iteF' (by rw [decide_eq_true z]; rfl) b
      cases po.nw bs (msk l) (msk m) <;> refine ⟨rfl, nx _ _ _ _ rfl ?_⟩
      all_goals
        refine ⟨h0, c, p1, p2, bs.length, l, m, rfl, s14.hd, hand_int s14.hd s14.r1, hand_int s14.hd s14.r2, pos, h8, ⟨s14.r1, s14.r2, ne, nd, lo⟩, fun H15 tb bv wd f15 g15 htb hb15 hbn => ⟨tb, rfl, _, SqT.of htb, rfl, _, _, rfl, _, _, rfl, rfl, h0, c, 4, rfl, g15, by decide, by decide, fun r H16 r1 r2 f16 g16 => ?_⟩⟩
        obtain ⟨r, rfl⟩ : ∃ e : Nat, r = e := ⟨r.toNat, by omega⟩
        have r4 : r < 4 := by omega
        have s16 := s14.hand (f15.trans f16) g16
        have pa16 := pa14.hand (f15.trans f16)
        obtain ⟨bp1, bp2⟩ := hb15 H16 f16 g16
        refine ⟨x, bs, e, .ref q, r, none, rfl, s16.br, hw.ok, hw.ac, hw.lt, by omega, pa16.s0.plain, qn, r4, .inr ⟨h8, .inr (l, m), ptOf _ pa16, rfl⟩, fun H17 e17 => iteP rfl ?_⟩
        have s17 := s16.ex e17
        refine ⟨x, bs, e, bv, r, some (.str wd), rfl, s17.br, hw.ok, hw.ac, hw.lt, by omega, bp2.go e17, hbn, r4, .inr ⟨h8, .inl wd, bp1.go e17, rfl⟩, fun H18 e18 => ⟨rfl, iteP rfl ?_⟩⟩
        have s18 := s17.ex e18
        refine ⟨rfl, fun xn bn H19 e19 b9 l9 w9 => ?_⟩
        have s19 := s18.ex e19
        refine ⟨xn, bn, 8, bv, r, some (.int 8), rfl, b9, w9.ok, w9.ac, w9.lt, by omega, ((bp2.go e17).go e18).go e19, hbn, r4, .inl ⟨by omega, rfl⟩, fun H20 e20 => ⟨rfl, ?_⟩⟩
        have kk := k H20 (s19.ex e20)
        exact kk
end


/-! ### the law -/
def K4 (H H' : Hp) : Prop := (∀ b xs, H b = some (.tup xs) → H' b = some (.tup xs)) ∧ ∀ b xs, xs.length ≠ 4 → H b = some (.lst xs) → H' b = some (.lst xs)
mutual
theorem Ac.k4 {H H' : Hp} (f : K4 H H') : ∀ (d : PyData) (v : V), no4 d = true → Ac H v d → Ac H' v d
  | .none, _, _, h => by cases h; exact .non
  | .bool b, _, _, h => by cases h; exact .bl b
  | .int i, _, _, h => by cases h; exact .int i
  | .str x, _, _, h => by cases h; exact .str x
  | .tuple ds, _, n, h => by cases h with
    | tup h1 h2 => exact .tup (f.1 _ _ h1) (AcAll.k4 f ds _ n h2)
  | .list ds, _, n, h => by
    have n' : (ds.length != 4 && no4s ds) = true := n
    rw [Bool.and_eq_true, bne_iff_ne] at n'
    cases h with
    | lst h1 h2 => exact .lst (f.2 _ _ (by rw [h2.len]; exact n'.1) h1) (AcAll.k4 f ds _ n'.2 h2)
  | .dict _, _, _, h => nomatch h
theorem AcAll.k4 {H H' : Hp} (f : K4 H H') : ∀ (ds : List PyData) (vs : List V), no4s ds = true → AcAll H vs ds → AcAll H' vs ds
  | [], _, _, h => by cases h; exact .nil
  | d :: ds, _, n, h => by
    have n' : (no4 d && no4s ds) = true := n
    rw [Bool.and_eq_true] at n'
    cases h with
    | cons h1 h2 => exact .cons (Ac.k4 f d _ n'.1 h1) (AcAll.k4 f ds _ n'.2 h2)
end
theorem PlAt.k4 {H H' : Hp} {v : V} {pl : Pl} (f : K4 H H') (n : no4 pl.D = true) (h : PlAt H v pl) : PlAt H' v pl := ⟨Ac.k4 f _ _ n h.at_, h.ok, h.lay, h.dep⟩
structure OL (a : Ad) (h c x pm d : Addr) (bs : List (List Nat)) (e : Nat) (vt : V) (H' : Hp) : Prop where
  hd : HandAt H' h c
  br : BareAt a.c_Bare H' x bs e
  ms : H' pm = some (.lst ((nI (bs.map msk)).map V.int))
  kp : ∃ g, Mm H' d g ∧ GoodM bs 100 g
  tl : PlAt H' vt (npl bs (up bs (2 ^ e) 0).length (2 ^ e) 0)
theorem OL.ex {a : Ad} {h c x pm d : Addr} {bs : List (List Nat)} {e : Nat} {vt : V} {H H' : Hp} (s : OL a h c x pm d bs e vt H) (k : Evl.Ex H H') : OL a h c x pm d bs e vt H' := by
  obtain ⟨g, g1, g2⟩ := s.kp
  exact ⟨s.hd.go k, s.br.go k, k _ _ s.ms, ⟨g, g1.go k, g2⟩, s.tl.go k⟩
theorem OL.hand {a : Ad} {h c x pm d : Addr} {bs : List (List Nat)} {e : Nat} {vt : V} {H H' : Hp} (s : OL a h c x pm d bs e vt H) (f : Fr h H H') (g' : HandAt H' h c) : OL a h c x pm d bs e vt H' := by
  obtain ⟨g, g1, g2⟩ := s.kp
  exact ⟨g', s.br.frh f s.hd, f _ _ (hand_int s.hd s.ms) s.ms, ⟨g, g1.frh f s.hd, g2⟩, s.tl.fr f s.hd (good_no4 (npl_good _ _ _).1)⟩
section
variable {P : Program} {w : World} {K : PySem.W.Frag} {mg : Str → Option Value} {base : Heap} {a : Ad}
def spLaw (K : PySem.W.Frag) : Sp := fun vs H Q _ => ∃ (s : Addr) (ns : List Int), vs = [.ref s] ∧ SqL K H s (ns.map V.int) ∧ ns.length ≤ 63 ∧ ∀ H', Q (.bl true) H'
theorem BareAt.kx {C : Addr} {H H' : Hp} {x : Addr} {bs : List (List Nat)} {e : Nat} (k : ∀ b u, (∀ xs, u ≠ .lst xs) → (∀ kvs, u ≠ .dT kvs) → H b = some u → H' b = some u) (b : BareAt C H x bs e) : BareAt C H' x bs e := by
  have kt : ∀ b xs, H b = some (.tup xs) → H' b = some (.tup xs) := fun b xs hb => k b _ (fun _ z => nomatch z) (fun _ z => nomatch z) hb
  have ka : ∀ {p : Addr} {bs : List (List Nat)}, ArrT H p bs → ArrT H' p bs := fun ⟨xs, h1, h2⟩ => ⟨xs, kt _ _ h1, Paired.mapP h2 fun _ _ ⟨q, z1, z2⟩ => ⟨q, z1, kt _ _ z2⟩⟩
  obtain ⟨dx, p, af, od, nd, h1, h2, h3, h4, h5⟩ := b
  exact ⟨dx, p, af, od, nd, k _ _ (fun _ z => nomatch z) (fun _ z => nomatch z) h1, ka h2, ka h3, kt _ _ h4, kt _ _ h5⟩
def mdL (a : Ad) (sc h c x pm d : Addr) (bs : List (List Nat)) (e : Nat) (vt : V) : L2.St → Hp → Prop := fun σ H' => ∃ v2 v3 v6 v8 v11 v12 v13 v14 v15, σ = [some (.ref sc), some (.ref h), v2, v3, some (.ref pm), some (.ref x), v6, some (.ref d), v8, some (.int (1 + (nb bs (2 ^ e) 0 : Nat))), some vt, v11, v12, v13, v14, v15, none] ∧ OL a h c x pm d bs e vt H'
theorem os_ol {h c x pm d p1 p2 : Addr} {bs : List (List Nat)} {e : Nat} {l m : List Nat} {vt : V} {H H' : Hp} (s : OL a h c x pm d bs e vt H) (o : OS a h c x pm d p1 p2 bs e l m H H') : OL a h c x pm d bs e vt H' := by
  obtain ⟨g, g1, _⟩ := s.kp
  obtain ⟨kvs, gd, _⟩ := g1
  refine ⟨o.hd, o.br, o.ms, o.kp, s.tl.k4 ⟨fun b xs hb => o.fr b _ (hand_tup s.hd hb) (fun z => ?_) hb, fun b xs n hb => o.fr b _ (hand_ne s.hd hb n) (fun z => ?_) hb⟩ (good_no4 (npl_good _ _ _).1)⟩
  all_goals
    rw [z, gd] at hb
    cases hb
theorem ok_law (T : Txt K mg a) (Z : Txe K a) : FnOk P w K mg base (L2.CX P w) 38 a.f_law a.d_law ["_law_script"] (spLaw K) := by
  refine T.F_law.okX sc_law (fun vs H Q E h => ?_) (fun cdv A outer s H vs Q E hr h => ?_)
  · obtain ⟨_, _, rfl, _⟩ := h
    rfl
  · obtain ⟨sc, ns, rfl, hs, hl, k⟩ := h
    refine ⟨_, (pss_cons (ps_set (i := 1) sc_law.nd rfl (by first | exact Or.inl rfl | exact Or.inr rfl) (pe_call (ok_law_hand T) (hr.mono (by decide)) rfl T.m_law_hand T.F_law_hand.kp T.b_law_hand .nil pass0 (pa_cons (pv 0) pa_nil)))
  (pss_cons (ps_asg (pe_call (ok_law_small T) (hr.mono (by decide)) rfl T.m_law_small T.F_law_small.kp T.b_law_small .nil pass0 (pa_cons (pv 1) pa_nil)) (pg_tup rfl (pgs_cons (pg_name (i := 2) sc_law.nd rfl (by first | exact Or.inl rfl | exact Or.inr rfl)) (pgs_cons (pg_name (i := 3) sc_law.nd rfl (by first | exact Or.inl rfl | exact Or.inr rfl)) pgs_nil))))
  (pss_cons (ps_set (i := 4) sc_law.nd rfl (by first | exact Or.inl rfl | exact Or.inr rfl) (pe_call (ok_law_masks T) (hr.mono (by decide)) rfl T.m_law_masks T.F_law_masks.kp T.b_law_masks .nil pass0 (pa_cons (pv 2) pa_nil)))
  (pss_cons (ps_set (i := 5) sc_law.nd rfl (by first | exact Or.inl rfl | exact Or.inr rfl) (pe_call (ok_law_bare_of T) (hr.mono (by decide)) rfl T.m_law_bare_of T.F_law_bare_of.kp T.b_law_bare_of .nil pass0 (pa_cons (pv 2) (pa_cons (pv 3) pa_nil))))
  (pss_cons (ps_set (i := 6) sc_law.nd rfl (by first | exact Or.inl rfl | exact Or.inr rfl) (pe_call (ok_law_two T) (hr.mono (by decide)) rfl T.m_law_two T.F_law_two.kp T.b_law_two .nil pass0 (pa_cons (pv 3) pa_nil)))
  (pss_cons (ps_set (i := 7) sc_law.nd rfl (by first | exact Or.inl rfl | exact Or.inr rfl) pe_dnewT)
  (pss_cons (ps_set (i := 8) sc_law.nd rfl (by first | exact Or.inl rfl | exact Or.inr rfl) (pe_call (ok_law_left T) (hr.mono (by decide)) rfl T.m_law_left T.F_law_left.kp T.b_law_left .nil pass0 (pa_cons (pv 4) (pa_cons (pv 6) (pa_cons pe_int (pa_cons (pv 7) pa_nil))))))
  (pss_cons (ps_set (i := 9) sc_law.nd rfl (by first | exact Or.inl rfl | exact Or.inr rfl) (pe_call (ok_names_of T) (hr.mono (by decide)) rfl T.m_names_of T.F_names_of.kp T.b_names_of .nil (passes_call (takes_of rfl rfl rfl rfl) (fun _ _ _ _ q => q)) (pa_cons (pv 5) pa_nil)))
  (pss_cons (ps_if (PW.pt (pw_or (pt_not (pt_val (pe_call (ok_law_whole T) (hr.mono (by decide)) rfl T.m_law_whole T.F_law_whole.kp T.b_law_whole .nil pass0 (pa_cons (pv 9) pa_nil)))) (pw_or1 (pt_cmpR op_ne (pv 9) (pe_op op_add pe_int (pv 8)) (nomark _))))) (pss_one (ps_ret pe_bl))
    pss_nil)
  (pss_cons (ps_set (i := 10) sc_law.nd rfl (by first | exact Or.inl rfl | exact Or.inr rfl) (pe_call (ok_naming_plan T) (hr.mono (by decide)) rfl T.m_naming_plan T.F_naming_plan.kp T.b_naming_plan.choose_spec.2 T.b_naming_plan.choose_spec.1 (passes_call (takes_of rfl rfl rfl rfl) (fun _ _ _ _ q => q)) (pa_cons (pv 5) pa_nil)))
  (pss_cons (ps_if (PW.pt (pw_or (pt_cmpR (op_neD hr.units) (pv 10) (pe_call (ok_law_told_naming T) (hr.mono (by decide)) rfl T.m_law_told_naming T.F_law_told_naming.kp T.b_law_told_naming .nil pass0 (pa_cons (pv 4) (pa_cons (pv 6) (pa_cons pe_int (pa_cons (pv 7) pa_nil))))) (nomark _)) (pw_or (pt_cmpR op_ne (pe_call (ok_plan_names T) (hr.mono (by decide)) rfl T.m_plan_names T.F_plan_names.kp T.b_plan_names .nil pass0 (pa_cons (pv 10) pa_nil)) (pv 8) (nomark _)) (pw_or1 (pt_cmpR op_notN (pe_call (ok_naming_fault T) (hr.mono (by decide)) rfl T.m_naming_fault T.F_naming_fault.kp T.b_naming_fault.choose_spec.2 T.b_naming_fault.choose_spec.1 (passes_call (takes_of rfl rfl rfl rfl) (fun _ _ _ _ q => q)) (pa_cons (pv 5) (pa_cons (pv 10) pa_nil))) pe_non (nomark _)))))) (pss_one (ps_ret pe_bl))
    pss_nil)
  (pss_cons (ps_set (i := 11) sc_law.nd rfl (by first | exact Or.inl rfl | exact Or.inr rfl) (pe_call (ok_law_any_naming T) (hr.mono (by decide)) rfl T.m_law_any_naming T.F_law_any_naming.kp T.b_law_any_naming .nil pass0 (pa_cons (pv 1) (pa_cons (pv 4) (pa_cons (pv 6) (pa_cons pe_int pa_nil))))))
  (pss_cons (ps_if (PW.pt (pw_or (pt_cmpR op_notN (pe_call (ok_naming_fault T) (hr.mono (by decide)) rfl T.m_naming_fault T.F_naming_fault.kp T.b_naming_fault.choose_spec.2 T.b_naming_fault.choose_spec.1 (passes_call (takes_of rfl rfl rfl rfl) (fun _ _ _ _ q => q)) (pa_cons (pv 5) (pa_cons (pv 11) pa_nil))) pe_non (nomark _)) (pw_or1 (pt_cmpR op_ne (pe_call (ok_plan_names T) (hr.mono (by decide)) rfl T.m_plan_names T.F_plan_names.kp T.b_plan_names .nil pass0 (pa_cons (pv 11) pa_nil)) (pe_call (ok_law_depth T) (hr.mono (by decide)) rfl T.m_law_depth T.F_law_depth.kp T.b_law_depth .nil pass0 (pa_cons (pv 11) pa_nil)) (nomark _))))) (pss_one (ps_ret pe_bl))
    pss_nil)
  (pss_cons (ps_set (i := 12) sc_law.nd rfl (by first | exact Or.inl rfl | exact Or.inr rfl) (pe_call (ok_law_spoiled T) (hr.mono (by decide)) rfl T.m_law_spoiled T.F_law_spoiled.kp T.b_law_spoiled .nil pass0 (pa_cons (pv 1) (pa_cons (pv 11) (pa_cons (pe_callB call_len_seq (by rfl) T.z_len (by decide +kernel) (pa_cons (pv 4) pa_nil)) (pa_cons pe_bl pa_nil))))))
  (pss_cons (ps_if (pt_cmpR op_ne (pe_call (ok_naming_fault T) (hr.mono (by decide)) rfl T.m_naming_fault T.F_naming_fault.kp T.bf_naming_fault .nil (passes_call (takes_of rfl rfl rfl rfl) (fun _ _ _ _ q => q)) (pa_cons (pv 5) (pa_cons (pv 12) (pa_cons (pe_tup (pa_cons (pe_lst (pa_cons (pv 3) pa_nil)) (pa_cons (pe_lst pa_nil) pa_nil))) pa_nil)))) (pe_call (ok_law_naming_word T) (hr.mono (by decide)) rfl T.m_law_naming_word T.F_law_naming_word.kp T.b_law_naming_word .nil pass0 (pa_cons (pv 4) (pa_cons (pv 12) (pa_cons (pv 6) (pa_cons pe_int pa_nil))))) (nomark _)) (pss_one (ps_ret pe_bl))
    pss_nil)
  (Evl.pss_cut (ps_for (passes_of rfl) rfl (pi_range1 (by rfl) T.z_range (pa_cons pe_int pa_nil)) (pg_name (i := 13) sc_law.nd rfl (by first | exact Or.inl rfl | exact Or.inr rfl)) (pss_cons (ps_asg (pe_call (ok_law_painting T) (hr.mono (by decide)) rfl T.m_law_painting T.F_law_painting.kp T.b_law_painting .nil pass0 (pa_cons (pv 1) (pa_cons (pe_callB call_len_seq (by rfl) T.z_len (by decide +kernel) (pa_cons (pv 4) pa_nil)) pa_nil))) (pg_tup rfl (pgs_cons (pg_name (i := 14) sc_law.nd rfl (by first | exact Or.inl rfl | exact Or.inr rfl)) (pgs_cons (pg_name (i := 15) sc_law.nd rfl (by first | exact Or.inl rfl | exact Or.inr rfl)) pgs_nil))))
  (pss_one (ps_if (pt_not (pt_val (pe_call (ok_law_one T Z) (hr.mono (by decide)) rfl T.m_law_one T.F_law_one.kp T.b_law_one .nil (passes_call (takes_of rfl rfl rfl rfl) (fun _ _ _ _ q => q)) (pa_cons (pv 1) (pa_cons (pv 5) (pa_cons (pv 4) (pa_cons (pv 7) (pa_cons (pv 14) (pa_cons (pv 15) pa_nil))))))))) (pss_one (ps_ret pe_bl))
    pss_nil))))
  (pss_cons (ps_asg (pe_call (ok_law_eight T) (hr.mono (by decide)) rfl T.m_law_eight T.F_law_eight.kp T.b_law_eight .nil pass0 (pa_cons (pv 1) pa_nil)) (pg_tup rfl (pgs_cons (pg_name (i := 2) sc_law.nd rfl (by first | exact Or.inl rfl | exact Or.inr rfl)) (pgs_cons (pg_name (i := 16) sc_law.nd rfl (by first | exact Or.inl rfl | exact Or.inr rfl)) pgs_nil))))
  (pss_cons (ps_asg (pe_call (ok_law_painted_eight T) (hr.mono (by decide)) rfl T.m_law_painted_eight T.F_law_painted_eight.kp T.b_law_painted_eight .nil pass0 (pa_cons (pv 1) (pa_cons (pv 16) pa_nil))) (pg_tup rfl (pgs_cons (pg_name (i := 14) sc_law.nd rfl (by first | exact Or.inl rfl | exact Or.inr rfl)) (pgs_cons (pg_name (i := 15) sc_law.nd rfl (by first | exact Or.inl rfl | exact Or.inr rfl)) pgs_nil))))
  (pss_cons (ps_if (pt_not (pt_val (pe_call (ok_law_one T Z) (hr.mono (by decide)) rfl T.m_law_one T.F_law_one.kp T.b_law_one .nil (passes_call (takes_of rfl rfl rfl rfl) (fun _ _ _ _ q => q)) (pa_cons (pv 1) (pa_cons (pe_call (ok_law_bare_of T) (hr.mono (by decide)) rfl T.m_law_bare_of T.F_law_bare_of.kp T.b_law_bare_of .nil pass0 (pa_cons (pv 2) (pa_cons (pv 16) pa_nil))) (pa_cons (pe_call (ok_law_masks T) (hr.mono (by decide)) rfl T.m_law_masks T.F_law_masks.kp T.b_law_masks .nil pass0 (pa_cons (pv 2) pa_nil)) (pa_cons pe_dnewT (pa_cons (pv 14) (pa_cons (pv 15) pa_nil))))))))) (pss_one (ps_ret pe_bl))
    pss_nil)
  (pss_one (ps_ret (pe_and (pe_cmpR (op_eqD hr.units) (pe_call (ok_naming_plan T) (hr.mono (by decide)) rfl T.m_naming_plan T.F_naming_plan.kp T.b_naming_plan.choose_spec.2 T.b_naming_plan.choose_spec.1 (passes_call (takes_of rfl rfl rfl rfl) (fun _ _ _ _ q => q)) (pa_cons (pv 5) pa_nil)) (pv 10) (nomark _)) (pe_one (pe_cmpR op_eq (pe_call (ok_names_of T) (hr.mono (by decide)) rfl T.m_names_of T.F_names_of.kp T.b_names_of .nil (passes_call (takes_of rfl rfl rfl rfl) (fun _ _ _ _ q => q)) (pa_cons (pv 5) pa_nil)) (pv 9) (nomark _))))))))))))))))))))))))), ?_⟩
    walk_at "sm"
    have pw : ∀ i : Nat, (2 : Int) ^ i = ((2 ^ i : Nat) : Int) := fun i => by rw [Int.natCast_pow]; rfl
    have rows : ∀ {n e : Nat} {f : Nat → List Nat}, WebOk ((List.range n).map f) e → ∀ i, i < n → (f i).Pairwise (· < ·) ∧ ∀ x ∈ f i, x < n := fun {n e f} hw i hi => by
      obtain ⟨h1, h2, _⟩ := hw.ok.2.2 i (f i) (get_rg hi)
      exact ⟨h1, fun x hx => by have := (h2 x hx).1; rwa [List.length_map, List.length_range] at this⟩
    have nx : ∀ (A B : Prop) (v : V) (y : V), v = y → B → (if (!decide (v = y)) = true then A else B) := fun A B v y z b => iteF' (by rw [decide_eq_true z]; rfl) b
    refine ⟨sc, ns, rfl, hs, hl, fun h0 c H1 _ e1 ha => ⟨h0, c, rfl, ha, fun v n bs e H2 n1 n7 f2 g2 ⟨t, lp, ls, f, hv, ht, haf, hls, hbs⟩ hw => ?_⟩⟩
    subst hv
    have hw' : WebOk ((List.range n).map f) e := by rw [← hbs]; exact hw
    have bl : bs.length = n := by rw [hbs, List.length_map, List.length_range]
    have en : e < n := by rw [← bl]; exact hw.lt
    refine ⟨t, rfl, _, SqT.of ht, rfl, _, _, rfl, _, _, rfl, rfl, lp, ls, f, n, rfl, haf, hls, by omega, rows hw', fun pm H3 e3 hm => ?_⟩
    have hm3 : H3 pm = some (.lst ((nI (bs.map msk)).map V.int)) := by rw [hm, hbs]; rw [show ((List.range n).map f).map msk = (List.range n).map (fun i => msk (f i)) from List.map_map ..]
    refine ⟨lp, ls, f, n, e, rfl, haf.ex e3, hls, by omega, hw', fun x H4 e4 hB => ⟨e, rfl, by omega, fun d hd => ?_⟩⟩
    rw [← hbs] at hB
    have e5 := Evl.Ex.new (o := .dT []) hd
    have m5 : Mm (upd H4 d (.dT [])) d fun _ _ => none := Mm.new
    have hB5 := hB.go e5
    have hm5 := e5 _ _ (e4 _ _ hm3)
    have g5 := ((g2.go e3).go e4).go e5
    generalize upd H4 d (.dT []) = H5 at e5 m5 hB5 hm5 g5 ⊢
    have pn : Pnt bs (2 ^ e) 0 := pnt_end hw.lt
    refine ⟨pm, bs, 2 ^ e, 0, d, _, by rw [pw]; rfl, hm5, hw.ok, hw.ac, by omega, pn, up9 (by omega), m5, (fun _ _ _ z => nomatch z), fun H6 g6 f6 m6 gd6 => ?_⟩
    have k6 := m5.kd f6
    have hB6 := hB5.kd k6
    have hm6 := k6.lst hm5
    have h6 := g5.kd k6
    refine ⟨x, bs, e, rfl, hB6, hw.ok, hw.ac, by omega, hw.lt, fun H7 e7 => ⟨_, rfl, plain_int, true, rfl, iteF ⟨_, rfl, rfl, nx _ _ _ _ rfl ?_⟩⟩⟩
    refine ⟨x, bs, e, .non, rfl, hB6.go e7, hw.ok, hw.ac, hw.lt, by omega, .inl rfl, .inl ⟨rfl, by omega, fun vt H8 e8 pl8 => ?_⟩⟩
    have e68 := e7.trans e8
    refine ⟨pm, bs, 2 ^ e, 0, d, g6, by rw [pw]; rfl, e68 _ _ hm6, hw.ok, hw.ac, by omega, pn, up9 (by omega), m6.go e68, gd6, fun H9 g9 vl f9 m9 gd9 pl9 => ?_⟩
    have k9 := (m6.go e68).kd f9
    have nz := npl_ok hw.ok hw.ac (up bs (2 ^ e) 0).length _ _ (Nat.le_refl _) pn
    have ng := npl_good (bs := bs) (up bs (2 ^ e) 0).length (2 ^ e) 0
    have ul := up_len bs (2 ^ e) 0
    have s9 : OL a h0 c x pm d bs e vt H9 := ⟨(h6.go e68).kd k9, (hB6.go e68).kd k9, k9.lst (e68 _ _ hm6), ⟨g9, m9, gd9⟩, pl8.kd k9⟩
    refine ne_same (Ac.dp _ _ s9.tl.at_) (Ac.dp _ _ pl9.at_) s9.tl.shaped ⟨_, rfl, iteF ?_⟩
    have lm : ((nI (bs.map msk)).map V.int).length = bs.length := by rw [nI_len, List.length_map]
    have n60 : bs.length ≤ 60 := by omega
    have n8 : bs.length ≤ 8 := by omega
    refine ⟨vt, _, rfl, s9.tl, ng.1, by omega, fun H10 e10 => ⟨rfl, iteF' (by rw [nz.2]; simp) ?_⟩⟩
    have s10 := s9.ex e10
    refine ⟨x, bs, e, vt, .non, _, rfl, s10.br, hw.ok, hw.lt, n60, s10.tl, by omega, .inl rfl, .inl ⟨rfl, n8, fun H11 e11 => ?_⟩⟩
    rw [nz.1]
    have s11 := s10.ex e11
    refine iteF' (by simp) ⟨h0, c, pm, bs, 2 ^ e, 0, by rw [pw]; rfl, s11.hd, hand_int s11.hd s11.ms, s11.ms, hw.ok, hw.ac, n8, pn, up9 n8, fun H12 va pa f12 g12 pla gda nwa hga => ?_⟩
    have s12 := s11.hand f12 g12
    refine ⟨x, bs, e, va, .non, pa, rfl, s12.br, hw.ok, hw.lt, n60, pla, by omega, .inl rfl, .inl ⟨rfl, n8, fun H13 e13 => ?_⟩⟩
    rw [nwa]
    have s13 := s12.ex e13
    refine iteF' (by simp) ⟨va, pa, rfl, pla.go e13, gda, by omega, fun H14 e14 => ⟨va, pa, rfl, (pla.go e13).go e14, gda, by omega, rfl, nx _ _ _ _ rfl ?_⟩⟩
    have s14 := s13.ex e14
    refine ⟨pm, rfl, _, .inl (SqL.of s14.ms), ?_⟩
    rw [lm]
    refine ⟨h0, c, va, bs.length, pa, rfl, s14.hd, by omega, by omega, (pla.go e13).go e14, gda, by omega, by omega, fun H15 vo ⟨f15, g15, po, q1, q2, q3, q4⟩ => ?_⟩
    have s15 := s14.hand f15 g15
    have me : msk [e] = 2 ^ e := by
      show 0 ||| 2 ^ e = 2 ^ e
      rw [Nat.zero_or]
    refine ⟨sz (by decide), fun y1 hy1 => ⟨sz (by decide), fun y2 hy2 => ⟨sz (by decide), fun y3 hy3 => ?_⟩⟩⟩
    have c1 := Evl.Ex.new (o := .lst [V.int (e : Nat)]) hy1
    have c2 := Evl.Ex.new (o := .lst []) hy2
    have c3 := Evl.Ex.new (o := .tup [V.ref y1, V.ref y2]) hy3
    have w1 := c3 _ _ (c2 _ _ (upd_same (H := H15) (a := y1) (o := .lst [V.int (e : Nat)])))
    have w2 := c3 _ _ (upd_same (H := upd H15 y1 (.lst [V.int (e : Nat)])) (a := y2) (o := .lst []))
    have w3 := upd_same (H := upd (upd H15 y1 (.lst [V.int (e : Nat)])) y2 (.lst [])) (a := y3) (o := .tup [V.ref y1, V.ref y2])
    have e16 := (c1.trans c2).trans c3
    generalize upd (upd (upd H15 y1 (.lst [V.int (e : Nat)])) y2 (.lst [])) y3 (.tup [V.ref y1, V.ref y2]) = H16 at e16 w1 w2 w3 ⊢
    have s16 := s15.ex e16
    have sq : SqAt H16 y3 [V.ref y1, V.ref y2] := .inl w3
    have pt : PtAt H16 bs.length (.ref y3) (.inr ([e], [])) := ⟨y3, _, _, rfl, sq, ⟨y1, rfl, .inr w1, List.nodup_cons.mpr ⟨List.not_mem_nil, List.nodup_nil⟩, fun z hz => by rw [List.mem_singleton.mp hz]; omega⟩, List.cons_ne_nil _ _, ⟨y2, rfl, .inr w2, List.nodup_nil, fun z hz => nomatch hz⟩, fun z hz => nomatch hz⟩
    refine ⟨x, bs, e, vo, .ref y3, po, rfl, s16.br, hw.ok, hw.lt, n60, q1.go e16, by omega, sq.plain, .inr ⟨(by intro z; cases z), .inr ⟨n8, .inr ([e], []), pt, fun H17 e17 => ?_⟩⟩⟩
    rw [me, show msk [] = 0 from rfl]
    have s17 := s16.ex e17
    refine ⟨pm, bs, vo, po, 2 ^ e, 0, by rw [pw]; rfl, s17.ms, n8, (q1.go e16).go e17, by omega, fun H18 e18 => ?_⟩
    have s18 := s17.ex e18
    have pos : 1 ≤ bs.length := by omega
    cases po.nw bs (2 ^ e) 0 <;> refine ⟨rfl, nx _ _ _ _ rfl ?_⟩
    all_goals
      refine ⟨mdL a sc h0 c x pm d bs e vt, ?_, fun σ HX ⟨v2, v3, v6, v8, v11, v12, v13, v14, v15, z1, s⟩ => ?_⟩
      · refine ⟨2, rfl, by decide, by decide, for_range (lo := 0) (n := (2 : Int).toNat) (fun _ => mdL a sc h0 c x pm d bs e vt) ⟨_, _, _, _, _, _, _, _, _, rfl, s18⟩ ?_ ?_⟩
        · rintro i σ HX hi ⟨v2, v3, v6, v8, v11, v12, v13, v14, v15, rfl, s⟩
          walk_at "sm"
          refine ⟨_, .inl (SqL.of s.ms), ?_⟩
          rw [lm]
          refine ⟨h0, c, bs.length, rfl, s.hd, pos, n8, fun v H20 p1 p2 l m t f20 g20 hv ht rb => ?_⟩
          subst hv
          have s20 := s.hand f20 g20
          obtain ⟨g9, k9, gd9⟩ := s20.kp
          refine ⟨t, rfl, _, SqT.of ht, rfl, _, _, rfl, _, _, rfl, rfl, h0, c, x, pm, d, p1, p2, bs, e, g9, l, m, rfl, s20.hd, s20.br, hw, n8, s20.ms, k9, gd9, rb, fun H21 os => ⟨_, rfl, iteF ⟨_, _, _, _, _, _, _, _, _, rfl, os_ol s20 os⟩⟩⟩
        · exact fun σ HX h => h
      · subst z1
        walk_at "sm"
        refine ⟨h0, c, rfl, s.hd, fun v bs2 e2 H20 f20 g20 ⟨t, lp2, ls2, ff, hv, ht, haf2, hls2, hbs2⟩ hw2 => ?_⟩
        subst hv
        have s20 := s.hand f20 g20
        have hw2' : WebOk ((List.range 8).map ff) e2 := by rw [← hbs2]; exact hw2
        have bl2 : bs2.length = 8 := by rw [hbs2, List.length_map, List.length_range]
        have en2 : e2 < 8 := by rw [← bl2]; exact hw2.lt
        refine ⟨t, rfl, _, SqT.of ht, rfl, _, _, rfl, _, _, rfl, rfl, h0, c, e2, rfl, s20.hd, en2, fun v H21 p1 p2 l m t2 f21 g21 hv ht2 rb => ?_⟩
        subst hv
        have s21 := s20.hand f21 g21
        have haf21 := (haf2.fr f21 g20).1
        refine ⟨t2, rfl, _, SqT.of ht2, rfl, _, _, rfl, _, _, rfl, rfl, ?_⟩
        refine ⟨lp2, ls2, ff, 8, e2, rfl, haf21, hls2, by decide, hw2', fun x2 H22 e22 hB2 => ⟨lp2, ls2, ff, 8, rfl, haf21.ex e22, hls2, by decide, rows hw2', fun pm2 H23 e23 hm2 d2 hd2 => ?_⟩⟩
        rw [← hbs2] at hB2
        have hm2' : H23 pm2 = some (.lst ((nI (bs2.map msk)).map V.int)) := by rw [hm2, hbs2]; rw [show ((List.range 8).map ff).map msk = (List.range 8).map (fun i => msk (ff i)) from List.map_map ..]
        have e24 := Evl.Ex.new (o := .dT []) hd2
        have m24 : Mm (upd H23 d2 (.dT [])) d2 fun _ _ => none := Mm.new
        have s24 := ((s21.ex e22).ex e23).ex e24
        have hB24 := (hB2.go e23).go e24
        have hm24 := e24 _ _ hm2'
        have rb24 : RbAt (upd H23 d2 (.dT [])) p1 p2 bs2.length l m := by
          obtain ⟨r1, r2, r3, r4, r5⟩ := rb
          exact ⟨e24 _ _ (e23 _ _ (e22 _ _ r1)), e24 _ _ (e23 _ _ (e22 _ _ r2)), r3, r4, fun z hz => by rw [bl2]; exact r5 z hz⟩
        have dd : upd H23 d2 (.dT []) d2 = some (.dT []) := upd_same
        generalize upd H23 d2 (.dT []) = H24 at m24 s24 hB24 hm24 rb24 dd ⊢
        refine ⟨h0, c, x2, pm2, d2, p1, p2, bs2, e2, _, l, m, rfl, s24.hd, hB24, hw2, by omega, hm24, m24, (fun _ _ _ z => nomatch z), rb24, fun H25 os => ⟨_, rfl, iteF ?_⟩⟩
        obtain ⟨hys, hhy⟩ := hand_lst s24.hd
        have br25 : BareAt a.c_Bare H25 x bs e := s24.br.kx fun b u u1 u2 hb => os.fr b u (fun z => by rw [z, hhy] at hb; exact u1 _ (Option.some.inj hb).symm) (fun z => by rw [z, dd] at hb; exact u2 _ (Option.some.inj hb).symm) hb
        have tl25 : PlAt H25 vt (npl bs (up bs (2 ^ e) 0).length (2 ^ e) 0) := s24.tl.k4 ⟨fun b xs hb => os.fr b _ (hand_tup s24.hd hb) (fun z => by rw [z, dd] at hb; cases hb) hb, fun b xs n hb => os.fr b _ (hand_ne s24.hd hb n) (fun z => by rw [z, dd] at hb; cases hb) hb⟩ (good_no4 (npl_good _ _ _).1)
        refine ⟨x, bs, e, .non, rfl, br25, hw.ok, hw.ac, hw.lt, n60, .inl rfl, .inl ⟨rfl, n8, fun v9 H26 e26 pl26 => ?_⟩⟩
        refine eq_same (Ac.dp _ _ pl26.at_) (Ac.dp _ _ (tl25.go e26).at_) pl26.shaped ⟨_, rfl, iteT ?_⟩
        refine ⟨x, bs, e, rfl, br25.go e26, hw.ok, hw.ac, n8, hw.lt, fun H27 e27 => ⟨rfl, ?_⟩⟩
        rw [decide_eq_true rfl]
        exact k H27
end


theorem exm_self {K : PySem.W.Frag} {S : Addr} (h1 : PySem.W.subIn K (.ref S) (.type "BaseException") = some true) (h2 : PySem.W.isClsIn K S = true) (h3 : PySem.W.typeIn K (.ref S) = some (.type "type")) (h4 : PySem.W.subIn K (.ref S) (.ref S) = some true) :
    PySem.W.exmOne K (.ref S) (.ref S) = some true := by
  have e1 : (PySem.W.subIn K (.ref S) (.type "BaseException") == some true) = true := by rw [h1] <;> rfl
  have e2 : ((PySem.W.clsIn K S).isSome && PySem.W.typeIn K (.ref S) == some (.type "type")) = true := by
    have h5 : (PySem.W.clsIn K S).isSome = true := h2
    rw [h5, h3] <;> rfl
  unfold PySem.W.exmOne
  rw [if_pos e1]
  show (if ((PySem.W.clsIn K S).isSome && PySem.W.typeIn K (.ref S) == some (.type "type")) = true then PySem.W.subIn K (.ref S) (.ref S) else none) = some true
  rw [if_pos e2]
  exact h4
/-- the items of a constant tuple, held against what they should be -/
def valB : V → Value → Bool
  | .int i, .int j _ => decide (i = j)
  | .str x, .str y _ => decide (x = y)
  | .non, .none => true
  | _, _ => false
theorem valB_ok : ∀ {x : V} {u : Value}, valB x u = true → RelV x u := by
  intro x u h
  unfold valB at h
  split at h
  · exact ⟨_, by rw [of_decide_eq_true h]⟩
  · exact ⟨_, by rw [of_decide_eq_true h]⟩
  · rfl
  · cases h
def valsB : List V → List Value → Bool
  | [], [] => true
  | x :: xs, u :: us => valB x u && valsB xs us
  | _, _ => false
theorem valsB_ok : ∀ {xs : List V} {us : List Value}, valsB xs us = true → Vals xs us
  | [], [], _ => .nil
  | [], _ :: _, h => by cases h
  | _ :: _, [], h => by cases h
  | x :: xs, u :: us, h => by
    have h' : (valB x u && valsB xs us) = true := h
    rw [Bool.and_eq_true] at h'
    exact .cons (valB_ok h'.1) (valsB_ok h'.2)
theorem sqT_mk {K : PySem.W.Frag} {H : Hp} {p : Addr} {d : Option Addr} {its : Array Value} {n : Nat} {sl : Array (Option Value)} {xs : List V} (l : K.lookup p = some ⟨.type "tuple", d, .seq its n, sl⟩) (v : valsB xs its.toList = true) (z : decide (its.size ≤ 1000) = true) : SqT K H p xs :=
  .inr ⟨_, its, n, l, rfl, rfl, Nat.le_trans (of_decide_eq_true z) (by decide), valsB_ok v⟩
theorem exm_no {K : PySem.W.Frag} {S T : Addr} (h1 : PySem.W.subIn K (.ref T) (.type "BaseException") = some true) (h2 : PySem.W.isClsIn K T = true) (h3 : PySem.W.typeIn K (.ref T) = some (.type "type")) (h4 : PySem.W.subIn K (.ref S) (.ref T) = some false) :
    PySem.W.exmOne K (.ref S) (.ref T) = some false := by
  have e1 : (PySem.W.subIn K (.ref T) (.type "BaseException") == some true) = true := by rw [h1] <;> rfl
  have e2 : ((PySem.W.clsIn K T).isSome && PySem.W.typeIn K (.ref T) == some (.type "type")) = true := by
    have h5 : (PySem.W.clsIn K T).isSome = true := h2
    rw [h5, h3] <;> rfl
  unfold PySem.W.exmOne
  rw [if_pos e1]
  show (if ((PySem.W.clsIn K T).isSome && PySem.W.typeIn K (.ref T) == some (.type "type")) = true then PySem.W.subIn K (.ref S) (.ref T) else none) = some false
  rw [if_pos e2]
  exact h4

theorem all_mk {P : Program} {w : World} {K : PySem.W.Frag} {h : Heap} {mg : Str → Option Value} {fa : Addr} (X : K.In h) (G : h.Ns mainGlobals mg) (hfa : mg "law" = some (.ref fa))
    {v_is_whole : Addr} {oc_is_whole kV_is_whole dc_is_whole pm_is_whole cd_is_whole ct_is_whole : Value} {od_is_whole an_is_whole : Option Addr} {sl_is_whole : Array (Option Value)}
    {v_is_within : Addr} {oc_is_within kV_is_within dc_is_within pm_is_within cd_is_within ct_is_within : Value} {od_is_within an_is_within : Option Addr} {sl_is_within : Array (Option Value)}
    {v_is_sequence : Addr} {oc_is_sequence kV_is_sequence dc_is_sequence pm_is_sequence cd_is_sequence ct_is_sequence : Value} {od_is_sequence an_is_sequence : Option Addr} {sl_is_sequence : Array (Option Value)}
    {v_mask_of : Addr} {oc_mask_of kV_mask_of dc_mask_of pm_mask_of cd_mask_of ct_mask_of : Value} {od_mask_of an_mask_of : Option Addr} {sl_mask_of : Array (Option Value)}
    {v_is_place : Addr} {oc_is_place kV_is_place dc_is_place pm_is_place cd_is_place ct_is_place : Value} {od_is_place an_is_place : Option Addr} {sl_is_place : Array (Option Value)}
    {v_is_before_list : Addr} {oc_is_before_list kV_is_before_list dc_is_before_list pm_is_before_list cd_is_before_list ct_is_before_list : Value} {od_is_before_list an_is_before_list : Option Addr} {sl_is_before_list : Array (Option Value)}
    {v_checked_befores : Addr} {oc_checked_befores kV_checked_befores dc_checked_befores pm_checked_befores cd_checked_befores ct_checked_befores : Value} {od_checked_befores an_checked_befores : Option Addr} {sl_checked_befores : Array (Option Value)}
    {v_afters_of : Addr} {oc_afters_of kV_afters_of dc_afters_of pm_afters_of cd_afters_of ct_afters_of : Value} {od_afters_of an_afters_of : Option Addr} {sl_afters_of : Array (Option Value)}
    {v_ordered_of : Addr} {oc_ordered_of kV_ordered_of dc_ordered_of pm_ordered_of cd_ordered_of ct_ordered_of : Value} {od_ordered_of an_ordered_of : Option Addr} {sl_ordered_of : Array (Option Value)}
    {v_reached_along T_reached_along : Addr} {oc_reached_along kV_reached_along dc_reached_along pm_reached_along cd_reached_along ct_reached_along : Value} {od_reached_along an_reached_along e_reached_along : Option Addr} {sl_reached_along r_reached_along : Array (Option Value)} {j_reached_along : Array Value} {n_reached_along : Nat}
    {v_check_rings : Addr} {oc_check_rings kV_check_rings dc_check_rings pm_check_rings cd_check_rings ct_check_rings : Value} {od_check_rings an_check_rings : Option Addr} {sl_check_rings : Array (Option Value)}
    {v_check_roads : Addr} {oc_check_roads kV_check_roads dc_check_roads pm_check_roads cd_check_roads ct_check_roads : Value} {od_check_roads an_check_roads : Option Addr} {sl_check_roads : Array (Option Value)}
    {v_check_small : Addr} {oc_check_small kV_check_small dc_check_small pm_check_small cd_check_small ct_check_small : Value} {od_check_small an_check_small : Option Addr} {sl_check_small : Array (Option Value)}
    {v_is_unlike : Addr} {oc_is_unlike kV_is_unlike dc_is_unlike pm_is_unlike cd_is_unlike ct_is_unlike : Value} {od_is_unlike an_is_unlike : Option Addr} {sl_is_unlike : Array (Option Value)}
    {v_check_painting : Addr} {oc_check_painting kV_check_painting dc_check_painting pm_check_painting cd_check_painting ct_check_painting : Value} {od_check_painting an_check_painting : Option Addr} {sl_check_painting : Array (Option Value)}
    {v_checked_hues : Addr} {oc_checked_hues kV_checked_hues dc_checked_hues pm_checked_hues cd_checked_hues ct_checked_hues : Value} {od_checked_hues an_checked_hues : Option Addr} {sl_checked_hues : Array (Option Value)}
    {v_first_hues : Addr} {oc_first_hues kV_first_hues dc_first_hues pm_first_hues cd_first_hues ct_first_hues : Value} {od_first_hues an_first_hues : Option Addr} {sl_first_hues : Array (Option Value)}
    {v_is_painted_over : Addr} {oc_is_painted_over kV_is_painted_over dc_is_painted_over pm_is_painted_over cd_is_painted_over ct_is_painted_over : Value} {od_is_painted_over an_is_painted_over : Option Addr} {sl_is_painted_over : Array (Option Value)}
    {v_unpainted : Addr} {oc_unpainted kV_unpainted dc_unpainted pm_unpainted cd_unpainted ct_unpainted : Value} {od_unpainted an_unpainted : Option Addr} {sl_unpainted : Array (Option Value)}
    {v_painted : Addr} {oc_painted kV_painted dc_painted pm_painted cd_painted ct_painted : Value} {od_painted an_painted : Option Addr} {sl_painted : Array (Option Value)}
    {v_names_behind : Addr} {oc_names_behind kV_names_behind dc_names_behind pm_names_behind cd_names_behind ct_names_behind : Value} {od_names_behind an_names_behind : Option Addr} {sl_names_behind : Array (Option Value)}
    {v_worse_hue : Addr} {oc_worse_hue kV_worse_hue dc_worse_hue pm_worse_hue cd_worse_hue ct_worse_hue : Value} {od_worse_hue an_worse_hue : Option Addr} {sl_worse_hue : Array (Option Value)}
    {v_names_left : Addr} {oc_names_left kV_names_left dc_names_left pm_names_left cd_names_left ct_names_left : Value} {od_names_left an_names_left : Option Addr} {sl_names_left : Array (Option Value)}
    {v_names_of : Addr} {oc_names_of kV_names_of dc_names_of pm_names_of cd_names_of ct_names_of : Value} {od_names_of an_names_of : Option Addr} {sl_names_of : Array (Option Value)}
    {v_told_hues : Addr} {oc_told_hues kV_told_hues dc_told_hues pm_told_hues cd_told_hues ct_told_hues : Value} {od_told_hues an_told_hues : Option Addr} {sl_told_hues : Array (Option Value)}
    {v_plan_names : Addr} {oc_plan_names kV_plan_names dc_plan_names pm_plan_names cd_plan_names ct_plan_names : Value} {od_plan_names an_plan_names : Option Addr} {sl_plan_names : Array (Option Value)}
    {v_naming_fault T_naming_fault : Addr} {oc_naming_fault kV_naming_fault dc_naming_fault pm_naming_fault cd_naming_fault ct_naming_fault : Value} {od_naming_fault an_naming_fault e_naming_fault : Option Addr} {sl_naming_fault r_naming_fault : Array (Option Value)} {j_naming_fault : Array Value} {n_naming_fault : Nat}
    {v_naming_fault_in : Addr} {oc_naming_fault_in kV_naming_fault_in dc_naming_fault_in pm_naming_fault_in cd_naming_fault_in ct_naming_fault_in : Value} {od_naming_fault_in an_naming_fault_in : Option Addr} {sl_naming_fault_in : Array (Option Value)}
    {v_naming_plan T_naming_plan : Addr} {oc_naming_plan kV_naming_plan dc_naming_plan pm_naming_plan cd_naming_plan ct_naming_plan : Value} {od_naming_plan an_naming_plan e_naming_plan : Option Addr} {sl_naming_plan r_naming_plan : Array (Option Value)} {j_naming_plan : Array Value} {n_naming_plan : Nat}
    {v_naming_in : Addr} {oc_naming_in kV_naming_in dc_naming_in pm_naming_in cd_naming_in ct_naming_in : Value} {od_naming_in an_naming_in : Option Addr} {sl_naming_in : Array (Option Value)}
    {v_law_hand : Addr} {oc_law_hand kV_law_hand dc_law_hand pm_law_hand cd_law_hand ct_law_hand : Value} {od_law_hand an_law_hand : Option Addr} {sl_law_hand : Array (Option Value)}
    {v_law_mixed : Addr} {oc_law_mixed kV_law_mixed dc_law_mixed pm_law_mixed cd_law_mixed ct_law_mixed : Value} {od_law_mixed an_law_mixed : Option Addr} {sl_law_mixed : Array (Option Value)}
    {v_law_take : Addr} {oc_law_take kV_law_take dc_law_take pm_law_take cd_law_take ct_law_take : Value} {od_law_take an_law_take : Option Addr} {sl_law_take : Array (Option Value)}
    {v_law_whole : Addr} {oc_law_whole kV_law_whole dc_law_whole pm_law_whole cd_law_whole ct_law_whole : Value} {od_law_whole an_law_whole : Option Addr} {sl_law_whole : Array (Option Value)}
    {v_law_two : Addr} {oc_law_two kV_law_two dc_law_two pm_law_two cd_law_two ct_law_two : Value} {od_law_two an_law_two : Option Addr} {sl_law_two : Array (Option Value)}
    {v_law_led : Addr} {oc_law_led kV_law_led dc_law_led pm_law_led cd_law_led ct_law_led : Value} {od_law_led an_law_led : Option Addr} {sl_law_led : Array (Option Value)}
    {v_law_order : Addr} {oc_law_order kV_law_order dc_law_order pm_law_order cd_law_order ct_law_order : Value} {od_law_order an_law_order : Option Addr} {sl_law_order : Array (Option Value)}
    {v_law_bare : Addr} {oc_law_bare kV_law_bare dc_law_bare pm_law_bare cd_law_bare ct_law_bare : Value} {od_law_bare an_law_bare : Option Addr} {sl_law_bare : Array (Option Value)}
    {v_law_tree : Addr} {oc_law_tree kV_law_tree dc_law_tree pm_law_tree cd_law_tree ct_law_tree : Value} {od_law_tree an_law_tree : Option Addr} {sl_law_tree : Array (Option Value)}
    {v_law_masks : Addr} {oc_law_masks kV_law_masks dc_law_masks pm_law_masks cd_law_masks ct_law_masks : Value} {od_law_masks an_law_masks : Option Addr} {sl_law_masks : Array (Option Value)}
    {v_law_held : Addr} {oc_law_held kV_law_held dc_law_held pm_law_held cd_law_held ct_law_held : Value} {od_law_held an_law_held : Option Addr} {sl_law_held : Array (Option Value)}
    {v_law_bare_of : Addr} {oc_law_bare_of kV_law_bare_of dc_law_bare_of pm_law_bare_of cd_law_bare_of ct_law_bare_of : Value} {od_law_bare_of an_law_bare_of : Option Addr} {sl_law_bare_of : Array (Option Value)}
    {v_law_small : Addr} {oc_law_small kV_law_small dc_law_small pm_law_small cd_law_small ct_law_small : Value} {od_law_small an_law_small : Option Addr} {sl_law_small : Array (Option Value)}
    {v_law_is_over : Addr} {oc_law_is_over kV_law_is_over dc_law_is_over pm_law_is_over cd_law_is_over ct_law_is_over : Value} {od_law_is_over an_law_is_over : Option Addr} {sl_law_is_over : Array (Option Value)}
    {v_law_left : Addr} {oc_law_left kV_law_left dc_law_left pm_law_left cd_law_left ct_law_left : Value} {od_law_left an_law_left : Option Addr} {sl_law_left : Array (Option Value)}
    {v_law_naming_word : Addr} {oc_law_naming_word kV_law_naming_word dc_law_naming_word pm_law_naming_word cd_law_naming_word ct_law_naming_word : Value} {od_law_naming_word an_law_naming_word : Option Addr} {sl_law_naming_word : Array (Option Value)}
    {v_law_depth : Addr} {oc_law_depth kV_law_depth dc_law_depth pm_law_depth cd_law_depth ct_law_depth : Value} {od_law_depth an_law_depth : Option Addr} {sl_law_depth : Array (Option Value)}
    {v_law_any_naming : Addr} {oc_law_any_naming kV_law_any_naming dc_law_any_naming pm_law_any_naming cd_law_any_naming ct_law_any_naming : Value} {od_law_any_naming an_law_any_naming : Option Addr} {sl_law_any_naming : Array (Option Value)}
    {v_law_told_naming : Addr} {oc_law_told_naming kV_law_told_naming dc_law_told_naming pm_law_told_naming cd_law_told_naming ct_law_told_naming : Value} {od_law_told_naming an_law_told_naming : Option Addr} {sl_law_told_naming : Array (Option Value)}
    {v_law_spoiled : Addr} {oc_law_spoiled kV_law_spoiled dc_law_spoiled pm_law_spoiled cd_law_spoiled ct_law_spoiled : Value} {od_law_spoiled an_law_spoiled : Option Addr} {sl_law_spoiled : Array (Option Value)}
    {v_law_nine : Addr} {oc_law_nine kV_law_nine dc_law_nine pm_law_nine cd_law_nine ct_law_nine : Value} {od_law_nine an_law_nine : Option Addr} {sl_law_nine : Array (Option Value)}
    {v_law_eight : Addr} {oc_law_eight kV_law_eight dc_law_eight pm_law_eight cd_law_eight ct_law_eight : Value} {od_law_eight an_law_eight : Option Addr} {sl_law_eight : Array (Option Value)}
    {v_law_refused : Addr} {oc_law_refused kV_law_refused dc_law_refused pm_law_refused cd_law_refused ct_law_refused : Value} {od_law_refused an_law_refused : Option Addr} {sl_law_refused : Array (Option Value)}
    {v_law_painting : Addr} {oc_law_painting kV_law_painting dc_law_painting pm_law_painting cd_law_painting ct_law_painting : Value} {od_law_painting an_law_painting : Option Addr} {sl_law_painting : Array (Option Value)}
    {v_law_broken : Addr} {oc_law_broken kV_law_broken dc_law_broken pm_law_broken cd_law_broken ct_law_broken : Value} {od_law_broken an_law_broken : Option Addr} {sl_law_broken : Array (Option Value)}
    {v_law_painted_eight : Addr} {oc_law_painted_eight kV_law_painted_eight dc_law_painted_eight pm_law_painted_eight cd_law_painted_eight ct_law_painted_eight : Value} {od_law_painted_eight an_law_painted_eight : Option Addr} {sl_law_painted_eight : Array (Option Value)}
    {v_law_one : Addr} {oc_law_one kV_law_one dc_law_one pm_law_one cd_law_one ct_law_one : Value} {od_law_one an_law_one : Option Addr} {sl_law_one : Array (Option Value)}
    {v_law : Addr} {oc_law kV_law dc_law pm_law cd_law ct_law : Value} {od_law an_law : Option Addr} {sl_law : Array (Option Value)}
    {v_TooMany___init__ : Addr} {oc_TooMany___init__ kV_TooMany___init__ dc_TooMany___init__ pm_TooMany___init__ cd_TooMany___init__ ct_TooMany___init__ : Value} {od_TooMany___init__ an_TooMany___init__ : Option Addr} {sl_TooMany___init__ : Array (Option Value)}
    {v_BadBare___init__ : Addr} {oc_BadBare___init__ kV_BadBare___init__ dc_BadBare___init__ pm_BadBare___init__ cd_BadBare___init__ ct_BadBare___init__ : Value} {od_BadBare___init__ an_BadBare___init__ : Option Addr} {sl_BadBare___init__ : Array (Option Value)}
    {v_BadPainting___init__ : Addr} {oc_BadPainting___init__ kV_BadPainting___init__ dc_BadPainting___init__ pm_BadPainting___init__ cd_BadPainting___init__ ct_BadPainting___init__ : Value} {od_BadPainting___init__ an_BadPainting___init__ : Option Addr} {sl_BadPainting___init__ : Array (Option Value)}
    {v_Bare___init__ : Addr} {oc_Bare___init__ kV_Bare___init__ dc_Bare___init__ pm_Bare___init__ cd_Bare___init__ ct_Bare___init__ : Value} {od_Bare___init__ an_Bare___init__ : Option Addr} {sl_Bare___init__ : Array (Option Value)}
    {v_Bare___len__ : Addr} {oc_Bare___len__ kV_Bare___len__ dc_Bare___len__ pm_Bare___len__ cd_Bare___len__ ct_Bare___len__ : Value} {od_Bare___len__ an_Bare___len__ : Option Addr} {sl_Bare___len__ : Array (Option Value)}
    {v_Bare___eq__ : Addr} {oc_Bare___eq__ kV_Bare___eq__ dc_Bare___eq__ pm_Bare___eq__ cd_Bare___eq__ ct_Bare___eq__ : Value} {od_Bare___eq__ an_Bare___eq__ : Option Addr} {sl_Bare___eq__ : Array (Option Value)}
    {w_TooMany N_TooMany : Addr} {nm_TooMany q_TooMany : Str} {bs_TooMany bm_TooMany sub_TooMany : List Value} {sn_TooMany : List Str} {ab_TooMany : Bool} {col_TooMany : Option Bool} {dd_TooMany : Option Addr} {m0_TooMany m1_TooMany m2_TooMany m3_TooMany m5_TooMany : Option Value}
    {w_BadBare N_BadBare : Addr} {nm_BadBare q_BadBare : Str} {bs_BadBare bm_BadBare sub_BadBare : List Value} {sn_BadBare : List Str} {ab_BadBare : Bool} {col_BadBare : Option Bool} {dd_BadBare : Option Addr} {m0_BadBare m1_BadBare m2_BadBare m3_BadBare m5_BadBare : Option Value}
    {w_BadPainting N_BadPainting : Addr} {nm_BadPainting q_BadPainting : Str} {bs_BadPainting bm_BadPainting sub_BadPainting : List Value} {sn_BadPainting : List Str} {ab_BadPainting : Bool} {col_BadPainting : Option Bool} {dd_BadPainting : Option Addr} {m0_BadPainting m1_BadPainting m2_BadPainting m3_BadPainting m5_BadPainting : Option Value}
    {w_Bare : Addr}
    {t_MOST_PLACES : Tok}
    {t_MOST_SEARCHED : Tok}
    {u_c_UndoError : Addr}
    (hm_TooMany : PySem.W.nsIn K mainGlobals "TooMany" = some (some (.ref w_TooMany)))
    (hm_BadBare : PySem.W.nsIn K mainGlobals "BadBare" = some (some (.ref w_BadBare)))
    (hm_BadPainting : PySem.W.nsIn K mainGlobals "BadPainting" = some (some (.ref w_BadPainting)))
    (hm_Bare : PySem.W.nsIn K mainGlobals "Bare" = some (some (.ref w_Bare)))
    (xl_TooMany : K.lookup w_TooMany = some (excClassObj nm_TooMany q_TooMany w_TooMany N_TooMany bs_TooMany bm_TooMany true sn_TooMany sub_TooMany ab_TooMany col_TooMany dd_TooMany m0_TooMany m1_TooMany m2_TooMany m3_TooMany m5_TooMany "ValueError.__new__"))
    (xv_TooMany : PySem.HandSPX.refsVE bm_TooMany = true)
    (xs_TooMany : PySem.W.findIn K (.ref w_TooMany) "__setattr__" = some (some (.builtin "object.__setattr__")))
    (xg_TooMany : PySem.W.findIn K (.ref w_TooMany) "__getattribute__" = some (some (.builtin "BaseException.__getattribute__")))
    (xh_TooMany : PySem.W.findIn K (.ref w_TooMany) "__getattr__" = some none)
    (xk_TooMany : PySem.W.keepIn K (.ref w_TooMany) = true)
    (xb_TooMany : PySem.W.subIn K (.ref w_TooMany) (.type "BaseException") = some true)
    (xy_TooMany : PySem.W.typeIn K (.ref w_TooMany) = some (.type "type"))
    (xd_TooMany : PySem.W.hasDictIn K w_TooMany = true)
    (xc_TooMany : PySem.W.isClsIn K w_TooMany = true)
    (xz_TooMany : PySem.W.subIn K (.ref w_TooMany) (.ref w_TooMany) = some true)
    (xl_BadBare : K.lookup w_BadBare = some (excClassObj nm_BadBare q_BadBare w_BadBare N_BadBare bs_BadBare bm_BadBare true sn_BadBare sub_BadBare ab_BadBare col_BadBare dd_BadBare m0_BadBare m1_BadBare m2_BadBare m3_BadBare m5_BadBare "ValueError.__new__"))
    (xv_BadBare : PySem.HandSPX.refsVE bm_BadBare = true)
    (xs_BadBare : PySem.W.findIn K (.ref w_BadBare) "__setattr__" = some (some (.builtin "object.__setattr__")))
    (xg_BadBare : PySem.W.findIn K (.ref w_BadBare) "__getattribute__" = some (some (.builtin "BaseException.__getattribute__")))
    (xh_BadBare : PySem.W.findIn K (.ref w_BadBare) "__getattr__" = some none)
    (xk_BadBare : PySem.W.keepIn K (.ref w_BadBare) = true)
    (xb_BadBare : PySem.W.subIn K (.ref w_BadBare) (.type "BaseException") = some true)
    (xy_BadBare : PySem.W.typeIn K (.ref w_BadBare) = some (.type "type"))
    (xd_BadBare : PySem.W.hasDictIn K w_BadBare = true)
    (xc_BadBare : PySem.W.isClsIn K w_BadBare = true)
    (xz_BadBare : PySem.W.subIn K (.ref w_BadBare) (.ref w_BadBare) = some true)
    (xl_BadPainting : K.lookup w_BadPainting = some (excClassObj nm_BadPainting q_BadPainting w_BadPainting N_BadPainting bs_BadPainting bm_BadPainting true sn_BadPainting sub_BadPainting ab_BadPainting col_BadPainting dd_BadPainting m0_BadPainting m1_BadPainting m2_BadPainting m3_BadPainting m5_BadPainting "ValueError.__new__"))
    (xv_BadPainting : PySem.HandSPX.refsVE bm_BadPainting = true)
    (xs_BadPainting : PySem.W.findIn K (.ref w_BadPainting) "__setattr__" = some (some (.builtin "object.__setattr__")))
    (xg_BadPainting : PySem.W.findIn K (.ref w_BadPainting) "__getattribute__" = some (some (.builtin "BaseException.__getattribute__")))
    (xh_BadPainting : PySem.W.findIn K (.ref w_BadPainting) "__getattr__" = some none)
    (xk_BadPainting : PySem.W.keepIn K (.ref w_BadPainting) = true)
    (xb_BadPainting : PySem.W.subIn K (.ref w_BadPainting) (.type "BaseException") = some true)
    (xy_BadPainting : PySem.W.typeIn K (.ref w_BadPainting) = some (.type "type"))
    (xd_BadPainting : PySem.W.hasDictIn K w_BadPainting = true)
    (xc_BadPainting : PySem.W.isClsIn K w_BadPainting = true)
    (xz_BadPainting : PySem.W.subIn K (.ref w_BadPainting) (.ref w_BadPainting) = some true)
    (ya_Bare : PySem.W.findIn K (.ref w_Bare) "__init__" = some (some (.ref v_Bare___init__)))
    (hat_Bare___len__ : PySem.W.findIn K (.ref w_Bare) "__len__" = some (some (.ref v_Bare___len__)))
    (hat_Bare___eq__ : PySem.W.findIn K (.ref w_Bare) "__eq__" = some (some (.ref v_Bare___eq__)))
    (hxi_TooMany : PySem.W.findIn K (.ref w_TooMany) "__init__" = some (some (.ref v_TooMany___init__)))
    (hxt_TooMany : PySem.W.typeIn K (.ref v_TooMany___init__) = some (.type "function"))
    (hxn_TooMany_most : PySem.W.findIn K (.ref w_TooMany) "most" = some none)
    (hxi_BadBare : PySem.W.findIn K (.ref w_BadBare) "__init__" = some (some (.ref v_BadBare___init__)))
    (hxt_BadBare : PySem.W.typeIn K (.ref v_BadBare___init__) = some (.type "function"))
    (hxn_BadBare_place : PySem.W.findIn K (.ref w_BadBare) "place" = some none)
    (hxn_BadBare_what : PySem.W.findIn K (.ref w_BadBare) "what" = some none)
    (hxi_BadPainting : PySem.W.findIn K (.ref w_BadPainting) "__init__" = some (some (.ref v_BadPainting___init__)))
    (hxt_BadPainting : PySem.W.typeIn K (.ref v_BadPainting___init__) = some (.type "function"))
    (hxn_BadPainting_what : PySem.W.findIn K (.ref w_BadPainting) "what" = some none)
    (no_TooMany_BadPainting : PySem.W.subIn K (.ref w_TooMany) (.ref w_BadPainting) = some false)
    (hm_is_whole : PySem.W.nsIn K mainGlobals "is_whole" = some (some (.ref v_is_whole)))
    (hl_is_whole : K.lookup v_is_whole = some ⟨oc_is_whole, od_is_whole, .func (PySem.W.fnOf "is_whole" "is_whole" (defArgs s_is_whole) (defBody s_is_whole) (defScope s_is_whole) .none kV_is_whole dc_is_whole pm_is_whole an_is_whole cd_is_whole ct_is_whole), sl_is_whole⟩)
    (hc_is_whole : PySem.W.codeIn K cd_is_whole "is_whole" = true)
    (hk_is_whole : PySem.W.keepIn K (.ref v_is_whole) = true)
    (hm_is_within : PySem.W.nsIn K mainGlobals "is_within" = some (some (.ref v_is_within)))
    (hl_is_within : K.lookup v_is_within = some ⟨oc_is_within, od_is_within, .func (PySem.W.fnOf "is_within" "is_within" (defArgs s_is_within) (defBody s_is_within) (defScope s_is_within) .none kV_is_within dc_is_within pm_is_within an_is_within cd_is_within ct_is_within), sl_is_within⟩)
    (hc_is_within : PySem.W.codeIn K cd_is_within "is_within" = true)
    (hk_is_within : PySem.W.keepIn K (.ref v_is_within) = true)
    (hm_is_sequence : PySem.W.nsIn K mainGlobals "is_sequence" = some (some (.ref v_is_sequence)))
    (hl_is_sequence : K.lookup v_is_sequence = some ⟨oc_is_sequence, od_is_sequence, .func (PySem.W.fnOf "is_sequence" "is_sequence" (defArgs s_is_sequence) (defBody s_is_sequence) (defScope s_is_sequence) .none kV_is_sequence dc_is_sequence pm_is_sequence an_is_sequence cd_is_sequence ct_is_sequence), sl_is_sequence⟩)
    (hc_is_sequence : PySem.W.codeIn K cd_is_sequence "is_sequence" = true)
    (hk_is_sequence : PySem.W.keepIn K (.ref v_is_sequence) = true)
    (hm_mask_of : PySem.W.nsIn K mainGlobals "mask_of" = some (some (.ref v_mask_of)))
    (hl_mask_of : K.lookup v_mask_of = some ⟨oc_mask_of, od_mask_of, .func (PySem.W.fnOf "mask_of" "mask_of" (defArgs s_mask_of) (defBody s_mask_of) (defScope s_mask_of) .none kV_mask_of dc_mask_of pm_mask_of an_mask_of cd_mask_of ct_mask_of), sl_mask_of⟩)
    (hc_mask_of : PySem.W.codeIn K cd_mask_of "mask_of" = true)
    (hk_mask_of : PySem.W.keepIn K (.ref v_mask_of) = true)
    (hm_is_place : PySem.W.nsIn K mainGlobals "is_place" = some (some (.ref v_is_place)))
    (hl_is_place : K.lookup v_is_place = some ⟨oc_is_place, od_is_place, .func (PySem.W.fnOf "is_place" "is_place" (defArgs s_is_place) (defBody s_is_place) (defScope s_is_place) .none kV_is_place dc_is_place pm_is_place an_is_place cd_is_place ct_is_place), sl_is_place⟩)
    (hc_is_place : PySem.W.codeIn K cd_is_place "is_place" = true)
    (hk_is_place : PySem.W.keepIn K (.ref v_is_place) = true)
    (hm_is_before_list : PySem.W.nsIn K mainGlobals "is_before_list" = some (some (.ref v_is_before_list)))
    (hl_is_before_list : K.lookup v_is_before_list = some ⟨oc_is_before_list, od_is_before_list, .func (PySem.W.fnOf "is_before_list" "is_before_list" (defArgs s_is_before_list) (defBody s_is_before_list) (defScope s_is_before_list) .none kV_is_before_list dc_is_before_list pm_is_before_list an_is_before_list cd_is_before_list ct_is_before_list), sl_is_before_list⟩)
    (hc_is_before_list : PySem.W.codeIn K cd_is_before_list "is_before_list" = true)
    (hk_is_before_list : PySem.W.keepIn K (.ref v_is_before_list) = true)
    (hm_checked_befores : PySem.W.nsIn K mainGlobals "checked_befores" = some (some (.ref v_checked_befores)))
    (hl_checked_befores : K.lookup v_checked_befores = some ⟨oc_checked_befores, od_checked_befores, .func (PySem.W.fnOf "checked_befores" "checked_befores" (defArgs s_checked_befores) (defBody s_checked_befores) (defScope s_checked_befores) .none kV_checked_befores dc_checked_befores pm_checked_befores an_checked_befores cd_checked_befores ct_checked_befores), sl_checked_befores⟩)
    (hc_checked_befores : PySem.W.codeIn K cd_checked_befores "checked_befores" = true)
    (hk_checked_befores : PySem.W.keepIn K (.ref v_checked_befores) = true)
    (hm_afters_of : PySem.W.nsIn K mainGlobals "afters_of" = some (some (.ref v_afters_of)))
    (hl_afters_of : K.lookup v_afters_of = some ⟨oc_afters_of, od_afters_of, .func (PySem.W.fnOf "afters_of" "afters_of" (defArgs s_afters_of) (defBody s_afters_of) (defScope s_afters_of) .none kV_afters_of dc_afters_of pm_afters_of an_afters_of cd_afters_of ct_afters_of), sl_afters_of⟩)
    (hc_afters_of : PySem.W.codeIn K cd_afters_of "afters_of" = true)
    (hk_afters_of : PySem.W.keepIn K (.ref v_afters_of) = true)
    (hm_ordered_of : PySem.W.nsIn K mainGlobals "ordered_of" = some (some (.ref v_ordered_of)))
    (hl_ordered_of : K.lookup v_ordered_of = some ⟨oc_ordered_of, od_ordered_of, .func (PySem.W.fnOf "ordered_of" "ordered_of" (defArgs s_ordered_of) (defBody s_ordered_of) (defScope s_ordered_of) .none kV_ordered_of dc_ordered_of pm_ordered_of an_ordered_of cd_ordered_of ct_ordered_of), sl_ordered_of⟩)
    (hc_ordered_of : PySem.W.codeIn K cd_ordered_of "ordered_of" = true)
    (hk_ordered_of : PySem.W.keepIn K (.ref v_ordered_of) = true)
    (hm_reached_along : PySem.W.nsIn K mainGlobals "reached_along" = some (some (.ref v_reached_along)))
    (hl_reached_along : K.lookup v_reached_along = some ⟨oc_reached_along, od_reached_along, .func (PySem.W.fnOf "reached_along" "reached_along" (defArgs s_reached_along) (defBody s_reached_along) (defScope s_reached_along) (.ref T_reached_along) kV_reached_along dc_reached_along pm_reached_along an_reached_along cd_reached_along ct_reached_along), sl_reached_along⟩)
    (hc_reached_along : PySem.W.codeIn K cd_reached_along "reached_along" = true)
    (hk_reached_along : PySem.W.keepIn K (.ref v_reached_along) = true)
    (hm_check_rings : PySem.W.nsIn K mainGlobals "check_rings" = some (some (.ref v_check_rings)))
    (hl_check_rings : K.lookup v_check_rings = some ⟨oc_check_rings, od_check_rings, .func (PySem.W.fnOf "check_rings" "check_rings" (defArgs s_check_rings) (defBody s_check_rings) (defScope s_check_rings) .none kV_check_rings dc_check_rings pm_check_rings an_check_rings cd_check_rings ct_check_rings), sl_check_rings⟩)
    (hc_check_rings : PySem.W.codeIn K cd_check_rings "check_rings" = true)
    (hk_check_rings : PySem.W.keepIn K (.ref v_check_rings) = true)
    (hm_check_roads : PySem.W.nsIn K mainGlobals "check_roads" = some (some (.ref v_check_roads)))
    (hl_check_roads : K.lookup v_check_roads = some ⟨oc_check_roads, od_check_roads, .func (PySem.W.fnOf "check_roads" "check_roads" (defArgs s_check_roads) (defBody s_check_roads) (defScope s_check_roads) .none kV_check_roads dc_check_roads pm_check_roads an_check_roads cd_check_roads ct_check_roads), sl_check_roads⟩)
    (hc_check_roads : PySem.W.codeIn K cd_check_roads "check_roads" = true)
    (hk_check_roads : PySem.W.keepIn K (.ref v_check_roads) = true)
    (hm_check_small : PySem.W.nsIn K mainGlobals "check_small" = some (some (.ref v_check_small)))
    (hl_check_small : K.lookup v_check_small = some ⟨oc_check_small, od_check_small, .func (PySem.W.fnOf "check_small" "check_small" (defArgs s_check_small) (defBody s_check_small) (defScope s_check_small) .none kV_check_small dc_check_small pm_check_small an_check_small cd_check_small ct_check_small), sl_check_small⟩)
    (hc_check_small : PySem.W.codeIn K cd_check_small "check_small" = true)
    (hk_check_small : PySem.W.keepIn K (.ref v_check_small) = true)
    (hm_is_unlike : PySem.W.nsIn K mainGlobals "is_unlike" = some (some (.ref v_is_unlike)))
    (hl_is_unlike : K.lookup v_is_unlike = some ⟨oc_is_unlike, od_is_unlike, .func (PySem.W.fnOf "is_unlike" "is_unlike" (defArgs s_is_unlike) (defBody s_is_unlike) (defScope s_is_unlike) .none kV_is_unlike dc_is_unlike pm_is_unlike an_is_unlike cd_is_unlike ct_is_unlike), sl_is_unlike⟩)
    (hc_is_unlike : PySem.W.codeIn K cd_is_unlike "is_unlike" = true)
    (hk_is_unlike : PySem.W.keepIn K (.ref v_is_unlike) = true)
    (hm_check_painting : PySem.W.nsIn K mainGlobals "check_painting" = some (some (.ref v_check_painting)))
    (hl_check_painting : K.lookup v_check_painting = some ⟨oc_check_painting, od_check_painting, .func (PySem.W.fnOf "check_painting" "check_painting" (defArgs s_check_painting) (defBody s_check_painting) (defScope s_check_painting) .none kV_check_painting dc_check_painting pm_check_painting an_check_painting cd_check_painting ct_check_painting), sl_check_painting⟩)
    (hc_check_painting : PySem.W.codeIn K cd_check_painting "check_painting" = true)
    (hk_check_painting : PySem.W.keepIn K (.ref v_check_painting) = true)
    (hm_checked_hues : PySem.W.nsIn K mainGlobals "checked_hues" = some (some (.ref v_checked_hues)))
    (hl_checked_hues : K.lookup v_checked_hues = some ⟨oc_checked_hues, od_checked_hues, .func (PySem.W.fnOf "checked_hues" "checked_hues" (defArgs s_checked_hues) (defBody s_checked_hues) (defScope s_checked_hues) .none kV_checked_hues dc_checked_hues pm_checked_hues an_checked_hues cd_checked_hues ct_checked_hues), sl_checked_hues⟩)
    (hc_checked_hues : PySem.W.codeIn K cd_checked_hues "checked_hues" = true)
    (hk_checked_hues : PySem.W.keepIn K (.ref v_checked_hues) = true)
    (hm_first_hues : PySem.W.nsIn K mainGlobals "first_hues" = some (some (.ref v_first_hues)))
    (hl_first_hues : K.lookup v_first_hues = some ⟨oc_first_hues, od_first_hues, .func (PySem.W.fnOf "first_hues" "first_hues" (defArgs s_first_hues) (defBody s_first_hues) (defScope s_first_hues) .none kV_first_hues dc_first_hues pm_first_hues an_first_hues cd_first_hues ct_first_hues), sl_first_hues⟩)
    (hc_first_hues : PySem.W.codeIn K cd_first_hues "first_hues" = true)
    (hk_first_hues : PySem.W.keepIn K (.ref v_first_hues) = true)
    (hm_is_painted_over : PySem.W.nsIn K mainGlobals "is_painted_over" = some (some (.ref v_is_painted_over)))
    (hl_is_painted_over : K.lookup v_is_painted_over = some ⟨oc_is_painted_over, od_is_painted_over, .func (PySem.W.fnOf "is_painted_over" "is_painted_over" (defArgs s_is_painted_over) (defBody s_is_painted_over) (defScope s_is_painted_over) .none kV_is_painted_over dc_is_painted_over pm_is_painted_over an_is_painted_over cd_is_painted_over ct_is_painted_over), sl_is_painted_over⟩)
    (hc_is_painted_over : PySem.W.codeIn K cd_is_painted_over "is_painted_over" = true)
    (hk_is_painted_over : PySem.W.keepIn K (.ref v_is_painted_over) = true)
    (hm_unpainted : PySem.W.nsIn K mainGlobals "unpainted" = some (some (.ref v_unpainted)))
    (hl_unpainted : K.lookup v_unpainted = some ⟨oc_unpainted, od_unpainted, .func (PySem.W.fnOf "unpainted" "unpainted" (defArgs s_unpainted) (defBody s_unpainted) (defScope s_unpainted) .none kV_unpainted dc_unpainted pm_unpainted an_unpainted cd_unpainted ct_unpainted), sl_unpainted⟩)
    (hc_unpainted : PySem.W.codeIn K cd_unpainted "unpainted" = true)
    (hk_unpainted : PySem.W.keepIn K (.ref v_unpainted) = true)
    (hm_painted : PySem.W.nsIn K mainGlobals "painted" = some (some (.ref v_painted)))
    (hl_painted : K.lookup v_painted = some ⟨oc_painted, od_painted, .func (PySem.W.fnOf "painted" "painted" (defArgs s_painted) (defBody s_painted) (defScope s_painted) .none kV_painted dc_painted pm_painted an_painted cd_painted ct_painted), sl_painted⟩)
    (hc_painted : PySem.W.codeIn K cd_painted "painted" = true)
    (hk_painted : PySem.W.keepIn K (.ref v_painted) = true)
    (hm_names_behind : PySem.W.nsIn K mainGlobals "names_behind" = some (some (.ref v_names_behind)))
    (hl_names_behind : K.lookup v_names_behind = some ⟨oc_names_behind, od_names_behind, .func (PySem.W.fnOf "names_behind" "names_behind" (defArgs s_names_behind) (defBody s_names_behind) (defScope s_names_behind) .none kV_names_behind dc_names_behind pm_names_behind an_names_behind cd_names_behind ct_names_behind), sl_names_behind⟩)
    (hc_names_behind : PySem.W.codeIn K cd_names_behind "names_behind" = true)
    (hk_names_behind : PySem.W.keepIn K (.ref v_names_behind) = true)
    (hm_worse_hue : PySem.W.nsIn K mainGlobals "worse_hue" = some (some (.ref v_worse_hue)))
    (hl_worse_hue : K.lookup v_worse_hue = some ⟨oc_worse_hue, od_worse_hue, .func (PySem.W.fnOf "worse_hue" "worse_hue" (defArgs s_worse_hue) (defBody s_worse_hue) (defScope s_worse_hue) .none kV_worse_hue dc_worse_hue pm_worse_hue an_worse_hue cd_worse_hue ct_worse_hue), sl_worse_hue⟩)
    (hc_worse_hue : PySem.W.codeIn K cd_worse_hue "worse_hue" = true)
    (hk_worse_hue : PySem.W.keepIn K (.ref v_worse_hue) = true)
    (hm_names_left : PySem.W.nsIn K mainGlobals "names_left" = some (some (.ref v_names_left)))
    (hl_names_left : K.lookup v_names_left = some ⟨oc_names_left, od_names_left, .func (PySem.W.fnOf "names_left" "names_left" (defArgs s_names_left) (defBody s_names_left) (defScope s_names_left) .none kV_names_left dc_names_left pm_names_left an_names_left cd_names_left ct_names_left), sl_names_left⟩)
    (hc_names_left : PySem.W.codeIn K cd_names_left "names_left" = true)
    (hk_names_left : PySem.W.keepIn K (.ref v_names_left) = true)
    (hm_names_of : PySem.W.nsIn K mainGlobals "names_of" = some (some (.ref v_names_of)))
    (hl_names_of : K.lookup v_names_of = some ⟨oc_names_of, od_names_of, .func (PySem.W.fnOf "names_of" "names_of" (defArgs s_names_of) (defBody s_names_of) (defScope s_names_of) .none kV_names_of dc_names_of pm_names_of an_names_of cd_names_of ct_names_of), sl_names_of⟩)
    (hc_names_of : PySem.W.codeIn K cd_names_of "names_of" = true)
    (hk_names_of : PySem.W.keepIn K (.ref v_names_of) = true)
    (hm_told_hues : PySem.W.nsIn K mainGlobals "told_hues" = some (some (.ref v_told_hues)))
    (hl_told_hues : K.lookup v_told_hues = some ⟨oc_told_hues, od_told_hues, .func (PySem.W.fnOf "told_hues" "told_hues" (defArgs s_told_hues) (defBody s_told_hues) (defScope s_told_hues) .none kV_told_hues dc_told_hues pm_told_hues an_told_hues cd_told_hues ct_told_hues), sl_told_hues⟩)
    (hc_told_hues : PySem.W.codeIn K cd_told_hues "told_hues" = true)
    (hk_told_hues : PySem.W.keepIn K (.ref v_told_hues) = true)
    (hm_plan_names : PySem.W.nsIn K mainGlobals "plan_names" = some (some (.ref v_plan_names)))
    (hl_plan_names : K.lookup v_plan_names = some ⟨oc_plan_names, od_plan_names, .func (PySem.W.fnOf "plan_names" "plan_names" (defArgs s_plan_names) (defBody s_plan_names) (defScope s_plan_names) .none kV_plan_names dc_plan_names pm_plan_names an_plan_names cd_plan_names ct_plan_names), sl_plan_names⟩)
    (hc_plan_names : PySem.W.codeIn K cd_plan_names "plan_names" = true)
    (hk_plan_names : PySem.W.keepIn K (.ref v_plan_names) = true)
    (hm_naming_fault : PySem.W.nsIn K mainGlobals "naming_fault" = some (some (.ref v_naming_fault)))
    (hl_naming_fault : K.lookup v_naming_fault = some ⟨oc_naming_fault, od_naming_fault, .func (PySem.W.fnOf "naming_fault" "naming_fault" (defArgs s_naming_fault) (defBody s_naming_fault) (defScope s_naming_fault) (.ref T_naming_fault) kV_naming_fault dc_naming_fault pm_naming_fault an_naming_fault cd_naming_fault ct_naming_fault), sl_naming_fault⟩)
    (hc_naming_fault : PySem.W.codeIn K cd_naming_fault "naming_fault" = true)
    (hk_naming_fault : PySem.W.keepIn K (.ref v_naming_fault) = true)
    (hm_naming_fault_in : PySem.W.nsIn K mainGlobals "naming_fault_in" = some (some (.ref v_naming_fault_in)))
    (hl_naming_fault_in : K.lookup v_naming_fault_in = some ⟨oc_naming_fault_in, od_naming_fault_in, .func (PySem.W.fnOf "naming_fault_in" "naming_fault_in" (defArgs s_naming_fault_in) (defBody s_naming_fault_in) (defScope s_naming_fault_in) .none kV_naming_fault_in dc_naming_fault_in pm_naming_fault_in an_naming_fault_in cd_naming_fault_in ct_naming_fault_in), sl_naming_fault_in⟩)
    (hc_naming_fault_in : PySem.W.codeIn K cd_naming_fault_in "naming_fault_in" = true)
    (hk_naming_fault_in : PySem.W.keepIn K (.ref v_naming_fault_in) = true)
    (hm_naming_plan : PySem.W.nsIn K mainGlobals "naming_plan" = some (some (.ref v_naming_plan)))
    (hl_naming_plan : K.lookup v_naming_plan = some ⟨oc_naming_plan, od_naming_plan, .func (PySem.W.fnOf "naming_plan" "naming_plan" (defArgs s_naming_plan) (defBody s_naming_plan) (defScope s_naming_plan) (.ref T_naming_plan) kV_naming_plan dc_naming_plan pm_naming_plan an_naming_plan cd_naming_plan ct_naming_plan), sl_naming_plan⟩)
    (hc_naming_plan : PySem.W.codeIn K cd_naming_plan "naming_plan" = true)
    (hk_naming_plan : PySem.W.keepIn K (.ref v_naming_plan) = true)
    (hm_naming_in : PySem.W.nsIn K mainGlobals "naming_in" = some (some (.ref v_naming_in)))
    (hl_naming_in : K.lookup v_naming_in = some ⟨oc_naming_in, od_naming_in, .func (PySem.W.fnOf "naming_in" "naming_in" (defArgs s_naming_in) (defBody s_naming_in) (defScope s_naming_in) .none kV_naming_in dc_naming_in pm_naming_in an_naming_in cd_naming_in ct_naming_in), sl_naming_in⟩)
    (hc_naming_in : PySem.W.codeIn K cd_naming_in "naming_in" = true)
    (hk_naming_in : PySem.W.keepIn K (.ref v_naming_in) = true)
    (hm_law_hand : PySem.W.nsIn K mainGlobals "_law_hand" = some (some (.ref v_law_hand)))
    (hl_law_hand : K.lookup v_law_hand = some ⟨oc_law_hand, od_law_hand, .func (PySem.W.fnOf "_law_hand" "_law_hand" (defArgs s_law_hand) (defBody s_law_hand) (defScope s_law_hand) .none kV_law_hand dc_law_hand pm_law_hand an_law_hand cd_law_hand ct_law_hand), sl_law_hand⟩)
    (hc_law_hand : PySem.W.codeIn K cd_law_hand "_law_hand" = true)
    (hk_law_hand : PySem.W.keepIn K (.ref v_law_hand) = true)
    (hm_law_mixed : PySem.W.nsIn K mainGlobals "_law_mixed" = some (some (.ref v_law_mixed)))
    (hl_law_mixed : K.lookup v_law_mixed = some ⟨oc_law_mixed, od_law_mixed, .func (PySem.W.fnOf "_law_mixed" "_law_mixed" (defArgs s_law_mixed) (defBody s_law_mixed) (defScope s_law_mixed) .none kV_law_mixed dc_law_mixed pm_law_mixed an_law_mixed cd_law_mixed ct_law_mixed), sl_law_mixed⟩)
    (hc_law_mixed : PySem.W.codeIn K cd_law_mixed "_law_mixed" = true)
    (hk_law_mixed : PySem.W.keepIn K (.ref v_law_mixed) = true)
    (hm_law_take : PySem.W.nsIn K mainGlobals "_law_take" = some (some (.ref v_law_take)))
    (hl_law_take : K.lookup v_law_take = some ⟨oc_law_take, od_law_take, .func (PySem.W.fnOf "_law_take" "_law_take" (defArgs s_law_take) (defBody s_law_take) (defScope s_law_take) .none kV_law_take dc_law_take pm_law_take an_law_take cd_law_take ct_law_take), sl_law_take⟩)
    (hc_law_take : PySem.W.codeIn K cd_law_take "_law_take" = true)
    (hk_law_take : PySem.W.keepIn K (.ref v_law_take) = true)
    (hm_law_whole : PySem.W.nsIn K mainGlobals "_law_whole" = some (some (.ref v_law_whole)))
    (hl_law_whole : K.lookup v_law_whole = some ⟨oc_law_whole, od_law_whole, .func (PySem.W.fnOf "_law_whole" "_law_whole" (defArgs s_law_whole) (defBody s_law_whole) (defScope s_law_whole) .none kV_law_whole dc_law_whole pm_law_whole an_law_whole cd_law_whole ct_law_whole), sl_law_whole⟩)
    (hc_law_whole : PySem.W.codeIn K cd_law_whole "_law_whole" = true)
    (hk_law_whole : PySem.W.keepIn K (.ref v_law_whole) = true)
    (hm_law_two : PySem.W.nsIn K mainGlobals "_law_two" = some (some (.ref v_law_two)))
    (hl_law_two : K.lookup v_law_two = some ⟨oc_law_two, od_law_two, .func (PySem.W.fnOf "_law_two" "_law_two" (defArgs s_law_two) (defBody s_law_two) (defScope s_law_two) .none kV_law_two dc_law_two pm_law_two an_law_two cd_law_two ct_law_two), sl_law_two⟩)
    (hc_law_two : PySem.W.codeIn K cd_law_two "_law_two" = true)
    (hk_law_two : PySem.W.keepIn K (.ref v_law_two) = true)
    (hm_law_led : PySem.W.nsIn K mainGlobals "_law_led" = some (some (.ref v_law_led)))
    (hl_law_led : K.lookup v_law_led = some ⟨oc_law_led, od_law_led, .func (PySem.W.fnOf "_law_led" "_law_led" (defArgs s_law_led) (defBody s_law_led) (defScope s_law_led) .none kV_law_led dc_law_led pm_law_led an_law_led cd_law_led ct_law_led), sl_law_led⟩)
    (hc_law_led : PySem.W.codeIn K cd_law_led "_law_led" = true)
    (hk_law_led : PySem.W.keepIn K (.ref v_law_led) = true)
    (hm_law_order : PySem.W.nsIn K mainGlobals "_law_order" = some (some (.ref v_law_order)))
    (hl_law_order : K.lookup v_law_order = some ⟨oc_law_order, od_law_order, .func (PySem.W.fnOf "_law_order" "_law_order" (defArgs s_law_order) (defBody s_law_order) (defScope s_law_order) .none kV_law_order dc_law_order pm_law_order an_law_order cd_law_order ct_law_order), sl_law_order⟩)
    (hc_law_order : PySem.W.codeIn K cd_law_order "_law_order" = true)
    (hk_law_order : PySem.W.keepIn K (.ref v_law_order) = true)
    (hm_law_bare : PySem.W.nsIn K mainGlobals "_law_bare" = some (some (.ref v_law_bare)))
    (hl_law_bare : K.lookup v_law_bare = some ⟨oc_law_bare, od_law_bare, .func (PySem.W.fnOf "_law_bare" "_law_bare" (defArgs s_law_bare) (defBody s_law_bare) (defScope s_law_bare) .none kV_law_bare dc_law_bare pm_law_bare an_law_bare cd_law_bare ct_law_bare), sl_law_bare⟩)
    (hc_law_bare : PySem.W.codeIn K cd_law_bare "_law_bare" = true)
    (hk_law_bare : PySem.W.keepIn K (.ref v_law_bare) = true)
    (hm_law_tree : PySem.W.nsIn K mainGlobals "_law_tree" = some (some (.ref v_law_tree)))
    (hl_law_tree : K.lookup v_law_tree = some ⟨oc_law_tree, od_law_tree, .func (PySem.W.fnOf "_law_tree" "_law_tree" (defArgs s_law_tree) (defBody s_law_tree) (defScope s_law_tree) .none kV_law_tree dc_law_tree pm_law_tree an_law_tree cd_law_tree ct_law_tree), sl_law_tree⟩)
    (hc_law_tree : PySem.W.codeIn K cd_law_tree "_law_tree" = true)
    (hk_law_tree : PySem.W.keepIn K (.ref v_law_tree) = true)
    (hm_law_masks : PySem.W.nsIn K mainGlobals "_law_masks" = some (some (.ref v_law_masks)))
    (hl_law_masks : K.lookup v_law_masks = some ⟨oc_law_masks, od_law_masks, .func (PySem.W.fnOf "_law_masks" "_law_masks" (defArgs s_law_masks) (defBody s_law_masks) (defScope s_law_masks) .none kV_law_masks dc_law_masks pm_law_masks an_law_masks cd_law_masks ct_law_masks), sl_law_masks⟩)
    (hc_law_masks : PySem.W.codeIn K cd_law_masks "_law_masks" = true)
    (hk_law_masks : PySem.W.keepIn K (.ref v_law_masks) = true)
    (hm_law_held : PySem.W.nsIn K mainGlobals "_law_held" = some (some (.ref v_law_held)))
    (hl_law_held : K.lookup v_law_held = some ⟨oc_law_held, od_law_held, .func (PySem.W.fnOf "_law_held" "_law_held" (defArgs s_law_held) (defBody s_law_held) (defScope s_law_held) .none kV_law_held dc_law_held pm_law_held an_law_held cd_law_held ct_law_held), sl_law_held⟩)
    (hc_law_held : PySem.W.codeIn K cd_law_held "_law_held" = true)
    (hk_law_held : PySem.W.keepIn K (.ref v_law_held) = true)
    (hm_law_bare_of : PySem.W.nsIn K mainGlobals "_law_bare_of" = some (some (.ref v_law_bare_of)))
    (hl_law_bare_of : K.lookup v_law_bare_of = some ⟨oc_law_bare_of, od_law_bare_of, .func (PySem.W.fnOf "_law_bare_of" "_law_bare_of" (defArgs s_law_bare_of) (defBody s_law_bare_of) (defScope s_law_bare_of) .none kV_law_bare_of dc_law_bare_of pm_law_bare_of an_law_bare_of cd_law_bare_of ct_law_bare_of), sl_law_bare_of⟩)
    (hc_law_bare_of : PySem.W.codeIn K cd_law_bare_of "_law_bare_of" = true)
    (hk_law_bare_of : PySem.W.keepIn K (.ref v_law_bare_of) = true)
    (hm_law_small : PySem.W.nsIn K mainGlobals "_law_small" = some (some (.ref v_law_small)))
    (hl_law_small : K.lookup v_law_small = some ⟨oc_law_small, od_law_small, .func (PySem.W.fnOf "_law_small" "_law_small" (defArgs s_law_small) (defBody s_law_small) (defScope s_law_small) .none kV_law_small dc_law_small pm_law_small an_law_small cd_law_small ct_law_small), sl_law_small⟩)
    (hc_law_small : PySem.W.codeIn K cd_law_small "_law_small" = true)
    (hk_law_small : PySem.W.keepIn K (.ref v_law_small) = true)
    (hm_law_is_over : PySem.W.nsIn K mainGlobals "_law_is_over" = some (some (.ref v_law_is_over)))
    (hl_law_is_over : K.lookup v_law_is_over = some ⟨oc_law_is_over, od_law_is_over, .func (PySem.W.fnOf "_law_is_over" "_law_is_over" (defArgs s_law_is_over) (defBody s_law_is_over) (defScope s_law_is_over) .none kV_law_is_over dc_law_is_over pm_law_is_over an_law_is_over cd_law_is_over ct_law_is_over), sl_law_is_over⟩)
    (hc_law_is_over : PySem.W.codeIn K cd_law_is_over "_law_is_over" = true)
    (hk_law_is_over : PySem.W.keepIn K (.ref v_law_is_over) = true)
    (hm_law_left : PySem.W.nsIn K mainGlobals "_law_left" = some (some (.ref v_law_left)))
    (hl_law_left : K.lookup v_law_left = some ⟨oc_law_left, od_law_left, .func (PySem.W.fnOf "_law_left" "_law_left" (defArgs s_law_left) (defBody s_law_left) (defScope s_law_left) .none kV_law_left dc_law_left pm_law_left an_law_left cd_law_left ct_law_left), sl_law_left⟩)
    (hc_law_left : PySem.W.codeIn K cd_law_left "_law_left" = true)
    (hk_law_left : PySem.W.keepIn K (.ref v_law_left) = true)
    (hm_law_naming_word : PySem.W.nsIn K mainGlobals "_law_naming_word" = some (some (.ref v_law_naming_word)))
    (hl_law_naming_word : K.lookup v_law_naming_word = some ⟨oc_law_naming_word, od_law_naming_word, .func (PySem.W.fnOf "_law_naming_word" "_law_naming_word" (defArgs s_law_naming_word) (defBody s_law_naming_word) (defScope s_law_naming_word) .none kV_law_naming_word dc_law_naming_word pm_law_naming_word an_law_naming_word cd_law_naming_word ct_law_naming_word), sl_law_naming_word⟩)
    (hc_law_naming_word : PySem.W.codeIn K cd_law_naming_word "_law_naming_word" = true)
    (hk_law_naming_word : PySem.W.keepIn K (.ref v_law_naming_word) = true)
    (hm_law_depth : PySem.W.nsIn K mainGlobals "_law_depth" = some (some (.ref v_law_depth)))
    (hl_law_depth : K.lookup v_law_depth = some ⟨oc_law_depth, od_law_depth, .func (PySem.W.fnOf "_law_depth" "_law_depth" (defArgs s_law_depth) (defBody s_law_depth) (defScope s_law_depth) .none kV_law_depth dc_law_depth pm_law_depth an_law_depth cd_law_depth ct_law_depth), sl_law_depth⟩)
    (hc_law_depth : PySem.W.codeIn K cd_law_depth "_law_depth" = true)
    (hk_law_depth : PySem.W.keepIn K (.ref v_law_depth) = true)
    (hm_law_any_naming : PySem.W.nsIn K mainGlobals "_law_any_naming" = some (some (.ref v_law_any_naming)))
    (hl_law_any_naming : K.lookup v_law_any_naming = some ⟨oc_law_any_naming, od_law_any_naming, .func (PySem.W.fnOf "_law_any_naming" "_law_any_naming" (defArgs s_law_any_naming) (defBody s_law_any_naming) (defScope s_law_any_naming) .none kV_law_any_naming dc_law_any_naming pm_law_any_naming an_law_any_naming cd_law_any_naming ct_law_any_naming), sl_law_any_naming⟩)
    (hc_law_any_naming : PySem.W.codeIn K cd_law_any_naming "_law_any_naming" = true)
    (hk_law_any_naming : PySem.W.keepIn K (.ref v_law_any_naming) = true)
    (hm_law_told_naming : PySem.W.nsIn K mainGlobals "_law_told_naming" = some (some (.ref v_law_told_naming)))
    (hl_law_told_naming : K.lookup v_law_told_naming = some ⟨oc_law_told_naming, od_law_told_naming, .func (PySem.W.fnOf "_law_told_naming" "_law_told_naming" (defArgs s_law_told_naming) (defBody s_law_told_naming) (defScope s_law_told_naming) .none kV_law_told_naming dc_law_told_naming pm_law_told_naming an_law_told_naming cd_law_told_naming ct_law_told_naming), sl_law_told_naming⟩)
    (hc_law_told_naming : PySem.W.codeIn K cd_law_told_naming "_law_told_naming" = true)
    (hk_law_told_naming : PySem.W.keepIn K (.ref v_law_told_naming) = true)
    (hm_law_spoiled : PySem.W.nsIn K mainGlobals "_law_spoiled" = some (some (.ref v_law_spoiled)))
    (hl_law_spoiled : K.lookup v_law_spoiled = some ⟨oc_law_spoiled, od_law_spoiled, .func (PySem.W.fnOf "_law_spoiled" "_law_spoiled" (defArgs s_law_spoiled) (defBody s_law_spoiled) (defScope s_law_spoiled) .none kV_law_spoiled dc_law_spoiled pm_law_spoiled an_law_spoiled cd_law_spoiled ct_law_spoiled), sl_law_spoiled⟩)
    (hc_law_spoiled : PySem.W.codeIn K cd_law_spoiled "_law_spoiled" = true)
    (hk_law_spoiled : PySem.W.keepIn K (.ref v_law_spoiled) = true)
    (hm_law_nine : PySem.W.nsIn K mainGlobals "_law_nine" = some (some (.ref v_law_nine)))
    (hl_law_nine : K.lookup v_law_nine = some ⟨oc_law_nine, od_law_nine, .func (PySem.W.fnOf "_law_nine" "_law_nine" (defArgs s_law_nine) (defBody s_law_nine) (defScope s_law_nine) .none kV_law_nine dc_law_nine pm_law_nine an_law_nine cd_law_nine ct_law_nine), sl_law_nine⟩)
    (hc_law_nine : PySem.W.codeIn K cd_law_nine "_law_nine" = true)
    (hk_law_nine : PySem.W.keepIn K (.ref v_law_nine) = true)
    (hm_law_eight : PySem.W.nsIn K mainGlobals "_law_eight" = some (some (.ref v_law_eight)))
    (hl_law_eight : K.lookup v_law_eight = some ⟨oc_law_eight, od_law_eight, .func (PySem.W.fnOf "_law_eight" "_law_eight" (defArgs s_law_eight) (defBody s_law_eight) (defScope s_law_eight) .none kV_law_eight dc_law_eight pm_law_eight an_law_eight cd_law_eight ct_law_eight), sl_law_eight⟩)
    (hc_law_eight : PySem.W.codeIn K cd_law_eight "_law_eight" = true)
    (hk_law_eight : PySem.W.keepIn K (.ref v_law_eight) = true)
    (hm_law_refused : PySem.W.nsIn K mainGlobals "_law_refused" = some (some (.ref v_law_refused)))
    (hl_law_refused : K.lookup v_law_refused = some ⟨oc_law_refused, od_law_refused, .func (PySem.W.fnOf "_law_refused" "_law_refused" (defArgs s_law_refused) (defBody s_law_refused) (defScope s_law_refused) .none kV_law_refused dc_law_refused pm_law_refused an_law_refused cd_law_refused ct_law_refused), sl_law_refused⟩)
    (hc_law_refused : PySem.W.codeIn K cd_law_refused "_law_refused" = true)
    (hk_law_refused : PySem.W.keepIn K (.ref v_law_refused) = true)
    (hm_law_painting : PySem.W.nsIn K mainGlobals "_law_painting" = some (some (.ref v_law_painting)))
    (hl_law_painting : K.lookup v_law_painting = some ⟨oc_law_painting, od_law_painting, .func (PySem.W.fnOf "_law_painting" "_law_painting" (defArgs s_law_painting) (defBody s_law_painting) (defScope s_law_painting) .none kV_law_painting dc_law_painting pm_law_painting an_law_painting cd_law_painting ct_law_painting), sl_law_painting⟩)
    (hc_law_painting : PySem.W.codeIn K cd_law_painting "_law_painting" = true)
    (hk_law_painting : PySem.W.keepIn K (.ref v_law_painting) = true)
    (hm_law_broken : PySem.W.nsIn K mainGlobals "_law_broken" = some (some (.ref v_law_broken)))
    (hl_law_broken : K.lookup v_law_broken = some ⟨oc_law_broken, od_law_broken, .func (PySem.W.fnOf "_law_broken" "_law_broken" (defArgs s_law_broken) (defBody s_law_broken) (defScope s_law_broken) .none kV_law_broken dc_law_broken pm_law_broken an_law_broken cd_law_broken ct_law_broken), sl_law_broken⟩)
    (hc_law_broken : PySem.W.codeIn K cd_law_broken "_law_broken" = true)
    (hk_law_broken : PySem.W.keepIn K (.ref v_law_broken) = true)
    (hm_law_painted_eight : PySem.W.nsIn K mainGlobals "_law_painted_eight" = some (some (.ref v_law_painted_eight)))
    (hl_law_painted_eight : K.lookup v_law_painted_eight = some ⟨oc_law_painted_eight, od_law_painted_eight, .func (PySem.W.fnOf "_law_painted_eight" "_law_painted_eight" (defArgs s_law_painted_eight) (defBody s_law_painted_eight) (defScope s_law_painted_eight) .none kV_law_painted_eight dc_law_painted_eight pm_law_painted_eight an_law_painted_eight cd_law_painted_eight ct_law_painted_eight), sl_law_painted_eight⟩)
    (hc_law_painted_eight : PySem.W.codeIn K cd_law_painted_eight "_law_painted_eight" = true)
    (hk_law_painted_eight : PySem.W.keepIn K (.ref v_law_painted_eight) = true)
    (hm_law_one : PySem.W.nsIn K mainGlobals "_law_one" = some (some (.ref v_law_one)))
    (hl_law_one : K.lookup v_law_one = some ⟨oc_law_one, od_law_one, .func (PySem.W.fnOf "_law_one" "_law_one" (defArgs s_law_one) (defBody s_law_one) (defScope s_law_one) .none kV_law_one dc_law_one pm_law_one an_law_one cd_law_one ct_law_one), sl_law_one⟩)
    (hc_law_one : PySem.W.codeIn K cd_law_one "_law_one" = true)
    (hk_law_one : PySem.W.keepIn K (.ref v_law_one) = true)
    (hm_law : PySem.W.nsIn K mainGlobals "law" = some (some (.ref v_law)))
    (hl_law : K.lookup v_law = some ⟨oc_law, od_law, .func (PySem.W.fnOf "law" "law" (defArgs s_law) (defBody s_law) (defScope s_law) .none kV_law dc_law pm_law an_law cd_law ct_law), sl_law⟩)
    (hc_law : PySem.W.codeIn K cd_law "law" = true)
    (hk_law : PySem.W.keepIn K (.ref v_law) = true)
    (hl_TooMany___init__ : K.lookup v_TooMany___init__ = some ⟨oc_TooMany___init__, od_TooMany___init__, .func (PySem.W.fnOf "__init__" "TooMany.__init__" (defArgs s_TooMany___init__) (defBody s_TooMany___init__) (defScope s_TooMany___init__) .none kV_TooMany___init__ dc_TooMany___init__ pm_TooMany___init__ an_TooMany___init__ cd_TooMany___init__ ct_TooMany___init__), sl_TooMany___init__⟩)
    (hc_TooMany___init__ : PySem.W.codeIn K cd_TooMany___init__ "TooMany.__init__" = true)
    (hk_TooMany___init__ : PySem.W.keepIn K (.ref v_TooMany___init__) = true)
    (hl_BadBare___init__ : K.lookup v_BadBare___init__ = some ⟨oc_BadBare___init__, od_BadBare___init__, .func (PySem.W.fnOf "__init__" "BadBare.__init__" (defArgs s_BadBare___init__) (defBody s_BadBare___init__) (defScope s_BadBare___init__) .none kV_BadBare___init__ dc_BadBare___init__ pm_BadBare___init__ an_BadBare___init__ cd_BadBare___init__ ct_BadBare___init__), sl_BadBare___init__⟩)
    (hc_BadBare___init__ : PySem.W.codeIn K cd_BadBare___init__ "BadBare.__init__" = true)
    (hk_BadBare___init__ : PySem.W.keepIn K (.ref v_BadBare___init__) = true)
    (hl_BadPainting___init__ : K.lookup v_BadPainting___init__ = some ⟨oc_BadPainting___init__, od_BadPainting___init__, .func (PySem.W.fnOf "__init__" "BadPainting.__init__" (defArgs s_BadPainting___init__) (defBody s_BadPainting___init__) (defScope s_BadPainting___init__) .none kV_BadPainting___init__ dc_BadPainting___init__ pm_BadPainting___init__ an_BadPainting___init__ cd_BadPainting___init__ ct_BadPainting___init__), sl_BadPainting___init__⟩)
    (hc_BadPainting___init__ : PySem.W.codeIn K cd_BadPainting___init__ "BadPainting.__init__" = true)
    (hk_BadPainting___init__ : PySem.W.keepIn K (.ref v_BadPainting___init__) = true)
    (hl_Bare___init__ : K.lookup v_Bare___init__ = some ⟨oc_Bare___init__, od_Bare___init__, .func (PySem.W.fnOf "__init__" "Bare.__init__" (defArgs s_Bare___init__) (defBody s_Bare___init__) (defScope s_Bare___init__) .none kV_Bare___init__ dc_Bare___init__ pm_Bare___init__ an_Bare___init__ cd_Bare___init__ ct_Bare___init__), sl_Bare___init__⟩)
    (hc_Bare___init__ : PySem.W.codeIn K cd_Bare___init__ "Bare.__init__" = true)
    (hk_Bare___init__ : PySem.W.keepIn K (.ref v_Bare___init__) = true)
    (hl_Bare___len__ : K.lookup v_Bare___len__ = some ⟨oc_Bare___len__, od_Bare___len__, .func (PySem.W.fnOf "__len__" "Bare.__len__" (defArgs s_Bare___len__) (defBody s_Bare___len__) (defScope s_Bare___len__) .none kV_Bare___len__ dc_Bare___len__ pm_Bare___len__ an_Bare___len__ cd_Bare___len__ ct_Bare___len__), sl_Bare___len__⟩)
    (hc_Bare___len__ : PySem.W.codeIn K cd_Bare___len__ "Bare.__len__" = true)
    (hk_Bare___len__ : PySem.W.keepIn K (.ref v_Bare___len__) = true)
    (hl_Bare___eq__ : K.lookup v_Bare___eq__ = some ⟨oc_Bare___eq__, od_Bare___eq__, .func (PySem.W.fnOf "__eq__" "Bare.__eq__" (defArgs s_Bare___eq__) (defBody s_Bare___eq__) (defScope s_Bare___eq__) .none kV_Bare___eq__ dc_Bare___eq__ pm_Bare___eq__ an_Bare___eq__ cd_Bare___eq__ ct_Bare___eq__), sl_Bare___eq__⟩)
    (hc_Bare___eq__ : PySem.W.codeIn K cd_Bare___eq__ "Bare.__eq__" = true)
    (hk_Bare___eq__ : PySem.W.keepIn K (.ref v_Bare___eq__) = true)
    (hm_MOST_PLACES : PySem.W.nsIn K mainGlobals "MOST_PLACES" = some (some (.int 200 t_MOST_PLACES)))
    (hm_MOST_SEARCHED : PySem.W.nsIn K mainGlobals "MOST_SEARCHED" = some (some (.int 8 t_MOST_SEARCHED)))
    (hz_ValueError : PySem.W.nsIn K mainGlobals "ValueError" = some none)
    (hz_abs : PySem.W.nsIn K mainGlobals "abs" = some none)
    (hz_all : PySem.W.nsIn K mainGlobals "all" = some none)
    (hz_any : PySem.W.nsIn K mainGlobals "any" = some none)
    (hz_bool : PySem.W.nsIn K mainGlobals "bool" = some none)
    (hz_enumerate : PySem.W.nsIn K mainGlobals "enumerate" = some none)
    (hz_int : PySem.W.nsIn K mainGlobals "int" = some none)
    (hz_isinstance : PySem.W.nsIn K mainGlobals "isinstance" = some none)
    (hz_len : PySem.W.nsIn K mainGlobals "len" = some none)
    (hz_list : PySem.W.nsIn K mainGlobals "list" = some none)
    (hz_max : PySem.W.nsIn K mainGlobals "max" = some none)
    (hz_min : PySem.W.nsIn K mainGlobals "min" = some none)
    (hz_range : PySem.W.nsIn K mainGlobals "range" = some none)
    (hz_set : PySem.W.nsIn K mainGlobals "set" = some none)
    (hz_sorted : PySem.W.nsIn K mainGlobals "sorted" = some none)
    (hz_sum : PySem.W.nsIn K mainGlobals "sum" = some none)
    (hz_tuple : PySem.W.nsIn K mainGlobals "tuple" = some none)
    (hm_UndoError : PySem.W.nsIn K mainGlobals "UndoError" = some (some (.ref u_c_UndoError)))
    (yc_mk_Bare : PySem.W.makesIn K w_Bare = true)
    (yc_fn_Bare : PySem.W.isFn K (.ref v_Bare___init__) = true)
    (yc_kp_Bare : PySem.W.keepIn K (.ref w_Bare) = true)
    (yc_pg_Bare : PySem.W.plainGet K w_Bare Str.empty = true)
    (yc_hd_Bare : PySem.W.hasDictIn K w_Bare = true)
    (yc_po_Bare : PySem.W.plainOver K w_Bare = true)
    (yc_sa_Bare : PySem.W.findIn K (.ref w_Bare) "__setattr__" = some (some (.builtin "object.__setattr__")))
    (yc_ha_Bare : PySem.W.findIn K (.ref w_Bare) "__class__" = some (some (.builtin "object.__class__")))
    (yc_hm_Bare : PySem.W.mroIn K w_Bare (.type "object") = some true)
    (yc_me_Bare : PySem.W.kitOne K (.ref w_Bare) (.ref w_Bare) = some true)
    (yc_hn : PySem.W.specialIn K (.builtin "object.__class__") "__get__" = some (some (.builtin "getset_descriptor.__get__")))
    (yc_ht : PySem.W.takesIn K (.builtin "object.__class__") = some true)
    (hfn_Bare___len__ : PySem.W.isFn K (.ref v_Bare___len__) = true)
    (hfn_Bare___eq__ : PySem.W.isFn K (.ref v_Bare___eq__) = true)
    (hne_Bare : PySem.W.findIn K (.ref w_Bare) "__ne__" = some (some (.builtin "object.__ne__")))
    (hna_Bare_befores : PySem.W.findIn K (.ref w_Bare) "befores" = some none)
    (hna_Bare_end : PySem.W.findIn K (.ref w_Bare) "end" = some none)
    (hna_Bare_afters : PySem.W.findIn K (.ref w_Bare) "afters" = some none)
    (hna_Bare_ordered : PySem.W.findIn K (.ref w_Bare) "ordered" = some none)
    (hna_Bare_needs : PySem.W.findIn K (.ref w_Bare) "needs" = some none)
    (dt_reached_along : K.lookup T_reached_along = some ⟨.type "tuple", e_reached_along, .seq j_reached_along n_reached_along, r_reached_along⟩)
    (dt_naming_fault : K.lookup T_naming_fault = some ⟨.type "tuple", e_naming_fault, .seq j_naming_fault n_naming_fault, r_naming_fault⟩)
    (dt_naming_plan : K.lookup T_naming_plan = some ⟨.type "tuple", e_naming_plan, .seq j_naming_plan n_naming_plan, r_naming_plan⟩)
    (ti_reached_along : valsB [V.int 0] j_reached_along.toList = true)
    (ti_naming_fault : valsB [V.non] j_naming_fault.toList = true)
    (ti_naming_plan : valsB [V.non] j_naming_plan.toList = true) :
    ∃ fd : FuncData, (∀ (s : Shared) (u : Value), BindsTo s fd ⟨[u], []⟩ [("_law_script", u)]) ∧ ∀ base : Heap, K.In base → base.Ns mainGlobals mg → FnOk P w K mg base (L2.CX P w) 38 fa fd ["_law_script"] (spLaw K) := by
  have e := hfa.symm.trans (PySem.W.mg_of X G hm_law)
  cases e
  have F_is_whole := fun_mk (st := s_is_whole) hl_is_whole hc_is_whole hk_is_whole
  have b_is_whole := F_is_whole.binds (ps := ["thing"]) fun _ _ _ _ _ _ us hl => match us, hl with | [_], _ => rfl
  have F_is_within := fun_mk (st := s_is_within) hl_is_within hc_is_within hk_is_within
  have b_is_within := F_is_within.binds (ps := ["thing", "least", "most"]) fun _ _ _ _ _ _ us hl => match us, hl with | [_, _, _], _ => rfl
  have F_is_sequence := fun_mk (st := s_is_sequence) hl_is_sequence hc_is_sequence hk_is_sequence
  have b_is_sequence := F_is_sequence.binds (ps := ["thing"]) fun _ _ _ _ _ _ us hl => match us, hl with | [_], _ => rfl
  have F_mask_of := fun_mk (st := s_mask_of) hl_mask_of hc_mask_of hk_mask_of
  have b_mask_of := F_mask_of.binds (ps := ["places"]) fun _ _ _ _ _ _ us hl => match us, hl with | [_], _ => rfl
  have F_is_place := fun_mk (st := s_is_place) hl_is_place hc_is_place hk_is_place
  have b_is_place := F_is_place.binds (ps := ["bare", "thing"]) fun _ _ _ _ _ _ us hl => match us, hl with | [_, _], _ => rfl
  have F_is_before_list := fun_mk (st := s_is_before_list) hl_is_before_list hc_is_before_list hk_is_before_list
  have b_is_before_list := F_is_before_list.binds (ps := ["thing", "place", "many"]) fun _ _ _ _ _ _ us hl => match us, hl with | [_, _, _], _ => rfl
  have F_checked_befores := fun_mk (st := s_checked_befores) hl_checked_befores hc_checked_befores hk_checked_befores
  have b_checked_befores := F_checked_befores.binds (ps := ["befores"]) fun _ _ _ _ _ _ us hl => match us, hl with | [_], _ => rfl
  have F_afters_of := fun_mk (st := s_afters_of) hl_afters_of hc_afters_of hk_afters_of
  have b_afters_of := F_afters_of.binds (ps := ["befores"]) fun _ _ _ _ _ _ us hl => match us, hl with | [_], _ => rfl
  have F_ordered_of := fun_mk (st := s_ordered_of) hl_ordered_of hc_ordered_of hk_ordered_of
  have b_ordered_of := F_ordered_of.binds (ps := ["befores", "afters"]) fun _ _ _ _ _ _ us hl => match us, hl with | [_, _], _ => rfl
  have F_reached_along : FunD K "reached_along" "reached_along" (defArgs s_reached_along) (defBody s_reached_along) (defScope s_reached_along) [V.int 0] [] v_reached_along (PySem.W.fnOf "reached_along" "reached_along" (defArgs s_reached_along) (defBody s_reached_along) (defScope s_reached_along) (.ref T_reached_along) kV_reached_along dc_reached_along pm_reached_along an_reached_along cd_reached_along ct_reached_along) := ⟨⟨_, _, _, _, _, _, _, _, _, _, rfl, hl_reached_along, hc_reached_along, .inr ⟨by simp, T_reached_along, _, j_reached_along.toList, n_reached_along, rfl, dt_reached_along, by simp, valsB_ok ti_reached_along⟩, .inl rfl⟩, hk_reached_along⟩
  have b_reached_along : ∃ ds, Vals [V.int 0] ds ∧ Binds K (PySem.W.fnOf "reached_along" "reached_along" (defArgs s_reached_along) (defBody s_reached_along) (defScope s_reached_along) (.ref T_reached_along) kV_reached_along dc_reached_along pm_reached_along an_reached_along cd_reached_along ct_reached_along) ["arrows", "place", "barred"] ds := FunD.binds1 (ps := ["arrows", "place", "barred"]) F_reached_along 2 0 (by simp) rfl fun T kV doc pm an cdv ct us its h1 h2 => match us, its, h1, h2 with | [_, _], [_], _, _ => ⟨_, rfl, rfl⟩
  have F_check_rings := fun_mk (st := s_check_rings) hl_check_rings hc_check_rings hk_check_rings
  have b_check_rings := F_check_rings.binds (ps := ["befores"]) fun _ _ _ _ _ _ us hl => match us, hl with | [_], _ => rfl
  have F_check_roads := fun_mk (st := s_check_roads) hl_check_roads hc_check_roads hk_check_roads
  have b_check_roads := F_check_roads.binds (ps := ["befores", "end"]) fun _ _ _ _ _ _ us hl => match us, hl with | [_, _], _ => rfl
  have F_check_small := fun_mk (st := s_check_small) hl_check_small hc_check_small hk_check_small
  have b_check_small := F_check_small.binds (ps := ["bare"]) fun _ _ _ _ _ _ us hl => match us, hl with | [_], _ => rfl
  have F_is_unlike := fun_mk (st := s_is_unlike) hl_is_unlike hc_is_unlike hk_is_unlike
  have b_is_unlike := F_is_unlike.binds (ps := ["bare", "thing"]) fun _ _ _ _ _ _ us hl => match us, hl with | [_, _], _ => rfl
  have F_check_painting := fun_mk (st := s_check_painting) hl_check_painting hc_check_painting hk_check_painting
  have b_check_painting := F_check_painting.binds (ps := ["bare", "painting"]) fun _ _ _ _ _ _ us hl => match us, hl with | [_, _], _ => rfl
  have F_checked_hues := fun_mk (st := s_checked_hues) hl_checked_hues hc_checked_hues hk_checked_hues
  have b_checked_hues := F_checked_hues.binds (ps := ["bare", "painting"]) fun _ _ _ _ _ _ us hl => match us, hl with | [_, _], _ => rfl
  have F_first_hues := fun_mk (st := s_first_hues) hl_first_hues hc_first_hues hk_first_hues
  have b_first_hues := F_first_hues.binds (ps := ["bare"]) fun _ _ _ _ _ _ us hl => match us, hl with | [_], _ => rfl
  have F_is_painted_over := fun_mk (st := s_is_painted_over) hl_is_painted_over hc_is_painted_over hk_is_painted_over
  have b_is_painted_over := F_is_painted_over.binds (ps := ["bare", "hues"]) fun _ _ _ _ _ _ us hl => match us, hl with | [_, _], _ => rfl
  have F_unpainted := fun_mk (st := s_unpainted) hl_unpainted hc_unpainted hk_unpainted
  have b_unpainted := F_unpainted.binds (ps := ["bare", "hues"]) fun _ _ _ _ _ _ us hl => match us, hl with | [_, _], _ => rfl
  have F_painted := fun_mk (st := s_painted) hl_painted hc_painted hk_painted
  have b_painted := F_painted.binds (ps := ["hues", "place", "is_red"]) fun _ _ _ _ _ _ us hl => match us, hl with | [_, _, _], _ => rfl
  have F_names_behind := fun_mk (st := s_names_behind) hl_names_behind hc_names_behind hk_names_behind
  have b_names_behind := F_names_behind.binds (ps := ["bare", "hues", "known"]) fun _ _ _ _ _ _ us hl => match us, hl with | [_, _, _], _ => rfl
  have F_worse_hue := fun_mk (st := s_worse_hue) hl_worse_hue hc_worse_hue hk_worse_hue
  have b_worse_hue := F_worse_hue.binds (ps := ["bare", "hues", "place", "known"]) fun _ _ _ _ _ _ us hl => match us, hl with | [_, _, _, _], _ => rfl
  have F_names_left := fun_mk (st := s_names_left) hl_names_left hc_names_left hk_names_left
  have b_names_left := F_names_left.binds (ps := ["bare", "painting"]) fun _ _ _ _ _ _ us hl => match us, hl with | [_, _], _ => rfl
  have F_names_of := fun_mk (st := s_names_of) hl_names_of hc_names_of hk_names_of
  have b_names_of := F_names_of.binds (ps := ["bare"]) fun _ _ _ _ _ _ us hl => match us, hl with | [_], _ => rfl
  have F_told_hues := fun_mk (st := s_told_hues) hl_told_hues hc_told_hues hk_told_hues
  have b_told_hues := F_told_hues.binds (ps := ["bare", "painting"]) fun _ _ _ _ _ _ us hl => match us, hl with | [_, _], _ => rfl
  have F_plan_names := fun_mk (st := s_plan_names) hl_plan_names hc_plan_names hk_plan_names
  have b_plan_names := F_plan_names.binds (ps := ["plan"]) fun _ _ _ _ _ _ us hl => match us, hl with | [_], _ => rfl
  have F_naming_fault : FunD K "naming_fault" "naming_fault" (defArgs s_naming_fault) (defBody s_naming_fault) (defScope s_naming_fault) [V.non] [] v_naming_fault (PySem.W.fnOf "naming_fault" "naming_fault" (defArgs s_naming_fault) (defBody s_naming_fault) (defScope s_naming_fault) (.ref T_naming_fault) kV_naming_fault dc_naming_fault pm_naming_fault an_naming_fault cd_naming_fault ct_naming_fault) := ⟨⟨_, _, _, _, _, _, _, _, _, _, rfl, hl_naming_fault, hc_naming_fault, .inr ⟨by simp, T_naming_fault, _, j_naming_fault.toList, n_naming_fault, rfl, dt_naming_fault, by simp, valsB_ok ti_naming_fault⟩, .inl rfl⟩, hk_naming_fault⟩
  have b_naming_fault : ∃ ds, Vals [V.non] ds ∧ Binds K (PySem.W.fnOf "naming_fault" "naming_fault" (defArgs s_naming_fault) (defBody s_naming_fault) (defScope s_naming_fault) (.ref T_naming_fault) kV_naming_fault dc_naming_fault pm_naming_fault an_naming_fault cd_naming_fault ct_naming_fault) ["bare", "plan", "painting"] ds := FunD.binds1 (ps := ["bare", "plan", "painting"]) F_naming_fault 2 0 (by simp) rfl fun T kV doc pm an cdv ct us its h1 h2 => match us, its, h1, h2 with | [_, _], [_], _, _ => ⟨_, rfl, rfl⟩
  have bf_naming_fault : Binds K (PySem.W.fnOf "naming_fault" "naming_fault" (defArgs s_naming_fault) (defBody s_naming_fault) (defScope s_naming_fault) (.ref T_naming_fault) kV_naming_fault dc_naming_fault pm_naming_fault an_naming_fault cd_naming_fault ct_naming_fault) ["bare", "plan", "painting"] [] := by
    obtain ⟨ds, hv, hb⟩ := FunD.binds1 (ps := ["bare", "plan", "painting"]) F_naming_fault 3 1 (by simp) rfl fun T kV doc pm an cdv ct us its h1 h2 => match us, its, h1, h2 with | [_, _, _], [_], _, _ => ⟨_, rfl, rfl⟩
    cases hv
    exact hb
  have F_naming_fault_in := fun_mk (st := s_naming_fault_in) hl_naming_fault_in hc_naming_fault_in hk_naming_fault_in
  have b_naming_fault_in := F_naming_fault_in.binds (ps := ["bare", "plan", "hues"]) fun _ _ _ _ _ _ us hl => match us, hl with | [_, _, _], _ => rfl
  have F_naming_plan : FunD K "naming_plan" "naming_plan" (defArgs s_naming_plan) (defBody s_naming_plan) (defScope s_naming_plan) [V.non] [] v_naming_plan (PySem.W.fnOf "naming_plan" "naming_plan" (defArgs s_naming_plan) (defBody s_naming_plan) (defScope s_naming_plan) (.ref T_naming_plan) kV_naming_plan dc_naming_plan pm_naming_plan an_naming_plan cd_naming_plan ct_naming_plan) := ⟨⟨_, _, _, _, _, _, _, _, _, _, rfl, hl_naming_plan, hc_naming_plan, .inr ⟨by simp, T_naming_plan, _, j_naming_plan.toList, n_naming_plan, rfl, dt_naming_plan, by simp, valsB_ok ti_naming_plan⟩, .inl rfl⟩, hk_naming_plan⟩
  have b_naming_plan : ∃ ds, Vals [V.non] ds ∧ Binds K (PySem.W.fnOf "naming_plan" "naming_plan" (defArgs s_naming_plan) (defBody s_naming_plan) (defScope s_naming_plan) (.ref T_naming_plan) kV_naming_plan dc_naming_plan pm_naming_plan an_naming_plan cd_naming_plan ct_naming_plan) ["bare", "painting"] ds := FunD.binds1 (ps := ["bare", "painting"]) F_naming_plan 1 0 (by simp) rfl fun T kV doc pm an cdv ct us its h1 h2 => match us, its, h1, h2 with | [_], [_], _, _ => ⟨_, rfl, rfl⟩
  have bf_naming_plan : Binds K (PySem.W.fnOf "naming_plan" "naming_plan" (defArgs s_naming_plan) (defBody s_naming_plan) (defScope s_naming_plan) (.ref T_naming_plan) kV_naming_plan dc_naming_plan pm_naming_plan an_naming_plan cd_naming_plan ct_naming_plan) ["bare", "painting"] [] := by
    obtain ⟨ds, hv, hb⟩ := FunD.binds1 (ps := ["bare", "painting"]) F_naming_plan 2 1 (by simp) rfl fun T kV doc pm an cdv ct us its h1 h2 => match us, its, h1, h2 with | [_, _], [_], _, _ => ⟨_, rfl, rfl⟩
    cases hv
    exact hb
  have F_naming_in := fun_mk (st := s_naming_in) hl_naming_in hc_naming_in hk_naming_in
  have b_naming_in := F_naming_in.binds (ps := ["bare", "hues", "known"]) fun _ _ _ _ _ _ us hl => match us, hl with | [_, _, _], _ => rfl
  have F_law_hand := fun_mk (st := s_law_hand) hl_law_hand hc_law_hand hk_law_hand
  have b_law_hand := F_law_hand.binds (ps := ["_law_script"]) fun _ _ _ _ _ _ us hl => match us, hl with | [_], _ => rfl
  have F_law_mixed := fun_mk (st := s_law_mixed) hl_law_mixed hc_law_mixed hk_law_mixed
  have b_law_mixed := F_law_mixed.binds (ps := ["_law_number", "_law_turn"]) fun _ _ _ _ _ _ us hl => match us, hl with | [_, _], _ => rfl
  have F_law_take := fun_mk (st := s_law_take) hl_law_take hc_law_take hk_law_take
  have b_law_take := F_law_take.binds (ps := ["_law_hand_here", "_law_many"]) fun _ _ _ _ _ _ us hl => match us, hl with | [_, _], _ => rfl
  have F_law_whole := fun_mk (st := s_law_whole) hl_law_whole hc_law_whole hk_law_whole
  have b_law_whole := F_law_whole.binds (ps := ["_law_thing"]) fun _ _ _ _ _ _ us hl => match us, hl with | [_], _ => rfl
  have F_law_two := fun_mk (st := s_law_two) hl_law_two hc_law_two hk_law_two
  have b_law_two := F_law_two.binds (ps := ["_law_n"]) fun _ _ _ _ _ _ us hl => match us, hl with | [_], _ => rfl
  have F_law_led := fun_mk (st := s_law_led) hl_law_led hc_law_led hk_law_led
  have b_law_led := F_law_led.binds (ps := ["_law_befores", "_law_places"]) fun _ _ _ _ _ _ us hl => match us, hl with | [_, _], _ => rfl
  have F_law_order := fun_mk (st := s_law_order) hl_law_order hc_law_order hk_law_order
  have b_law_order := F_law_order.binds (ps := ["_law_hand_here", "_law_many"]) fun _ _ _ _ _ _ us hl => match us, hl with | [_, _], _ => rfl
  have F_law_bare := fun_mk (st := s_law_bare) hl_law_bare hc_law_bare hk_law_bare
  have b_law_bare := F_law_bare.binds (ps := ["_law_hand_here", "_law_many", "_law_share", "_law_mixed_here"]) fun _ _ _ _ _ _ us hl => match us, hl with | [_, _, _, _], _ => rfl
  have F_law_tree := fun_mk (st := s_law_tree) hl_law_tree hc_law_tree hk_law_tree
  have b_law_tree := F_law_tree.binds (ps := ["_law_hand_here", "_law_many", "_law_mixed_here"]) fun _ _ _ _ _ _ us hl => match us, hl with | [_, _, _], _ => rfl
  have F_law_masks := fun_mk (st := s_law_masks) hl_law_masks hc_law_masks hk_law_masks
  have b_law_masks := F_law_masks.binds (ps := ["_law_befores"]) fun _ _ _ _ _ _ us hl => match us, hl with | [_], _ => rfl
  have F_law_held := fun_mk (st := s_law_held) hl_law_held hc_law_held hk_law_held
  have b_law_held := F_law_held.binds (ps := ["_law_mask", "_law_part"]) fun _ _ _ _ _ _ us hl => match us, hl with | [_, _], _ => rfl
  have F_law_bare_of := fun_mk (st := s_law_bare_of) hl_law_bare_of hc_law_bare_of hk_law_bare_of
  have b_law_bare_of := F_law_bare_of.binds (ps := ["_law_befores", "_law_end"]) fun _ _ _ _ _ _ us hl => match us, hl with | [_, _], _ => rfl
  have F_law_small := fun_mk (st := s_law_small) hl_law_small hc_law_small hk_law_small
  have b_law_small := F_law_small.binds (ps := ["_law_hand_here"]) fun _ _ _ _ _ _ us hl => match us, hl with | [_], _ => rfl
  have F_law_is_over := fun_mk (st := s_law_is_over) hl_law_is_over hc_law_is_over hk_law_is_over
  have b_law_is_over := F_law_is_over.binds (ps := ["_law_masks_here", "_law_reds", "_law_blues"]) fun _ _ _ _ _ _ us hl => match us, hl with | [_, _, _], _ => rfl
  have F_law_left := fun_mk (st := s_law_left) hl_law_left hc_law_left hk_law_left
  have b_law_left := F_law_left.binds (ps := ["_law_masks_here", "_law_reds", "_law_blues", "_law_kept"]) fun _ _ _ _ _ _ us hl => match us, hl with | [_, _, _, _], _ => rfl
  have F_law_naming_word := fun_mk (st := s_law_naming_word) hl_law_naming_word hc_law_naming_word hk_law_naming_word
  have b_law_naming_word := F_law_naming_word.binds (ps := ["_law_masks_here", "_law_plan", "_law_reds", "_law_blues"]) fun _ _ _ _ _ _ us hl => match us, hl with | [_, _, _, _], _ => rfl
  have F_law_depth := fun_mk (st := s_law_depth) hl_law_depth hc_law_depth hk_law_depth
  have b_law_depth := F_law_depth.binds (ps := ["_law_plan"]) fun _ _ _ _ _ _ us hl => match us, hl with | [_], _ => rfl
  have F_law_any_naming := fun_mk (st := s_law_any_naming) hl_law_any_naming hc_law_any_naming hk_law_any_naming
  have b_law_any_naming := F_law_any_naming.binds (ps := ["_law_hand_here", "_law_masks_here", "_law_reds", "_law_blues"]) fun _ _ _ _ _ _ us hl => match us, hl with | [_, _, _, _], _ => rfl
  have F_law_told_naming := fun_mk (st := s_law_told_naming) hl_law_told_naming hc_law_told_naming hk_law_told_naming
  have b_law_told_naming := F_law_told_naming.binds (ps := ["_law_masks_here", "_law_reds", "_law_blues", "_law_kept"]) fun _ _ _ _ _ _ us hl => match us, hl with | [_, _, _, _], _ => rfl
  have F_law_spoiled := fun_mk (st := s_law_spoiled) hl_law_spoiled hc_law_spoiled hk_law_spoiled
  have b_law_spoiled := F_law_spoiled.binds (ps := ["_law_hand_here", "_law_plan", "_law_many", "_law_forms"]) fun _ _ _ _ _ _ us hl => match us, hl with | [_, _, _, _], _ => rfl
  have F_law_nine := fun_mk (st := s_law_nine) hl_law_nine hc_law_nine hk_law_nine
  have b_law_nine := F_law_nine.binds (ps := []) fun _ _ _ _ _ _ us hl => match us, hl with | [], _ => rfl
  have F_law_eight := fun_mk (st := s_law_eight) hl_law_eight hc_law_eight hk_law_eight
  have b_law_eight := F_law_eight.binds (ps := ["_law_hand_here"]) fun _ _ _ _ _ _ us hl => match us, hl with | [_], _ => rfl
  have F_law_refused := fun_mk (st := s_law_refused) hl_law_refused hc_law_refused hk_law_refused
  have b_law_refused := F_law_refused.binds (ps := ["_law_bare_here", "_law_painting_here", "_law_at"]) fun _ _ _ _ _ _ us hl => match us, hl with | [_, _, _], _ => rfl
  have F_law_painting := fun_mk (st := s_law_painting) hl_law_painting hc_law_painting hk_law_painting
  have b_law_painting := F_law_painting.binds (ps := ["_law_hand_here", "_law_many"]) fun _ _ _ _ _ _ us hl => match us, hl with | [_, _], _ => rfl
  have F_law_broken := fun_mk (st := s_law_broken) hl_law_broken hc_law_broken hk_law_broken
  have b_law_broken := F_law_broken.binds (ps := ["_law_hand_here", "_law_reds", "_law_blues", "_law_many"]) fun _ _ _ _ _ _ us hl => match us, hl with | [_, _, _, _], _ => rfl
  have F_law_painted_eight := fun_mk (st := s_law_painted_eight) hl_law_painted_eight hc_law_painted_eight hk_law_painted_eight
  have b_law_painted_eight := F_law_painted_eight.binds (ps := ["_law_hand_here", "_law_end"]) fun _ _ _ _ _ _ us hl => match us, hl with | [_, _], _ => rfl
  have F_law_one := fun_mk (st := s_law_one) hl_law_one hc_law_one hk_law_one
  have b_law_one := F_law_one.binds (ps := ["_law_hand_here", "_law_bare_here", "_law_masks_here", "_law_kept", "_law_reds", "_law_blues"]) fun _ _ _ _ _ _ us hl => match us, hl with | [_, _, _, _, _, _], _ => rfl
  have F_law := fun_mk (st := s_law) hl_law hc_law hk_law
  have b_law := F_law.binds (ps := ["_law_script"]) fun _ _ _ _ _ _ us hl => match us, hl with | [_], _ => rfl
  have F_TooMany___init__ := fun_mk (st := s_TooMany___init__) hl_TooMany___init__ hc_TooMany___init__ hk_TooMany___init__
  have b_TooMany___init__ := F_TooMany___init__.binds (ps := ["self", "most"]) fun _ _ _ _ _ _ us hl => match us, hl with | [_, _], _ => rfl
  have F_BadBare___init__ := fun_mk (st := s_BadBare___init__) hl_BadBare___init__ hc_BadBare___init__ hk_BadBare___init__
  have b_BadBare___init__ := F_BadBare___init__.binds (ps := ["self", "place", "what"]) fun _ _ _ _ _ _ us hl => match us, hl with | [_, _, _], _ => rfl
  have F_BadPainting___init__ := fun_mk (st := s_BadPainting___init__) hl_BadPainting___init__ hc_BadPainting___init__ hk_BadPainting___init__
  have b_BadPainting___init__ := F_BadPainting___init__.binds (ps := ["self", "what"]) fun _ _ _ _ _ _ us hl => match us, hl with | [_, _], _ => rfl
  have F_Bare___init__ := fun_mk (st := s_Bare___init__) hl_Bare___init__ hc_Bare___init__ hk_Bare___init__
  have b_Bare___init__ := F_Bare___init__.binds (ps := ["self", "befores", "end"]) fun _ _ _ _ _ _ us hl => match us, hl with | [_, _, _], _ => rfl
  have F_Bare___len__ := fun_mk (st := s_Bare___len__) hl_Bare___len__ hc_Bare___len__ hk_Bare___len__
  have b_Bare___len__ := F_Bare___len__.binds (ps := ["self"]) fun _ _ _ _ _ _ us hl => match us, hl with | [_], _ => rfl
  have F_Bare___eq__ := fun_mk (st := s_Bare___eq__) hl_Bare___eq__ hc_Bare___eq__ hk_Bare___eq__
  have b_Bare___eq__ := F_Bare___eq__.binds (ps := ["self", "other"]) fun _ _ _ _ _ _ us hl => match us, hl with | [_, _], _ => rfl
  have T : Txt K mg ⟨v_is_whole, (PySem.W.fnOf "is_whole" "is_whole" (defArgs s_is_whole) (defBody s_is_whole) (defScope s_is_whole) .none kV_is_whole dc_is_whole pm_is_whole an_is_whole cd_is_whole ct_is_whole), v_is_within, (PySem.W.fnOf "is_within" "is_within" (defArgs s_is_within) (defBody s_is_within) (defScope s_is_within) .none kV_is_within dc_is_within pm_is_within an_is_within cd_is_within ct_is_within), v_is_sequence, (PySem.W.fnOf "is_sequence" "is_sequence" (defArgs s_is_sequence) (defBody s_is_sequence) (defScope s_is_sequence) .none kV_is_sequence dc_is_sequence pm_is_sequence an_is_sequence cd_is_sequence ct_is_sequence), v_mask_of, (PySem.W.fnOf "mask_of" "mask_of" (defArgs s_mask_of) (defBody s_mask_of) (defScope s_mask_of) .none kV_mask_of dc_mask_of pm_mask_of an_mask_of cd_mask_of ct_mask_of), v_is_place, (PySem.W.fnOf "is_place" "is_place" (defArgs s_is_place) (defBody s_is_place) (defScope s_is_place) .none kV_is_place dc_is_place pm_is_place an_is_place cd_is_place ct_is_place), v_is_before_list, (PySem.W.fnOf "is_before_list" "is_before_list" (defArgs s_is_before_list) (defBody s_is_before_list) (defScope s_is_before_list) .none kV_is_before_list dc_is_before_list pm_is_before_list an_is_before_list cd_is_before_list ct_is_before_list), v_checked_befores, (PySem.W.fnOf "checked_befores" "checked_befores" (defArgs s_checked_befores) (defBody s_checked_befores) (defScope s_checked_befores) .none kV_checked_befores dc_checked_befores pm_checked_befores an_checked_befores cd_checked_befores ct_checked_befores), v_afters_of, (PySem.W.fnOf "afters_of" "afters_of" (defArgs s_afters_of) (defBody s_afters_of) (defScope s_afters_of) .none kV_afters_of dc_afters_of pm_afters_of an_afters_of cd_afters_of ct_afters_of), v_ordered_of, (PySem.W.fnOf "ordered_of" "ordered_of" (defArgs s_ordered_of) (defBody s_ordered_of) (defScope s_ordered_of) .none kV_ordered_of dc_ordered_of pm_ordered_of an_ordered_of cd_ordered_of ct_ordered_of), v_reached_along, (PySem.W.fnOf "reached_along" "reached_along" (defArgs s_reached_along) (defBody s_reached_along) (defScope s_reached_along) (.ref T_reached_along) kV_reached_along dc_reached_along pm_reached_along an_reached_along cd_reached_along ct_reached_along), v_check_rings, (PySem.W.fnOf "check_rings" "check_rings" (defArgs s_check_rings) (defBody s_check_rings) (defScope s_check_rings) .none kV_check_rings dc_check_rings pm_check_rings an_check_rings cd_check_rings ct_check_rings), v_check_roads, (PySem.W.fnOf "check_roads" "check_roads" (defArgs s_check_roads) (defBody s_check_roads) (defScope s_check_roads) .none kV_check_roads dc_check_roads pm_check_roads an_check_roads cd_check_roads ct_check_roads), v_check_small, (PySem.W.fnOf "check_small" "check_small" (defArgs s_check_small) (defBody s_check_small) (defScope s_check_small) .none kV_check_small dc_check_small pm_check_small an_check_small cd_check_small ct_check_small), v_is_unlike, (PySem.W.fnOf "is_unlike" "is_unlike" (defArgs s_is_unlike) (defBody s_is_unlike) (defScope s_is_unlike) .none kV_is_unlike dc_is_unlike pm_is_unlike an_is_unlike cd_is_unlike ct_is_unlike), v_check_painting, (PySem.W.fnOf "check_painting" "check_painting" (defArgs s_check_painting) (defBody s_check_painting) (defScope s_check_painting) .none kV_check_painting dc_check_painting pm_check_painting an_check_painting cd_check_painting ct_check_painting), v_checked_hues, (PySem.W.fnOf "checked_hues" "checked_hues" (defArgs s_checked_hues) (defBody s_checked_hues) (defScope s_checked_hues) .none kV_checked_hues dc_checked_hues pm_checked_hues an_checked_hues cd_checked_hues ct_checked_hues), v_first_hues, (PySem.W.fnOf "first_hues" "first_hues" (defArgs s_first_hues) (defBody s_first_hues) (defScope s_first_hues) .none kV_first_hues dc_first_hues pm_first_hues an_first_hues cd_first_hues ct_first_hues), v_is_painted_over, (PySem.W.fnOf "is_painted_over" "is_painted_over" (defArgs s_is_painted_over) (defBody s_is_painted_over) (defScope s_is_painted_over) .none kV_is_painted_over dc_is_painted_over pm_is_painted_over an_is_painted_over cd_is_painted_over ct_is_painted_over), v_unpainted, (PySem.W.fnOf "unpainted" "unpainted" (defArgs s_unpainted) (defBody s_unpainted) (defScope s_unpainted) .none kV_unpainted dc_unpainted pm_unpainted an_unpainted cd_unpainted ct_unpainted), v_painted, (PySem.W.fnOf "painted" "painted" (defArgs s_painted) (defBody s_painted) (defScope s_painted) .none kV_painted dc_painted pm_painted an_painted cd_painted ct_painted), v_names_behind, (PySem.W.fnOf "names_behind" "names_behind" (defArgs s_names_behind) (defBody s_names_behind) (defScope s_names_behind) .none kV_names_behind dc_names_behind pm_names_behind an_names_behind cd_names_behind ct_names_behind), v_worse_hue, (PySem.W.fnOf "worse_hue" "worse_hue" (defArgs s_worse_hue) (defBody s_worse_hue) (defScope s_worse_hue) .none kV_worse_hue dc_worse_hue pm_worse_hue an_worse_hue cd_worse_hue ct_worse_hue), v_names_left, (PySem.W.fnOf "names_left" "names_left" (defArgs s_names_left) (defBody s_names_left) (defScope s_names_left) .none kV_names_left dc_names_left pm_names_left an_names_left cd_names_left ct_names_left), v_names_of, (PySem.W.fnOf "names_of" "names_of" (defArgs s_names_of) (defBody s_names_of) (defScope s_names_of) .none kV_names_of dc_names_of pm_names_of an_names_of cd_names_of ct_names_of), v_told_hues, (PySem.W.fnOf "told_hues" "told_hues" (defArgs s_told_hues) (defBody s_told_hues) (defScope s_told_hues) .none kV_told_hues dc_told_hues pm_told_hues an_told_hues cd_told_hues ct_told_hues), v_plan_names, (PySem.W.fnOf "plan_names" "plan_names" (defArgs s_plan_names) (defBody s_plan_names) (defScope s_plan_names) .none kV_plan_names dc_plan_names pm_plan_names an_plan_names cd_plan_names ct_plan_names), v_naming_fault, (PySem.W.fnOf "naming_fault" "naming_fault" (defArgs s_naming_fault) (defBody s_naming_fault) (defScope s_naming_fault) (.ref T_naming_fault) kV_naming_fault dc_naming_fault pm_naming_fault an_naming_fault cd_naming_fault ct_naming_fault), v_naming_fault_in, (PySem.W.fnOf "naming_fault_in" "naming_fault_in" (defArgs s_naming_fault_in) (defBody s_naming_fault_in) (defScope s_naming_fault_in) .none kV_naming_fault_in dc_naming_fault_in pm_naming_fault_in an_naming_fault_in cd_naming_fault_in ct_naming_fault_in), v_naming_plan, (PySem.W.fnOf "naming_plan" "naming_plan" (defArgs s_naming_plan) (defBody s_naming_plan) (defScope s_naming_plan) (.ref T_naming_plan) kV_naming_plan dc_naming_plan pm_naming_plan an_naming_plan cd_naming_plan ct_naming_plan), v_naming_in, (PySem.W.fnOf "naming_in" "naming_in" (defArgs s_naming_in) (defBody s_naming_in) (defScope s_naming_in) .none kV_naming_in dc_naming_in pm_naming_in an_naming_in cd_naming_in ct_naming_in), v_law_hand, (PySem.W.fnOf "_law_hand" "_law_hand" (defArgs s_law_hand) (defBody s_law_hand) (defScope s_law_hand) .none kV_law_hand dc_law_hand pm_law_hand an_law_hand cd_law_hand ct_law_hand), v_law_mixed, (PySem.W.fnOf "_law_mixed" "_law_mixed" (defArgs s_law_mixed) (defBody s_law_mixed) (defScope s_law_mixed) .none kV_law_mixed dc_law_mixed pm_law_mixed an_law_mixed cd_law_mixed ct_law_mixed), v_law_take, (PySem.W.fnOf "_law_take" "_law_take" (defArgs s_law_take) (defBody s_law_take) (defScope s_law_take) .none kV_law_take dc_law_take pm_law_take an_law_take cd_law_take ct_law_take), v_law_whole, (PySem.W.fnOf "_law_whole" "_law_whole" (defArgs s_law_whole) (defBody s_law_whole) (defScope s_law_whole) .none kV_law_whole dc_law_whole pm_law_whole an_law_whole cd_law_whole ct_law_whole), v_law_two, (PySem.W.fnOf "_law_two" "_law_two" (defArgs s_law_two) (defBody s_law_two) (defScope s_law_two) .none kV_law_two dc_law_two pm_law_two an_law_two cd_law_two ct_law_two), v_law_led, (PySem.W.fnOf "_law_led" "_law_led" (defArgs s_law_led) (defBody s_law_led) (defScope s_law_led) .none kV_law_led dc_law_led pm_law_led an_law_led cd_law_led ct_law_led), v_law_order, (PySem.W.fnOf "_law_order" "_law_order" (defArgs s_law_order) (defBody s_law_order) (defScope s_law_order) .none kV_law_order dc_law_order pm_law_order an_law_order cd_law_order ct_law_order), v_law_bare, (PySem.W.fnOf "_law_bare" "_law_bare" (defArgs s_law_bare) (defBody s_law_bare) (defScope s_law_bare) .none kV_law_bare dc_law_bare pm_law_bare an_law_bare cd_law_bare ct_law_bare), v_law_tree, (PySem.W.fnOf "_law_tree" "_law_tree" (defArgs s_law_tree) (defBody s_law_tree) (defScope s_law_tree) .none kV_law_tree dc_law_tree pm_law_tree an_law_tree cd_law_tree ct_law_tree), v_law_masks, (PySem.W.fnOf "_law_masks" "_law_masks" (defArgs s_law_masks) (defBody s_law_masks) (defScope s_law_masks) .none kV_law_masks dc_law_masks pm_law_masks an_law_masks cd_law_masks ct_law_masks), v_law_held, (PySem.W.fnOf "_law_held" "_law_held" (defArgs s_law_held) (defBody s_law_held) (defScope s_law_held) .none kV_law_held dc_law_held pm_law_held an_law_held cd_law_held ct_law_held), v_law_bare_of, (PySem.W.fnOf "_law_bare_of" "_law_bare_of" (defArgs s_law_bare_of) (defBody s_law_bare_of) (defScope s_law_bare_of) .none kV_law_bare_of dc_law_bare_of pm_law_bare_of an_law_bare_of cd_law_bare_of ct_law_bare_of), v_law_small, (PySem.W.fnOf "_law_small" "_law_small" (defArgs s_law_small) (defBody s_law_small) (defScope s_law_small) .none kV_law_small dc_law_small pm_law_small an_law_small cd_law_small ct_law_small), v_law_is_over, (PySem.W.fnOf "_law_is_over" "_law_is_over" (defArgs s_law_is_over) (defBody s_law_is_over) (defScope s_law_is_over) .none kV_law_is_over dc_law_is_over pm_law_is_over an_law_is_over cd_law_is_over ct_law_is_over), v_law_left, (PySem.W.fnOf "_law_left" "_law_left" (defArgs s_law_left) (defBody s_law_left) (defScope s_law_left) .none kV_law_left dc_law_left pm_law_left an_law_left cd_law_left ct_law_left), v_law_naming_word, (PySem.W.fnOf "_law_naming_word" "_law_naming_word" (defArgs s_law_naming_word) (defBody s_law_naming_word) (defScope s_law_naming_word) .none kV_law_naming_word dc_law_naming_word pm_law_naming_word an_law_naming_word cd_law_naming_word ct_law_naming_word), v_law_depth, (PySem.W.fnOf "_law_depth" "_law_depth" (defArgs s_law_depth) (defBody s_law_depth) (defScope s_law_depth) .none kV_law_depth dc_law_depth pm_law_depth an_law_depth cd_law_depth ct_law_depth), v_law_any_naming, (PySem.W.fnOf "_law_any_naming" "_law_any_naming" (defArgs s_law_any_naming) (defBody s_law_any_naming) (defScope s_law_any_naming) .none kV_law_any_naming dc_law_any_naming pm_law_any_naming an_law_any_naming cd_law_any_naming ct_law_any_naming), v_law_told_naming, (PySem.W.fnOf "_law_told_naming" "_law_told_naming" (defArgs s_law_told_naming) (defBody s_law_told_naming) (defScope s_law_told_naming) .none kV_law_told_naming dc_law_told_naming pm_law_told_naming an_law_told_naming cd_law_told_naming ct_law_told_naming), v_law_spoiled, (PySem.W.fnOf "_law_spoiled" "_law_spoiled" (defArgs s_law_spoiled) (defBody s_law_spoiled) (defScope s_law_spoiled) .none kV_law_spoiled dc_law_spoiled pm_law_spoiled an_law_spoiled cd_law_spoiled ct_law_spoiled), v_law_nine, (PySem.W.fnOf "_law_nine" "_law_nine" (defArgs s_law_nine) (defBody s_law_nine) (defScope s_law_nine) .none kV_law_nine dc_law_nine pm_law_nine an_law_nine cd_law_nine ct_law_nine), v_law_eight, (PySem.W.fnOf "_law_eight" "_law_eight" (defArgs s_law_eight) (defBody s_law_eight) (defScope s_law_eight) .none kV_law_eight dc_law_eight pm_law_eight an_law_eight cd_law_eight ct_law_eight), v_law_refused, (PySem.W.fnOf "_law_refused" "_law_refused" (defArgs s_law_refused) (defBody s_law_refused) (defScope s_law_refused) .none kV_law_refused dc_law_refused pm_law_refused an_law_refused cd_law_refused ct_law_refused), v_law_painting, (PySem.W.fnOf "_law_painting" "_law_painting" (defArgs s_law_painting) (defBody s_law_painting) (defScope s_law_painting) .none kV_law_painting dc_law_painting pm_law_painting an_law_painting cd_law_painting ct_law_painting), v_law_broken, (PySem.W.fnOf "_law_broken" "_law_broken" (defArgs s_law_broken) (defBody s_law_broken) (defScope s_law_broken) .none kV_law_broken dc_law_broken pm_law_broken an_law_broken cd_law_broken ct_law_broken), v_law_painted_eight, (PySem.W.fnOf "_law_painted_eight" "_law_painted_eight" (defArgs s_law_painted_eight) (defBody s_law_painted_eight) (defScope s_law_painted_eight) .none kV_law_painted_eight dc_law_painted_eight pm_law_painted_eight an_law_painted_eight cd_law_painted_eight ct_law_painted_eight), v_law_one, (PySem.W.fnOf "_law_one" "_law_one" (defArgs s_law_one) (defBody s_law_one) (defScope s_law_one) .none kV_law_one dc_law_one pm_law_one an_law_one cd_law_one ct_law_one), fa, (PySem.W.fnOf "law" "law" (defArgs s_law) (defBody s_law) (defScope s_law) .none kV_law dc_law pm_law an_law cd_law ct_law), u_c_UndoError, w_TooMany, w_BadBare, w_BadPainting, w_Bare, v_TooMany___init__, (PySem.W.fnOf "__init__" "TooMany.__init__" (defArgs s_TooMany___init__) (defBody s_TooMany___init__) (defScope s_TooMany___init__) .none kV_TooMany___init__ dc_TooMany___init__ pm_TooMany___init__ an_TooMany___init__ cd_TooMany___init__ ct_TooMany___init__), v_BadBare___init__, (PySem.W.fnOf "__init__" "BadBare.__init__" (defArgs s_BadBare___init__) (defBody s_BadBare___init__) (defScope s_BadBare___init__) .none kV_BadBare___init__ dc_BadBare___init__ pm_BadBare___init__ an_BadBare___init__ cd_BadBare___init__ ct_BadBare___init__), v_BadPainting___init__, (PySem.W.fnOf "__init__" "BadPainting.__init__" (defArgs s_BadPainting___init__) (defBody s_BadPainting___init__) (defScope s_BadPainting___init__) .none kV_BadPainting___init__ dc_BadPainting___init__ pm_BadPainting___init__ an_BadPainting___init__ cd_BadPainting___init__ ct_BadPainting___init__), v_Bare___init__, (PySem.W.fnOf "__init__" "Bare.__init__" (defArgs s_Bare___init__) (defBody s_Bare___init__) (defScope s_Bare___init__) .none kV_Bare___init__ dc_Bare___init__ pm_Bare___init__ an_Bare___init__ cd_Bare___init__ ct_Bare___init__), v_Bare___len__, (PySem.W.fnOf "__len__" "Bare.__len__" (defArgs s_Bare___len__) (defBody s_Bare___len__) (defScope s_Bare___len__) .none kV_Bare___len__ dc_Bare___len__ pm_Bare___len__ an_Bare___len__ cd_Bare___len__ ct_Bare___len__), v_Bare___eq__, (PySem.W.fnOf "__eq__" "Bare.__eq__" (defArgs s_Bare___eq__) (defBody s_Bare___eq__) (defScope s_Bare___eq__) .none kV_Bare___eq__ dc_Bare___eq__ pm_Bare___eq__ an_Bare___eq__ cd_Bare___eq__ ct_Bare___eq__)⟩ := ⟨PySem.W.mg_of X G hm_is_whole, F_is_whole, b_is_whole, PySem.W.mg_of X G hm_is_within, F_is_within, b_is_within, PySem.W.mg_of X G hm_is_sequence, F_is_sequence, b_is_sequence, PySem.W.mg_of X G hm_mask_of, F_mask_of, b_mask_of, PySem.W.mg_of X G hm_is_place, F_is_place, b_is_place, PySem.W.mg_of X G hm_is_before_list, F_is_before_list, b_is_before_list, PySem.W.mg_of X G hm_checked_befores, F_checked_befores, b_checked_befores, PySem.W.mg_of X G hm_afters_of, F_afters_of, b_afters_of, PySem.W.mg_of X G hm_ordered_of, F_ordered_of, b_ordered_of, PySem.W.mg_of X G hm_reached_along, F_reached_along, b_reached_along, PySem.W.mg_of X G hm_check_rings, F_check_rings, b_check_rings, PySem.W.mg_of X G hm_check_roads, F_check_roads, b_check_roads, PySem.W.mg_of X G hm_check_small, F_check_small, b_check_small, PySem.W.mg_of X G hm_is_unlike, F_is_unlike, b_is_unlike, PySem.W.mg_of X G hm_check_painting, F_check_painting, b_check_painting, PySem.W.mg_of X G hm_checked_hues, F_checked_hues, b_checked_hues, PySem.W.mg_of X G hm_first_hues, F_first_hues, b_first_hues, PySem.W.mg_of X G hm_is_painted_over, F_is_painted_over, b_is_painted_over, PySem.W.mg_of X G hm_unpainted, F_unpainted, b_unpainted, PySem.W.mg_of X G hm_painted, F_painted, b_painted, PySem.W.mg_of X G hm_names_behind, F_names_behind, b_names_behind, PySem.W.mg_of X G hm_worse_hue, F_worse_hue, b_worse_hue, PySem.W.mg_of X G hm_names_left, F_names_left, b_names_left, PySem.W.mg_of X G hm_names_of, F_names_of, b_names_of, PySem.W.mg_of X G hm_told_hues, F_told_hues, b_told_hues, PySem.W.mg_of X G hm_plan_names, F_plan_names, b_plan_names, PySem.W.mg_of X G hm_naming_fault, F_naming_fault, b_naming_fault, bf_naming_fault, PySem.W.mg_of X G hm_naming_fault_in, F_naming_fault_in, b_naming_fault_in, PySem.W.mg_of X G hm_naming_plan, F_naming_plan, b_naming_plan, bf_naming_plan, PySem.W.mg_of X G hm_naming_in, F_naming_in, b_naming_in, PySem.W.mg_of X G hm_law_hand, F_law_hand, b_law_hand, PySem.W.mg_of X G hm_law_mixed, F_law_mixed, b_law_mixed, PySem.W.mg_of X G hm_law_take, F_law_take, b_law_take, PySem.W.mg_of X G hm_law_whole, F_law_whole, b_law_whole, PySem.W.mg_of X G hm_law_two, F_law_two, b_law_two, PySem.W.mg_of X G hm_law_led, F_law_led, b_law_led, PySem.W.mg_of X G hm_law_order, F_law_order, b_law_order, PySem.W.mg_of X G hm_law_bare, F_law_bare, b_law_bare, PySem.W.mg_of X G hm_law_tree, F_law_tree, b_law_tree, PySem.W.mg_of X G hm_law_masks, F_law_masks, b_law_masks, PySem.W.mg_of X G hm_law_held, F_law_held, b_law_held, PySem.W.mg_of X G hm_law_bare_of, F_law_bare_of, b_law_bare_of, PySem.W.mg_of X G hm_law_small, F_law_small, b_law_small, PySem.W.mg_of X G hm_law_is_over, F_law_is_over, b_law_is_over, PySem.W.mg_of X G hm_law_left, F_law_left, b_law_left, PySem.W.mg_of X G hm_law_naming_word, F_law_naming_word, b_law_naming_word, PySem.W.mg_of X G hm_law_depth, F_law_depth, b_law_depth, PySem.W.mg_of X G hm_law_any_naming, F_law_any_naming, b_law_any_naming, PySem.W.mg_of X G hm_law_told_naming, F_law_told_naming, b_law_told_naming, PySem.W.mg_of X G hm_law_spoiled, F_law_spoiled, b_law_spoiled, PySem.W.mg_of X G hm_law_nine, F_law_nine, b_law_nine, PySem.W.mg_of X G hm_law_eight, F_law_eight, b_law_eight, PySem.W.mg_of X G hm_law_refused, F_law_refused, b_law_refused, PySem.W.mg_of X G hm_law_painting, F_law_painting, b_law_painting, PySem.W.mg_of X G hm_law_broken, F_law_broken, b_law_broken, PySem.W.mg_of X G hm_law_painted_eight, F_law_painted_eight, b_law_painted_eight, PySem.W.mg_of X G hm_law_one, F_law_one, b_law_one, PySem.W.mg_of X G hm_law, F_law, b_law, PySem.W.mg_of X G hm_TooMany, ⟨⟨_, _, _, _, _, _, _, _, _, _, _, _, _, _, _, xl_TooMany, xv_TooMany⟩, xs_TooMany, xb_TooMany, xy_TooMany, xk_TooMany⟩, ⟨xg_TooMany, xh_TooMany, xb_TooMany, xd_TooMany⟩, hxi_TooMany, hxt_TooMany, exm_self xb_TooMany xc_TooMany xy_TooMany xz_TooMany, hxn_TooMany_most, F_TooMany___init__, b_TooMany___init__, PySem.W.mg_of X G hm_BadBare, ⟨⟨_, _, _, _, _, _, _, _, _, _, _, _, _, _, _, xl_BadBare, xv_BadBare⟩, xs_BadBare, xb_BadBare, xy_BadBare, xk_BadBare⟩, ⟨xg_BadBare, xh_BadBare, xb_BadBare, xd_BadBare⟩, hxi_BadBare, hxt_BadBare, exm_self xb_BadBare xc_BadBare xy_BadBare xz_BadBare, hxn_BadBare_place, hxn_BadBare_what, F_BadBare___init__, b_BadBare___init__, PySem.W.mg_of X G hm_BadPainting, ⟨⟨_, _, _, _, _, _, _, _, _, _, _, _, _, _, _, xl_BadPainting, xv_BadPainting⟩, xs_BadPainting, xb_BadPainting, xy_BadPainting, xk_BadPainting⟩, ⟨xg_BadPainting, xh_BadPainting, xb_BadPainting, xd_BadPainting⟩, hxi_BadPainting, hxt_BadPainting, exm_self xb_BadPainting xc_BadPainting xy_BadPainting xz_BadPainting, hxn_BadPainting_what, F_BadPainting___init__, b_BadPainting___init__, PySem.W.mg_of X G hm_Bare, F_Bare___init__, b_Bare___init__, F_Bare___len__, b_Bare___len__, hat_Bare___len__, hfn_Bare___len__, F_Bare___eq__, b_Bare___eq__, hat_Bare___eq__, hfn_Bare___eq__, ⟨yc_mk_Bare, ya_Bare, yc_fn_Bare, yc_kp_Bare⟩, ⟨⟨yc_pg_Bare, yc_hd_Bare, yc_po_Bare, yc_sa_Bare⟩, yc_ha_Bare, yc_hn, yc_ht, yc_hm_Bare, yc_me_Bare⟩, hne_Bare, hna_Bare_befores, hna_Bare_end, hna_Bare_afters, hna_Bare_ordered, hna_Bare_needs, ⟨_, PySem.W.mg_of X G hm_MOST_PLACES, ⟨_, rfl⟩⟩, ⟨_, PySem.W.mg_of X G hm_MOST_SEARCHED, ⟨_, rfl⟩⟩, PySem.W.mg_none_of X G hz_ValueError, PySem.W.mg_none_of X G hz_abs, PySem.W.mg_none_of X G hz_all, PySem.W.mg_none_of X G hz_any, PySem.W.mg_none_of X G hz_bool, PySem.W.mg_none_of X G hz_enumerate, PySem.W.mg_none_of X G hz_int, PySem.W.mg_none_of X G hz_isinstance, PySem.W.mg_none_of X G hz_len, PySem.W.mg_none_of X G hz_list, PySem.W.mg_none_of X G hz_max, PySem.W.mg_none_of X G hz_min, PySem.W.mg_none_of X G hz_range, PySem.W.mg_none_of X G hz_set, PySem.W.mg_none_of X G hz_sorted, PySem.W.mg_none_of X G hz_sum, PySem.W.mg_none_of X G hz_tuple⟩
  have Z : Txe K ⟨v_is_whole, (PySem.W.fnOf "is_whole" "is_whole" (defArgs s_is_whole) (defBody s_is_whole) (defScope s_is_whole) .none kV_is_whole dc_is_whole pm_is_whole an_is_whole cd_is_whole ct_is_whole), v_is_within, (PySem.W.fnOf "is_within" "is_within" (defArgs s_is_within) (defBody s_is_within) (defScope s_is_within) .none kV_is_within dc_is_within pm_is_within an_is_within cd_is_within ct_is_within), v_is_sequence, (PySem.W.fnOf "is_sequence" "is_sequence" (defArgs s_is_sequence) (defBody s_is_sequence) (defScope s_is_sequence) .none kV_is_sequence dc_is_sequence pm_is_sequence an_is_sequence cd_is_sequence ct_is_sequence), v_mask_of, (PySem.W.fnOf "mask_of" "mask_of" (defArgs s_mask_of) (defBody s_mask_of) (defScope s_mask_of) .none kV_mask_of dc_mask_of pm_mask_of an_mask_of cd_mask_of ct_mask_of), v_is_place, (PySem.W.fnOf "is_place" "is_place" (defArgs s_is_place) (defBody s_is_place) (defScope s_is_place) .none kV_is_place dc_is_place pm_is_place an_is_place cd_is_place ct_is_place), v_is_before_list, (PySem.W.fnOf "is_before_list" "is_before_list" (defArgs s_is_before_list) (defBody s_is_before_list) (defScope s_is_before_list) .none kV_is_before_list dc_is_before_list pm_is_before_list an_is_before_list cd_is_before_list ct_is_before_list), v_checked_befores, (PySem.W.fnOf "checked_befores" "checked_befores" (defArgs s_checked_befores) (defBody s_checked_befores) (defScope s_checked_befores) .none kV_checked_befores dc_checked_befores pm_checked_befores an_checked_befores cd_checked_befores ct_checked_befores), v_afters_of, (PySem.W.fnOf "afters_of" "afters_of" (defArgs s_afters_of) (defBody s_afters_of) (defScope s_afters_of) .none kV_afters_of dc_afters_of pm_afters_of an_afters_of cd_afters_of ct_afters_of), v_ordered_of, (PySem.W.fnOf "ordered_of" "ordered_of" (defArgs s_ordered_of) (defBody s_ordered_of) (defScope s_ordered_of) .none kV_ordered_of dc_ordered_of pm_ordered_of an_ordered_of cd_ordered_of ct_ordered_of), v_reached_along, (PySem.W.fnOf "reached_along" "reached_along" (defArgs s_reached_along) (defBody s_reached_along) (defScope s_reached_along) (.ref T_reached_along) kV_reached_along dc_reached_along pm_reached_along an_reached_along cd_reached_along ct_reached_along), v_check_rings, (PySem.W.fnOf "check_rings" "check_rings" (defArgs s_check_rings) (defBody s_check_rings) (defScope s_check_rings) .none kV_check_rings dc_check_rings pm_check_rings an_check_rings cd_check_rings ct_check_rings), v_check_roads, (PySem.W.fnOf "check_roads" "check_roads" (defArgs s_check_roads) (defBody s_check_roads) (defScope s_check_roads) .none kV_check_roads dc_check_roads pm_check_roads an_check_roads cd_check_roads ct_check_roads), v_check_small, (PySem.W.fnOf "check_small" "check_small" (defArgs s_check_small) (defBody s_check_small) (defScope s_check_small) .none kV_check_small dc_check_small pm_check_small an_check_small cd_check_small ct_check_small), v_is_unlike, (PySem.W.fnOf "is_unlike" "is_unlike" (defArgs s_is_unlike) (defBody s_is_unlike) (defScope s_is_unlike) .none kV_is_unlike dc_is_unlike pm_is_unlike an_is_unlike cd_is_unlike ct_is_unlike), v_check_painting, (PySem.W.fnOf "check_painting" "check_painting" (defArgs s_check_painting) (defBody s_check_painting) (defScope s_check_painting) .none kV_check_painting dc_check_painting pm_check_painting an_check_painting cd_check_painting ct_check_painting), v_checked_hues, (PySem.W.fnOf "checked_hues" "checked_hues" (defArgs s_checked_hues) (defBody s_checked_hues) (defScope s_checked_hues) .none kV_checked_hues dc_checked_hues pm_checked_hues an_checked_hues cd_checked_hues ct_checked_hues), v_first_hues, (PySem.W.fnOf "first_hues" "first_hues" (defArgs s_first_hues) (defBody s_first_hues) (defScope s_first_hues) .none kV_first_hues dc_first_hues pm_first_hues an_first_hues cd_first_hues ct_first_hues), v_is_painted_over, (PySem.W.fnOf "is_painted_over" "is_painted_over" (defArgs s_is_painted_over) (defBody s_is_painted_over) (defScope s_is_painted_over) .none kV_is_painted_over dc_is_painted_over pm_is_painted_over an_is_painted_over cd_is_painted_over ct_is_painted_over), v_unpainted, (PySem.W.fnOf "unpainted" "unpainted" (defArgs s_unpainted) (defBody s_unpainted) (defScope s_unpainted) .none kV_unpainted dc_unpainted pm_unpainted an_unpainted cd_unpainted ct_unpainted), v_painted, (PySem.W.fnOf "painted" "painted" (defArgs s_painted) (defBody s_painted) (defScope s_painted) .none kV_painted dc_painted pm_painted an_painted cd_painted ct_painted), v_names_behind, (PySem.W.fnOf "names_behind" "names_behind" (defArgs s_names_behind) (defBody s_names_behind) (defScope s_names_behind) .none kV_names_behind dc_names_behind pm_names_behind an_names_behind cd_names_behind ct_names_behind), v_worse_hue, (PySem.W.fnOf "worse_hue" "worse_hue" (defArgs s_worse_hue) (defBody s_worse_hue) (defScope s_worse_hue) .none kV_worse_hue dc_worse_hue pm_worse_hue an_worse_hue cd_worse_hue ct_worse_hue), v_names_left, (PySem.W.fnOf "names_left" "names_left" (defArgs s_names_left) (defBody s_names_left) (defScope s_names_left) .none kV_names_left dc_names_left pm_names_left an_names_left cd_names_left ct_names_left), v_names_of, (PySem.W.fnOf "names_of" "names_of" (defArgs s_names_of) (defBody s_names_of) (defScope s_names_of) .none kV_names_of dc_names_of pm_names_of an_names_of cd_names_of ct_names_of), v_told_hues, (PySem.W.fnOf "told_hues" "told_hues" (defArgs s_told_hues) (defBody s_told_hues) (defScope s_told_hues) .none kV_told_hues dc_told_hues pm_told_hues an_told_hues cd_told_hues ct_told_hues), v_plan_names, (PySem.W.fnOf "plan_names" "plan_names" (defArgs s_plan_names) (defBody s_plan_names) (defScope s_plan_names) .none kV_plan_names dc_plan_names pm_plan_names an_plan_names cd_plan_names ct_plan_names), v_naming_fault, (PySem.W.fnOf "naming_fault" "naming_fault" (defArgs s_naming_fault) (defBody s_naming_fault) (defScope s_naming_fault) (.ref T_naming_fault) kV_naming_fault dc_naming_fault pm_naming_fault an_naming_fault cd_naming_fault ct_naming_fault), v_naming_fault_in, (PySem.W.fnOf "naming_fault_in" "naming_fault_in" (defArgs s_naming_fault_in) (defBody s_naming_fault_in) (defScope s_naming_fault_in) .none kV_naming_fault_in dc_naming_fault_in pm_naming_fault_in an_naming_fault_in cd_naming_fault_in ct_naming_fault_in), v_naming_plan, (PySem.W.fnOf "naming_plan" "naming_plan" (defArgs s_naming_plan) (defBody s_naming_plan) (defScope s_naming_plan) (.ref T_naming_plan) kV_naming_plan dc_naming_plan pm_naming_plan an_naming_plan cd_naming_plan ct_naming_plan), v_naming_in, (PySem.W.fnOf "naming_in" "naming_in" (defArgs s_naming_in) (defBody s_naming_in) (defScope s_naming_in) .none kV_naming_in dc_naming_in pm_naming_in an_naming_in cd_naming_in ct_naming_in), v_law_hand, (PySem.W.fnOf "_law_hand" "_law_hand" (defArgs s_law_hand) (defBody s_law_hand) (defScope s_law_hand) .none kV_law_hand dc_law_hand pm_law_hand an_law_hand cd_law_hand ct_law_hand), v_law_mixed, (PySem.W.fnOf "_law_mixed" "_law_mixed" (defArgs s_law_mixed) (defBody s_law_mixed) (defScope s_law_mixed) .none kV_law_mixed dc_law_mixed pm_law_mixed an_law_mixed cd_law_mixed ct_law_mixed), v_law_take, (PySem.W.fnOf "_law_take" "_law_take" (defArgs s_law_take) (defBody s_law_take) (defScope s_law_take) .none kV_law_take dc_law_take pm_law_take an_law_take cd_law_take ct_law_take), v_law_whole, (PySem.W.fnOf "_law_whole" "_law_whole" (defArgs s_law_whole) (defBody s_law_whole) (defScope s_law_whole) .none kV_law_whole dc_law_whole pm_law_whole an_law_whole cd_law_whole ct_law_whole), v_law_two, (PySem.W.fnOf "_law_two" "_law_two" (defArgs s_law_two) (defBody s_law_two) (defScope s_law_two) .none kV_law_two dc_law_two pm_law_two an_law_two cd_law_two ct_law_two), v_law_led, (PySem.W.fnOf "_law_led" "_law_led" (defArgs s_law_led) (defBody s_law_led) (defScope s_law_led) .none kV_law_led dc_law_led pm_law_led an_law_led cd_law_led ct_law_led), v_law_order, (PySem.W.fnOf "_law_order" "_law_order" (defArgs s_law_order) (defBody s_law_order) (defScope s_law_order) .none kV_law_order dc_law_order pm_law_order an_law_order cd_law_order ct_law_order), v_law_bare, (PySem.W.fnOf "_law_bare" "_law_bare" (defArgs s_law_bare) (defBody s_law_bare) (defScope s_law_bare) .none kV_law_bare dc_law_bare pm_law_bare an_law_bare cd_law_bare ct_law_bare), v_law_tree, (PySem.W.fnOf "_law_tree" "_law_tree" (defArgs s_law_tree) (defBody s_law_tree) (defScope s_law_tree) .none kV_law_tree dc_law_tree pm_law_tree an_law_tree cd_law_tree ct_law_tree), v_law_masks, (PySem.W.fnOf "_law_masks" "_law_masks" (defArgs s_law_masks) (defBody s_law_masks) (defScope s_law_masks) .none kV_law_masks dc_law_masks pm_law_masks an_law_masks cd_law_masks ct_law_masks), v_law_held, (PySem.W.fnOf "_law_held" "_law_held" (defArgs s_law_held) (defBody s_law_held) (defScope s_law_held) .none kV_law_held dc_law_held pm_law_held an_law_held cd_law_held ct_law_held), v_law_bare_of, (PySem.W.fnOf "_law_bare_of" "_law_bare_of" (defArgs s_law_bare_of) (defBody s_law_bare_of) (defScope s_law_bare_of) .none kV_law_bare_of dc_law_bare_of pm_law_bare_of an_law_bare_of cd_law_bare_of ct_law_bare_of), v_law_small, (PySem.W.fnOf "_law_small" "_law_small" (defArgs s_law_small) (defBody s_law_small) (defScope s_law_small) .none kV_law_small dc_law_small pm_law_small an_law_small cd_law_small ct_law_small), v_law_is_over, (PySem.W.fnOf "_law_is_over" "_law_is_over" (defArgs s_law_is_over) (defBody s_law_is_over) (defScope s_law_is_over) .none kV_law_is_over dc_law_is_over pm_law_is_over an_law_is_over cd_law_is_over ct_law_is_over), v_law_left, (PySem.W.fnOf "_law_left" "_law_left" (defArgs s_law_left) (defBody s_law_left) (defScope s_law_left) .none kV_law_left dc_law_left pm_law_left an_law_left cd_law_left ct_law_left), v_law_naming_word, (PySem.W.fnOf "_law_naming_word" "_law_naming_word" (defArgs s_law_naming_word) (defBody s_law_naming_word) (defScope s_law_naming_word) .none kV_law_naming_word dc_law_naming_word pm_law_naming_word an_law_naming_word cd_law_naming_word ct_law_naming_word), v_law_depth, (PySem.W.fnOf "_law_depth" "_law_depth" (defArgs s_law_depth) (defBody s_law_depth) (defScope s_law_depth) .none kV_law_depth dc_law_depth pm_law_depth an_law_depth cd_law_depth ct_law_depth), v_law_any_naming, (PySem.W.fnOf "_law_any_naming" "_law_any_naming" (defArgs s_law_any_naming) (defBody s_law_any_naming) (defScope s_law_any_naming) .none kV_law_any_naming dc_law_any_naming pm_law_any_naming an_law_any_naming cd_law_any_naming ct_law_any_naming), v_law_told_naming, (PySem.W.fnOf "_law_told_naming" "_law_told_naming" (defArgs s_law_told_naming) (defBody s_law_told_naming) (defScope s_law_told_naming) .none kV_law_told_naming dc_law_told_naming pm_law_told_naming an_law_told_naming cd_law_told_naming ct_law_told_naming), v_law_spoiled, (PySem.W.fnOf "_law_spoiled" "_law_spoiled" (defArgs s_law_spoiled) (defBody s_law_spoiled) (defScope s_law_spoiled) .none kV_law_spoiled dc_law_spoiled pm_law_spoiled an_law_spoiled cd_law_spoiled ct_law_spoiled), v_law_nine, (PySem.W.fnOf "_law_nine" "_law_nine" (defArgs s_law_nine) (defBody s_law_nine) (defScope s_law_nine) .none kV_law_nine dc_law_nine pm_law_nine an_law_nine cd_law_nine ct_law_nine), v_law_eight, (PySem.W.fnOf "_law_eight" "_law_eight" (defArgs s_law_eight) (defBody s_law_eight) (defScope s_law_eight) .none kV_law_eight dc_law_eight pm_law_eight an_law_eight cd_law_eight ct_law_eight), v_law_refused, (PySem.W.fnOf "_law_refused" "_law_refused" (defArgs s_law_refused) (defBody s_law_refused) (defScope s_law_refused) .none kV_law_refused dc_law_refused pm_law_refused an_law_refused cd_law_refused ct_law_refused), v_law_painting, (PySem.W.fnOf "_law_painting" "_law_painting" (defArgs s_law_painting) (defBody s_law_painting) (defScope s_law_painting) .none kV_law_painting dc_law_painting pm_law_painting an_law_painting cd_law_painting ct_law_painting), v_law_broken, (PySem.W.fnOf "_law_broken" "_law_broken" (defArgs s_law_broken) (defBody s_law_broken) (defScope s_law_broken) .none kV_law_broken dc_law_broken pm_law_broken an_law_broken cd_law_broken ct_law_broken), v_law_painted_eight, (PySem.W.fnOf "_law_painted_eight" "_law_painted_eight" (defArgs s_law_painted_eight) (defBody s_law_painted_eight) (defScope s_law_painted_eight) .none kV_law_painted_eight dc_law_painted_eight pm_law_painted_eight an_law_painted_eight cd_law_painted_eight ct_law_painted_eight), v_law_one, (PySem.W.fnOf "_law_one" "_law_one" (defArgs s_law_one) (defBody s_law_one) (defScope s_law_one) .none kV_law_one dc_law_one pm_law_one an_law_one cd_law_one ct_law_one), fa, (PySem.W.fnOf "law" "law" (defArgs s_law) (defBody s_law) (defScope s_law) .none kV_law dc_law pm_law an_law cd_law ct_law), u_c_UndoError, w_TooMany, w_BadBare, w_BadPainting, w_Bare, v_TooMany___init__, (PySem.W.fnOf "__init__" "TooMany.__init__" (defArgs s_TooMany___init__) (defBody s_TooMany___init__) (defScope s_TooMany___init__) .none kV_TooMany___init__ dc_TooMany___init__ pm_TooMany___init__ an_TooMany___init__ cd_TooMany___init__ ct_TooMany___init__), v_BadBare___init__, (PySem.W.fnOf "__init__" "BadBare.__init__" (defArgs s_BadBare___init__) (defBody s_BadBare___init__) (defScope s_BadBare___init__) .none kV_BadBare___init__ dc_BadBare___init__ pm_BadBare___init__ an_BadBare___init__ cd_BadBare___init__ ct_BadBare___init__), v_BadPainting___init__, (PySem.W.fnOf "__init__" "BadPainting.__init__" (defArgs s_BadPainting___init__) (defBody s_BadPainting___init__) (defScope s_BadPainting___init__) .none kV_BadPainting___init__ dc_BadPainting___init__ pm_BadPainting___init__ an_BadPainting___init__ cd_BadPainting___init__ ct_BadPainting___init__), v_Bare___init__, (PySem.W.fnOf "__init__" "Bare.__init__" (defArgs s_Bare___init__) (defBody s_Bare___init__) (defScope s_Bare___init__) .none kV_Bare___init__ dc_Bare___init__ pm_Bare___init__ an_Bare___init__ cd_Bare___init__ ct_Bare___init__), v_Bare___len__, (PySem.W.fnOf "__len__" "Bare.__len__" (defArgs s_Bare___len__) (defBody s_Bare___len__) (defScope s_Bare___len__) .none kV_Bare___len__ dc_Bare___len__ pm_Bare___len__ an_Bare___len__ cd_Bare___len__ ct_Bare___len__), v_Bare___eq__, (PySem.W.fnOf "__eq__" "Bare.__eq__" (defArgs s_Bare___eq__) (defBody s_Bare___eq__) (defScope s_Bare___eq__) .none kV_Bare___eq__ dc_Bare___eq__ pm_Bare___eq__ an_Bare___eq__ cd_Bare___eq__ ct_Bare___eq__)⟩ := ⟨exm_no xb_BadPainting xc_BadPainting xy_BadPainting no_TooMany_BadPainting⟩
  exact ⟨(PySem.W.fnOf "law" "law" (defArgs s_law) (defBody s_law) (defScope s_law) .none kV_law dc_law pm_law an_law cd_law ct_law), fun s u => .of_eq rfl, fun base _ _ => ok_law T Z⟩
theorem walk {l : PySem.W.OpenLaw} {q : Program} {loose : List Str} {XP : (Str → Option Value) → Heap → Prop} {YP : World → Heap → Prop} {d : DefRec} {K : Params → PySem.W.Frag} (hn : l.most = some 63) (hdf : d.params.defaults = [])
    (hY : ∀ (w : World) (h : Heap), YP w h → (K w.params).In h)
    (F : ∀ (w : World) (mg : Str → Option Value) (fa : Addr) (h : Heap), (K w.params).In h → h.Ns mainGlobals mg → mg d.name = some (.ref fa) →
      ∃ fd : FuncData, (∀ (s : Shared) (u : Value), BindsTo s fd ⟨[u], []⟩ [("_law_script", u)]) ∧ ∀ base : Heap, (K w.params).In base → base.Ns mainGlobals mg → FnOk l.prog w (K w.params) mg base (L2.CX l.prog w) 38 fa fd ["_law_script"] (spLaw (K w.params))) :
    PySem.W.WalkO q loose XP YP l.row.toRowW d [] (fun f vs => PySem.call f vs) :=
  L2.walk_of (n := 63) (k := 38) (x := "_law_script") (CX := (fun w => L2.CX l.prog w)) (sp := fun w => spLaw (K w.params)) hn (by decide) hdf ⟨rfl, by decide, by decide⟩ hY F (fun _ _ a ns hl _ hS => ⟨a, ns, rfl, hS, hl, fun _ => rfl⟩) fun _ _ _ _ _ ⟨_, _, _, _, _, _, _, _, _, _, _, _, z⟩ => z
end My
open PySem PySem.W PyProof.Rows in
set_option maxRecDepth 100000 in
set_option maxHeartbeats 0 in
theorem PySem.Challenge.cw_undocells_k18_whole_namings_and_naming_p_holds : PySem.Challenge.rw_undocells_k18_whole_namings_and_naming_p.Holds := by
  w_on; o_law; k_head; (case hw => w_witness2)
  k_fill
  refine My.walk (l := PySem.Challenge.rw_undocells_k18_whole_namings_and_naming_p) rfl rfl (fun w h Y => PySem.W.kIn_of Y) ?F
  case F =>
    intro w mg fa h KX G hmg
    refine' My.all_mk KX G hmg ?hm_TooMany ?hm_BadBare ?hm_BadPainting ?hm_Bare ?xl_TooMany ?xv_TooMany ?xs_TooMany ?xg_TooMany ?xh_TooMany ?xk_TooMany ?xb_TooMany ?xy_TooMany ?xd_TooMany ?xc_TooMany ?xz_TooMany ?xl_BadBare ?xv_BadBare ?xs_BadBare ?xg_BadBare ?xh_BadBare ?xk_BadBare ?xb_BadBare ?xy_BadBare ?xd_BadBare ?xc_BadBare ?xz_BadBare ?xl_BadPainting ?xv_BadPainting ?xs_BadPainting ?xg_BadPainting ?xh_BadPainting ?xk_BadPainting ?xb_BadPainting ?xy_BadPainting ?xd_BadPainting ?xc_BadPainting ?xz_BadPainting ?ya_Bare ?hat_Bare___len__ ?hat_Bare___eq__ ?hxi_TooMany ?hxt_TooMany ?hxn_TooMany_most ?hxi_BadBare ?hxt_BadBare ?hxn_BadBare_place ?hxn_BadBare_what ?hxi_BadPainting ?hxt_BadPainting ?hxn_BadPainting_what ?no_TooMany_BadPainting ?hm_is_whole ?hl_is_whole ?hc_is_whole ?hk_is_whole ?hm_is_within ?hl_is_within ?hc_is_within ?hk_is_within ?hm_is_sequence ?hl_is_sequence ?hc_is_sequence ?hk_is_sequence ?hm_mask_of ?hl_mask_of ?hc_mask_of ?hk_mask_of ?hm_is_place ?hl_is_place ?hc_is_place ?hk_is_place ?hm_is_before_list ?hl_is_before_list ?hc_is_before_list ?hk_is_before_list ?hm_checked_befores ?hl_checked_befores ?hc_checked_befores ?hk_checked_befores ?hm_afters_of ?hl_afters_of ?hc_afters_of ?hk_afters_of ?hm_ordered_of ?hl_ordered_of ?hc_ordered_of ?hk_ordered_of ?hm_reached_along ?hl_reached_along ?hc_reached_along ?hk_reached_along ?hm_check_rings ?hl_check_rings ?hc_check_rings ?hk_check_rings ?hm_check_roads ?hl_check_roads ?hc_check_roads ?hk_check_roads ?hm_check_small ?hl_check_small ?hc_check_small ?hk_check_small ?hm_is_unlike ?hl_is_unlike ?hc_is_unlike ?hk_is_unlike ?hm_check_painting ?hl_check_painting ?hc_check_painting ?hk_check_painting ?hm_checked_hues ?hl_checked_hues ?hc_checked_hues ?hk_checked_hues ?hm_first_hues ?hl_first_hues ?hc_first_hues ?hk_first_hues ?hm_is_painted_over ?hl_is_painted_over ?hc_is_painted_over ?hk_is_painted_over ?hm_unpainted ?hl_unpainted ?hc_unpainted ?hk_unpainted ?hm_painted ?hl_painted ?hc_painted ?hk_painted ?hm_names_behind ?hl_names_behind ?hc_names_behind ?hk_names_behind ?hm_worse_hue ?hl_worse_hue ?hc_worse_hue ?hk_worse_hue ?hm_names_left ?hl_names_left ?hc_names_left ?hk_names_left ?hm_names_of ?hl_names_of ?hc_names_of ?hk_names_of ?hm_told_hues ?hl_told_hues ?hc_told_hues ?hk_told_hues ?hm_plan_names ?hl_plan_names ?hc_plan_names ?hk_plan_names ?hm_naming_fault ?hl_naming_fault ?hc_naming_fault ?hk_naming_fault ?hm_naming_fault_in ?hl_naming_fault_in ?hc_naming_fault_in ?hk_naming_fault_in ?hm_naming_plan ?hl_naming_plan ?hc_naming_plan ?hk_naming_plan ?hm_naming_in ?hl_naming_in ?hc_naming_in ?hk_naming_in ?hm_law_hand ?hl_law_hand ?hc_law_hand ?hk_law_hand ?hm_law_mixed ?hl_law_mixed ?hc_law_mixed ?hk_law_mixed ?hm_law_take ?hl_law_take ?hc_law_take ?hk_law_take ?hm_law_whole ?hl_law_whole ?hc_law_whole ?hk_law_whole ?hm_law_two ?hl_law_two ?hc_law_two ?hk_law_two ?hm_law_led ?hl_law_led ?hc_law_led ?hk_law_led ?hm_law_order ?hl_law_order ?hc_law_order ?hk_law_order ?hm_law_bare ?hl_law_bare ?hc_law_bare ?hk_law_bare ?hm_law_tree ?hl_law_tree ?hc_law_tree ?hk_law_tree ?hm_law_masks ?hl_law_masks ?hc_law_masks ?hk_law_masks ?hm_law_held ?hl_law_held ?hc_law_held ?hk_law_held ?hm_law_bare_of ?hl_law_bare_of ?hc_law_bare_of ?hk_law_bare_of ?hm_law_small ?hl_law_small ?hc_law_small ?hk_law_small ?hm_law_is_over ?hl_law_is_over ?hc_law_is_over ?hk_law_is_over ?hm_law_left ?hl_law_left ?hc_law_left ?hk_law_left ?hm_law_naming_word ?hl_law_naming_word ?hc_law_naming_word ?hk_law_naming_word ?hm_law_depth ?hl_law_depth ?hc_law_depth ?hk_law_depth ?hm_law_any_naming ?hl_law_any_naming ?hc_law_any_naming ?hk_law_any_naming ?hm_law_told_naming ?hl_law_told_naming ?hc_law_told_naming ?hk_law_told_naming ?hm_law_spoiled ?hl_law_spoiled ?hc_law_spoiled ?hk_law_spoiled ?hm_law_nine ?hl_law_nine ?hc_law_nine ?hk_law_nine ?hm_law_eight ?hl_law_eight ?hc_law_eight ?hk_law_eight ?hm_law_refused ?hl_law_refused ?hc_law_refused ?hk_law_refused ?hm_law_painting ?hl_law_painting ?hc_law_painting ?hk_law_painting ?hm_law_broken ?hl_law_broken ?hc_law_broken ?hk_law_broken ?hm_law_painted_eight ?hl_law_painted_eight ?hc_law_painted_eight ?hk_law_painted_eight ?hm_law_one ?hl_law_one ?hc_law_one ?hk_law_one ?hm_law ?hl_law ?hc_law ?hk_law ?hl_TooMany___init__ ?hc_TooMany___init__ ?hk_TooMany___init__ ?hl_BadBare___init__ ?hc_BadBare___init__ ?hk_BadBare___init__ ?hl_BadPainting___init__ ?hc_BadPainting___init__ ?hk_BadPainting___init__ ?hl_Bare___init__ ?hc_Bare___init__ ?hk_Bare___init__ ?hl_Bare___len__ ?hc_Bare___len__ ?hk_Bare___len__ ?hl_Bare___eq__ ?hc_Bare___eq__ ?hk_Bare___eq__ ?hm_MOST_PLACES ?hm_MOST_SEARCHED ?hz_ValueError ?hz_abs ?hz_all ?hz_any ?hz_bool ?hz_enumerate ?hz_int ?hz_isinstance ?hz_len ?hz_list ?hz_max ?hz_min ?hz_range ?hz_set ?hz_sorted ?hz_sum ?hz_tuple ?hm_UndoError ?yc_mk_Bare ?yc_fn_Bare ?yc_kp_Bare ?yc_pg_Bare ?yc_hd_Bare ?yc_po_Bare ?yc_sa_Bare ?yc_ha_Bare ?yc_hm_Bare ?yc_me_Bare ?yc_hn ?yc_ht ?hfn_Bare___len__ ?hfn_Bare___eq__ ?hne_Bare ?hna_Bare_befores ?hna_Bare_end ?hna_Bare_afters ?hna_Bare_ordered ?hna_Bare_needs ?dt_reached_along ?dt_naming_fault ?dt_naming_plan ?ti_reached_along ?ti_naming_fault ?ti_naming_plan
    (case hm_TooMany => k_is)
    (case hm_BadBare => k_is)
    (case hm_BadPainting => k_is)
    (case hm_Bare => k_is)
    (case xl_TooMany => k_is)
    (case xv_TooMany => decide +kernel)
    (case xs_TooMany => k_is)
    (case xg_TooMany => k_is)
    (case xh_TooMany => k_is)
    (case xk_TooMany => k_is)
    (case xb_TooMany => k_is)
    (case xy_TooMany => k_is)
    (case xd_TooMany => k_is)
    (case xc_TooMany => k_is)
    (case xz_TooMany => first | rfl | k_is)
    (case xl_BadBare => k_is)
    (case xv_BadBare => decide +kernel)
    (case xs_BadBare => k_is)
    (case xg_BadBare => k_is)
    (case xh_BadBare => k_is)
    (case xk_BadBare => k_is)
    (case xb_BadBare => k_is)
    (case xy_BadBare => k_is)
    (case xd_BadBare => k_is)
    (case xc_BadBare => k_is)
    (case xz_BadBare => first | rfl | k_is)
    (case xl_BadPainting => k_is)
    (case xv_BadPainting => decide +kernel)
    (case xs_BadPainting => k_is)
    (case xg_BadPainting => k_is)
    (case xh_BadPainting => k_is)
    (case xk_BadPainting => k_is)
    (case xb_BadPainting => k_is)
    (case xy_BadPainting => k_is)
    (case xd_BadPainting => k_is)
    (case xc_BadPainting => k_is)
    (case xz_BadPainting => first | rfl | k_is)
    (case ya_Bare => k_is)
    (case hat_Bare___len__ => k_is)
    (case hat_Bare___eq__ => k_is)
    (case hxi_TooMany => k_is)
    (case hxt_TooMany => k_is)
    (case hxn_TooMany_most => k_is)
    (case hxi_BadBare => k_is)
    (case hxt_BadBare => k_is)
    (case hxn_BadBare_place => k_is)
    (case hxn_BadBare_what => k_is)
    (case hxi_BadPainting => k_is)
    (case hxt_BadPainting => k_is)
    (case hxn_BadPainting_what => k_is)
    (case no_TooMany_BadPainting => k_is)
    (case hm_is_whole => k_is)
    (case hl_is_whole => k_is)
    (case hc_is_whole => k_is)
    (case hk_is_whole => k_is)
    (case hm_is_within => k_is)
    (case hl_is_within => k_is)
    (case hc_is_within => k_is)
    (case hk_is_within => k_is)
    (case hm_is_sequence => k_is)
    (case hl_is_sequence => k_is)
    (case hc_is_sequence => k_is)
    (case hk_is_sequence => k_is)
    (case hm_mask_of => k_is)
    (case hl_mask_of => k_is)
    (case hc_mask_of => k_is)
    (case hk_mask_of => k_is)
    (case hm_is_place => k_is)
    (case hl_is_place => k_is)
    (case hc_is_place => k_is)
    (case hk_is_place => k_is)
    (case hm_is_before_list => k_is)
    (case hl_is_before_list => k_is)
    (case hc_is_before_list => k_is)
    (case hk_is_before_list => k_is)
    (case hm_checked_befores => k_is)
    (case hl_checked_befores => k_is)
    (case hc_checked_befores => k_is)
    (case hk_checked_befores => k_is)
    (case hm_afters_of => k_is)
    (case hl_afters_of => k_is)
    (case hc_afters_of => k_is)
    (case hk_afters_of => k_is)
    (case hm_ordered_of => k_is)
    (case hl_ordered_of => k_is)
    (case hc_ordered_of => k_is)
    (case hk_ordered_of => k_is)
    (case hm_reached_along => k_is)
    (case hl_reached_along => k_is)
    (case hc_reached_along => k_is)
    (case hk_reached_along => k_is)
    (case hm_check_rings => k_is)
    (case hl_check_rings => k_is)
    (case hc_check_rings => k_is)
    (case hk_check_rings => k_is)
    (case hm_check_roads => k_is)
    (case hl_check_roads => k_is)
    (case hc_check_roads => k_is)
    (case hk_check_roads => k_is)
    (case hm_check_small => k_is)
    (case hl_check_small => k_is)
    (case hc_check_small => k_is)
    (case hk_check_small => k_is)
    (case hm_is_unlike => k_is)
    (case hl_is_unlike => k_is)
    (case hc_is_unlike => k_is)
    (case hk_is_unlike => k_is)
    (case hm_check_painting => k_is)
    (case hl_check_painting => k_is)
    (case hc_check_painting => k_is)
    (case hk_check_painting => k_is)
    (case hm_checked_hues => k_is)
    (case hl_checked_hues => k_is)
    (case hc_checked_hues => k_is)
    (case hk_checked_hues => k_is)
    (case hm_first_hues => k_is)
    (case hl_first_hues => k_is)
    (case hc_first_hues => k_is)
    (case hk_first_hues => k_is)
    (case hm_is_painted_over => k_is)
    (case hl_is_painted_over => k_is)
    (case hc_is_painted_over => k_is)
    (case hk_is_painted_over => k_is)
    (case hm_unpainted => k_is)
    (case hl_unpainted => k_is)
    (case hc_unpainted => k_is)
    (case hk_unpainted => k_is)
    (case hm_painted => k_is)
    (case hl_painted => k_is)
    (case hc_painted => k_is)
    (case hk_painted => k_is)
    (case hm_names_behind => k_is)
    (case hl_names_behind => k_is)
    (case hc_names_behind => k_is)
    (case hk_names_behind => k_is)
    (case hm_worse_hue => k_is)
    (case hl_worse_hue => k_is)
    (case hc_worse_hue => k_is)
    (case hk_worse_hue => k_is)
    (case hm_names_left => k_is)
    (case hl_names_left => k_is)
    (case hc_names_left => k_is)
    (case hk_names_left => k_is)
    (case hm_names_of => k_is)
    (case hl_names_of => k_is)
    (case hc_names_of => k_is)
    (case hk_names_of => k_is)
    (case hm_told_hues => k_is)
    (case hl_told_hues => k_is)
    (case hc_told_hues => k_is)
    (case hk_told_hues => k_is)
    (case hm_plan_names => k_is)
    (case hl_plan_names => k_is)
    (case hc_plan_names => k_is)
    (case hk_plan_names => k_is)
    (case hm_naming_fault => k_is)
    (case hl_naming_fault => k_is)
    (case hc_naming_fault => k_is)
    (case hk_naming_fault => k_is)
    (case hm_naming_fault_in => k_is)
    (case hl_naming_fault_in => k_is)
    (case hc_naming_fault_in => k_is)
    (case hk_naming_fault_in => k_is)
    (case hm_naming_plan => k_is)
    (case hl_naming_plan => k_is)
    (case hc_naming_plan => k_is)
    (case hk_naming_plan => k_is)
    (case hm_naming_in => k_is)
    (case hl_naming_in => k_is)
    (case hc_naming_in => k_is)
    (case hk_naming_in => k_is)
    (case hm_law_hand => k_is)
    (case hl_law_hand => k_is)
    (case hc_law_hand => k_is)
    (case hk_law_hand => k_is)
    (case hm_law_mixed => k_is)
    (case hl_law_mixed => k_is)
    (case hc_law_mixed => k_is)
    (case hk_law_mixed => k_is)
    (case hm_law_take => k_is)
    (case hl_law_take => k_is)
    (case hc_law_take => k_is)
    (case hk_law_take => k_is)
    (case hm_law_whole => k_is)
    (case hl_law_whole => k_is)
    (case hc_law_whole => k_is)
    (case hk_law_whole => k_is)
    (case hm_law_two => k_is)
    (case hl_law_two => k_is)
    (case hc_law_two => k_is)
    (case hk_law_two => k_is)
    (case hm_law_led => k_is)
    (case hl_law_led => k_is)
    (case hc_law_led => k_is)
    (case hk_law_led => k_is)
    (case hm_law_order => k_is)
    (case hl_law_order => k_is)
    (case hc_law_order => k_is)
    (case hk_law_order => k_is)
    (case hm_law_bare => k_is)
    (case hl_law_bare => k_is)
    (case hc_law_bare => k_is)
    (case hk_law_bare => k_is)
    (case hm_law_tree => k_is)
    (case hl_law_tree => k_is)
    (case hc_law_tree => k_is)
    (case hk_law_tree => k_is)
    (case hm_law_masks => k_is)
    (case hl_law_masks => k_is)
    (case hc_law_masks => k_is)
    (case hk_law_masks => k_is)
    (case hm_law_held => k_is)
    (case hl_law_held => k_is)
    (case hc_law_held => k_is)
    (case hk_law_held => k_is)
    (case hm_law_bare_of => k_is)
    (case hl_law_bare_of => k_is)
    (case hc_law_bare_of => k_is)
    (case hk_law_bare_of => k_is)
    (case hm_law_small => k_is)
    (case hl_law_small => k_is)
    (case hc_law_small => k_is)
    (case hk_law_small => k_is)
    (case hm_law_is_over => k_is)
    (case hl_law_is_over => k_is)
    (case hc_law_is_over => k_is)
    (case hk_law_is_over => k_is)
    (case hm_law_left => k_is)
    (case hl_law_left => k_is)
    (case hc_law_left => k_is)
    (case hk_law_left => k_is)
    (case hm_law_naming_word => k_is)
    (case hl_law_naming_word => k_is)
    (case hc_law_naming_word => k_is)
    (case hk_law_naming_word => k_is)
    (case hm_law_depth => k_is)
    (case hl_law_depth => k_is)
    (case hc_law_depth => k_is)
    (case hk_law_depth => k_is)
    (case hm_law_any_naming => k_is)
    (case hl_law_any_naming => k_is)
    (case hc_law_any_naming => k_is)
    (case hk_law_any_naming => k_is)
    (case hm_law_told_naming => k_is)
    (case hl_law_told_naming => k_is)
    (case hc_law_told_naming => k_is)
    (case hk_law_told_naming => k_is)
    (case hm_law_spoiled => k_is)
    (case hl_law_spoiled => k_is)
    (case hc_law_spoiled => k_is)
    (case hk_law_spoiled => k_is)
    (case hm_law_nine => k_is)
    (case hl_law_nine => k_is)
    (case hc_law_nine => k_is)
    (case hk_law_nine => k_is)
    (case hm_law_eight => k_is)
    (case hl_law_eight => k_is)
    (case hc_law_eight => k_is)
    (case hk_law_eight => k_is)
    (case hm_law_refused => k_is)
    (case hl_law_refused => k_is)
    (case hc_law_refused => k_is)
    (case hk_law_refused => k_is)
    (case hm_law_painting => k_is)
    (case hl_law_painting => k_is)
    (case hc_law_painting => k_is)
    (case hk_law_painting => k_is)
    (case hm_law_broken => k_is)
    (case hl_law_broken => k_is)
    (case hc_law_broken => k_is)
    (case hk_law_broken => k_is)
    (case hm_law_painted_eight => k_is)
    (case hl_law_painted_eight => k_is)
    (case hc_law_painted_eight => k_is)
    (case hk_law_painted_eight => k_is)
    (case hm_law_one => k_is)
    (case hl_law_one => k_is)
    (case hc_law_one => k_is)
    (case hk_law_one => k_is)
    (case hm_law => k_is)
    (case hl_law => k_is)
    (case hc_law => k_is)
    (case hk_law => k_is)
    (case hl_TooMany___init__ => k_is)
    (case hc_TooMany___init__ => k_is)
    (case hk_TooMany___init__ => k_is)
    (case hl_BadBare___init__ => k_is)
    (case hc_BadBare___init__ => k_is)
    (case hk_BadBare___init__ => k_is)
    (case hl_BadPainting___init__ => k_is)
    (case hc_BadPainting___init__ => k_is)
    (case hk_BadPainting___init__ => k_is)
    (case hl_Bare___init__ => k_is)
    (case hc_Bare___init__ => k_is)
    (case hk_Bare___init__ => k_is)
    (case hl_Bare___len__ => k_is)
    (case hc_Bare___len__ => k_is)
    (case hk_Bare___len__ => k_is)
    (case hl_Bare___eq__ => k_is)
    (case hc_Bare___eq__ => k_is)
    (case hk_Bare___eq__ => k_is)
    (case hm_MOST_PLACES => k_is)
    (case hm_MOST_SEARCHED => k_is)
    (case hz_ValueError => k_is)
    (case hz_abs => k_is)
    (case hz_all => k_is)
    (case hz_any => k_is)
    (case hz_bool => k_is)
    (case hz_enumerate => k_is)
    (case hz_int => k_is)
    (case hz_isinstance => k_is)
    (case hz_len => k_is)
    (case hz_list => k_is)
    (case hz_max => k_is)
    (case hz_min => k_is)
    (case hz_range => k_is)
    (case hz_set => k_is)
    (case hz_sorted => k_is)
    (case hz_sum => k_is)
    (case hz_tuple => k_is)
    (case hm_UndoError => k_is)
    (case yc_mk_Bare => first | k_is | rfl | decide)
    (case yc_fn_Bare => first | k_is | rfl | decide)
    (case yc_kp_Bare => first | k_is | rfl | decide)
    (case yc_pg_Bare => first | k_is | rfl | decide)
    (case yc_hd_Bare => first | k_is | rfl | decide)
    (case yc_po_Bare => first | k_is | rfl | decide)
    (case yc_sa_Bare => first | k_is | rfl | decide)
    (case yc_ha_Bare => first | k_is | rfl | decide)
    (case yc_hm_Bare => first | k_is | rfl | decide)
    (case yc_me_Bare => first | k_is | rfl | decide)
    (case yc_hn => first | k_is | rfl | decide)
    (case yc_ht => first | k_is | rfl | decide)
    (case hfn_Bare___len__ => k_is)
    (case hfn_Bare___eq__ => k_is)
    (case hne_Bare => k_is)
    (case hna_Bare_befores => k_is)
    (case hna_Bare_end => k_is)
    (case hna_Bare_afters => k_is)
    (case hna_Bare_ordered => k_is)
    (case hna_Bare_needs => k_is)
    (case dt_reached_along => k_is)
    (case dt_naming_fault => k_is)
    (case dt_naming_plan => k_is)
    (case ti_reached_along => decide +kernel)
    (case ti_naming_fault => decide +kernel)
    (case ti_naming_plan => decide +kernel)
#print axioms PySem.Challenge.cw_undocells_k18_whole_namings_and_naming_p_holds
