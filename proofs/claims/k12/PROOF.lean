import PyProof.Rows.All
import Wide.All
import OpenK.AllK
import Wide.FinOn
import HandS.ForMost
import HandS.Exc
import HandS.TryOnly
import HandS.ExcOwn
import HandS.WordsExc
import HandS.ExcInit
import HandS.ExcField
import HandS.IsInst
import HandS.Evl
import HandS.Deep
import HandS.WideBits
import HandS.Codes
import HandS.Conv
import HandS.Dict
import HandS.Small
import HandS.More
import HandS.Property
import HandS.OwnEq
import HandS.SetKeys
import HandS.Defaults
import HandS.RaiseFrom
import HandS.SuiteRaise
import HandS.Set
import HandS.SetIn
import HandS.Style
import HandS.OwnIter
import HandS.Iter
import HandS.IterVal
import HandS.TupMul
import HandS.Sort
import HandS.SortInts
import HandS.SortOrd
import KE.GoesEnum
import KE.GoesMore
import HandS.DictTup
import HandS.List
import PySem.Challenge.RW_undocells_k12_ways_and_prices
import HandS.ExcCtx
import HandS.Hot
import HandS.HotCalls
import HandS.SetFor
import HandS.Strs
import PyProof.SetRoads
import HandS.Text
import PyProof.AutoSeq1
import HandS.EndTab
import HandS.Lambda
import KE.KNestM
import KE.IntBitsLaws
import KE.SortKeyHeap
import KE.KSortKey
import HandS.ExcIs
set_option Elab.async false
set_option linter.all false
set_option maxRecDepth 100000
set_option maxHeartbeats 4000000
namespace My
open PySem PySem.Spec PyProof.Rows L2
def top (i : Nat) : Stmt := PySem.Challenge.pw_undocells_k12_ways_and_prices.main.body.getD i (.Pass ⟨0, 0, 0, 0⟩)
abbrev s_is_whole : Stmt := top 1
theorem sc_is_whole : FnScope ["thing"] ["thing"] (defScope s_is_whole) := ⟨rfl, rfl, rfl, by decide +kernel, rfl, by decide +kernel, by decide +kernel⟩
abbrev s_is_within : Stmt := top 2
theorem sc_is_within : FnScope ["thing", "least", "most"] ["thing", "least", "most"] (defScope s_is_within) := ⟨rfl, rfl, rfl, by decide +kernel, rfl, by decide +kernel, by decide +kernel⟩
abbrev s_is_sequence : Stmt := top 3
theorem sc_is_sequence : FnScope ["thing"] ["thing"] (defScope s_is_sequence) := ⟨rfl, rfl, rfl, by decide +kernel, rfl, by decide +kernel, by decide +kernel⟩
abbrev s_mask_of : Stmt := top 4
theorem sc_mask_of : FnScope ["places", "mask", "place"] ["places"] (defScope s_mask_of) := ⟨rfl, rfl, rfl, by decide +kernel, rfl, by decide +kernel, by decide +kernel⟩
abbrev s_places_in : Stmt := top 5
theorem sc_places_in : FnScope ["mask", "place"] ["mask"] (defScope s_places_in) := ⟨rfl, rfl, rfl, by decide +kernel, rfl, by decide +kernel, by decide +kernel⟩
abbrev s_is_place : Stmt := top 15
theorem sc_is_place : FnScope ["bare", "thing"] ["bare", "thing"] (defScope s_is_place) := ⟨rfl, rfl, rfl, by decide +kernel, rfl, by decide +kernel, by decide +kernel⟩
abbrev s_check_places : Stmt := top 16
theorem sc_check_places : FnScope ["bare", "places", "found", "index", "place"] ["bare", "places"] (defScope s_check_places) := ⟨rfl, rfl, rfl, by decide +kernel, rfl, by decide +kernel, by decide +kernel⟩
abbrev s_is_before_list : Stmt := top 17
theorem sc_is_before_list : FnScope ["thing", "place", "many", "before"] ["thing", "place", "many"] (defScope s_is_before_list) := ⟨rfl, rfl, rfl, by decide +kernel, rfl, by decide +kernel, by decide +kernel⟩
abbrev s_checked_befores : Stmt := top 18
theorem sc_checked_befores : FnScope ["befores", "place", "listed"] ["befores"] (defScope s_checked_befores) := ⟨rfl, rfl, rfl, by decide +kernel, rfl, by decide +kernel, by decide +kernel⟩
abbrev s_afters_of : Stmt := top 19
theorem sc_afters_of : FnScope ["befores", "afters", "place", "listed", "before", "_"] ["befores"] (defScope s_afters_of) := ⟨rfl, rfl, rfl, by decide +kernel, rfl, by decide +kernel, by decide +kernel⟩
abbrev s_ordered_of : Stmt := top 20
theorem sc_ordered_of : FnScope ["befores", "afters", "missing", "ready", "ordered", "lowest", "place", "after", "listed", "many"] ["befores", "afters"] (defScope s_ordered_of) := ⟨rfl, rfl, rfl, by decide +kernel, rfl, by decide +kernel, by decide +kernel⟩
abbrev s_reached_along : Stmt := top 21
theorem sc_reached_along : FnScope ["arrows", "place", "barred", "reached", "waiting", "found"] ["arrows", "place", "barred"] (defScope s_reached_along) := ⟨rfl, rfl, rfl, by decide +kernel, rfl, by decide +kernel, by decide +kernel⟩
abbrev s_check_rings : Stmt := top 22
theorem sc_check_rings : FnScope ["befores", "place"] ["befores"] (defScope s_check_rings) := ⟨rfl, rfl, rfl, by decide +kernel, rfl, by decide +kernel, by decide +kernel⟩
abbrev s_check_roads : Stmt := top 23
theorem sc_check_roads : FnScope ["befores", "end", "reached", "place"] ["befores", "end"] (defScope s_check_roads) := ⟨rfl, rfl, rfl, by decide +kernel, rfl, by decide +kernel, by decide +kernel⟩
abbrev s_check_room : Stmt := top 27
theorem sc_check_room : FnScope ["room"] ["room"] (defScope s_check_room) := ⟨rfl, rfl, rfl, by decide +kernel, rfl, by decide +kernel, by decide +kernel⟩
abbrev s_check_small : Stmt := top 30
theorem sc_check_small : FnScope ["bare"] ["bare"] (defScope s_check_small) := ⟨rfl, rfl, rfl, by decide +kernel, rfl, by decide +kernel, by decide +kernel⟩
abbrev s_moves_at : Stmt := top 31
theorem sc_moves_at : FnScope ["bare", "standing", "many", "room", "found", "place", "need", "after"] ["bare", "standing", "many", "room"] (defScope s_moves_at) := ⟨rfl, rfl, rfl, by decide +kernel, rfl, by decide +kernel, by decide +kernel⟩
abbrev s_distances_from : Stmt := top 32
theorem sc_distances_from : FnScope ["bare", "room", "start", "counts", "distances", "waiting", "at", "standing", "_", "after"] ["bare", "room", "start"] (defScope s_distances_from) := ⟨rfl, rfl, rfl, by decide +kernel, rfl, by decide +kernel, by decide +kernel⟩
abbrev s_reached_standings : Stmt := top 33
theorem sc_reached_standings : FnScope ["bare", "room", "standings", "standing"] ["bare", "room"] (defScope s_reached_standings) := ⟨rfl, rfl, rfl, by decide +kernel, rfl, by decide +kernel, by decide +kernel⟩
abbrev s_least_way : Stmt := top 34
theorem sc_least_way : FnScope ["bare", "room", "first", "last", "start", "goal", "way"] ["bare", "room", "first", "last"] (defScope s_least_way) := ⟨rfl, rfl, rfl, by decide +kernel, rfl, by decide +kernel, by decide +kernel⟩
abbrev s_way_between : Stmt := top 35
theorem sc_way_between : FnScope ["bare", "room", "start", "goal", "distances", "way", "standing", "nearer", "place", "move"] ["bare", "room", "start", "goal"] (defScope s_way_between) := ⟨rfl, rfl, rfl, by decide +kernel, rfl, by decide +kernel, by decide +kernel⟩
abbrev s_least_room : Stmt := top 36
theorem sc_least_room : FnScope ["bare", "is_wanted", "room", "standing"] ["bare", "is_wanted"] (defScope s_least_room) := ⟨rfl, rfl, rfl, by decide +kernel, rfl, by decide +kernel, by decide +kernel⟩
abbrev s_price_of : Stmt := top 37
theorem sc_price_of : FnScope ["bare"] ["bare"] (defScope s_price_of) := ⟨rfl, rfl, rfl, by decide +kernel, rfl, by decide +kernel, by decide +kernel⟩
abbrev s_shown_price_of : Stmt := top 38
theorem sc_shown_price_of : FnScope ["bare"] ["bare"] (defScope s_shown_price_of) := ⟨rfl, rfl, rfl, by decide +kernel, rfl, by decide +kernel, by decide +kernel⟩
abbrev s_ready_price_of : Stmt := top 39
theorem sc_ready_price_of : FnScope ["bare", "need"] ["bare"] (defScope s_ready_price_of) := ⟨rfl, rfl, rfl, by decide +kernel, rfl, by decide +kernel, by decide +kernel⟩
abbrev s_law_hand : Stmt := top 41
theorem sc_law_hand : FnScope ["_law_script", "_law_total", "_law_cells", "_law_cell"] ["_law_script"] (defScope s_law_hand) := ⟨rfl, rfl, rfl, by decide +kernel, rfl, by decide +kernel, by decide +kernel⟩
abbrev s_law_mixed : Stmt := top 42
theorem sc_law_mixed : FnScope ["_law_number", "_law_turn", "_law_once", "_law_twice"] ["_law_number", "_law_turn"] (defScope s_law_mixed) := ⟨rfl, rfl, rfl, by decide +kernel, rfl, by decide +kernel, by decide +kernel⟩
abbrev s_law_take : Stmt := top 43
theorem sc_law_take : FnScope ["_law_hand_here", "_law_many", "_law_cell", "_law_rest"] ["_law_hand_here", "_law_many"] (defScope s_law_take) := ⟨rfl, rfl, rfl, by decide +kernel, rfl, by decide +kernel, by decide +kernel⟩
abbrev s_law_whole : Stmt := top 44
theorem sc_law_whole : FnScope ["_law_thing"] ["_law_thing"] (defScope s_law_whole) := ⟨rfl, rfl, rfl, by decide +kernel, rfl, by decide +kernel, by decide +kernel⟩
abbrev s_law_two : Stmt := top 45
theorem sc_law_two : FnScope ["_law_n", "_law_total", "_law_k"] ["_law_n"] (defScope s_law_two) := ⟨rfl, rfl, rfl, by decide +kernel, rfl, by decide +kernel, by decide +kernel⟩
abbrev s_law_led : Stmt := top 46
theorem sc_law_led : FnScope ["_law_befores", "_law_places_here", "_law_told", "_law_place", "_law_before"] ["_law_befores", "_law_places_here"] (defScope s_law_led) := ⟨rfl, rfl, rfl, by decide +kernel, rfl, by decide +kernel, by decide +kernel⟩
abbrev s_law_order : Stmt := top 47
theorem sc_law_order : FnScope ["_law_hand_here", "_law_many", "_law_left", "_law_told", "_law_k"] ["_law_hand_here", "_law_many"] (defScope s_law_order) := ⟨rfl, rfl, rfl, by decide +kernel, rfl, by decide +kernel, by decide +kernel⟩
abbrev s_law_bare : Stmt := top 48
theorem sc_law_bare : FnScope ["_law_hand_here", "_law_many", "_law_share", "_law_mixed_here", "_law_befores", "_law_place", "_law_later", "_law_places_here", "_law_before"] ["_law_hand_here", "_law_many", "_law_share", "_law_mixed_here"] (defScope s_law_bare) := ⟨rfl, rfl, rfl, by decide +kernel, rfl, by decide +kernel, by decide +kernel⟩
abbrev s_law_tree : Stmt := top 49
theorem sc_law_tree : FnScope ["_law_hand_here", "_law_many", "_law_mixed_here", "_law_befores", "_law_place", "_law_places_here"] ["_law_hand_here", "_law_many", "_law_mixed_here"] (defScope s_law_tree) := ⟨rfl, rfl, rfl, by decide +kernel, rfl, by decide +kernel, by decide +kernel⟩
abbrev s_law_masks : Stmt := top 50
theorem sc_law_masks : FnScope ["_law_befores", "_law_row", "_law_before"] ["_law_befores"] (defScope s_law_masks) := ⟨rfl, rfl, rfl, by decide +kernel, rfl, by decide +kernel, by decide +kernel⟩
abbrev s_law_filled : Stmt := top 51
theorem sc_law_filled : FnScope ["_law_mask", "_law_many", "_law_place"] ["_law_mask", "_law_many"] (defScope s_law_filled) := ⟨rfl, rfl, rfl, by decide +kernel, rfl, by decide +kernel, by decide +kernel⟩
abbrev s_law_held : Stmt := top 52
theorem sc_law_held : FnScope ["_law_mask", "_law_part"] ["_law_mask", "_law_part"] (defScope s_law_held) := ⟨rfl, rfl, rfl, by decide +kernel, rfl, by decide +kernel, by decide +kernel⟩
abbrev s_law_reach : Stmt := top 53
theorem sc_law_reach : FnScope ["_law_befores", "_law_room", "_law_start", "_law_masks_here", "_law_many", "_law_far", "_law_todo", "_law_k", "_law_mask", "_law_place", "_law_other"] ["_law_befores", "_law_room", "_law_start"] (defScope s_law_reach) := ⟨rfl, rfl, rfl, by decide +kernel, rfl, by decide +kernel, by decide +kernel⟩
abbrev s_law_price : Stmt := top 54
theorem sc_law_price : FnScope ["_law_befores", "_law_end", "_law_room"] ["_law_befores", "_law_end"] (defScope s_law_price) := ⟨rfl, rfl, rfl, by decide +kernel, rfl, by decide +kernel, by decide +kernel⟩
abbrev s_law_small_size : Stmt := top 55
theorem sc_law_small_size : FnScope ["_law_hand_here", "_law_at"] ["_law_hand_here"] (defScope s_law_small_size) := ⟨rfl, rfl, rfl, by decide +kernel, rfl, by decide +kernel, by decide +kernel⟩
abbrev s_law_any_bare : Stmt := top 56
theorem sc_law_any_bare : FnScope ["_law_hand_here", "_law_many", "_law_mixed_here"] ["_law_hand_here", "_law_many"] (defScope s_law_any_bare) := ⟨rfl, rfl, rfl, by decide +kernel, rfl, by decide +kernel, by decide +kernel⟩
abbrev s_law_copied : Stmt := top 57
theorem sc_law_copied : FnScope ["_law_rows", "_law_row"] ["_law_rows"] (defScope s_law_copied) := ⟨rfl, rfl, rfl, by decide +kernel, rfl, by decide +kernel, by decide +kernel⟩
abbrev s_law_places : Stmt := top 58
theorem sc_law_places : FnScope ["_law_thing", "_law_part"] ["_law_thing"] (defScope s_law_places) := ⟨rfl, rfl, rfl, by decide +kernel, rfl, by decide +kernel, by decide +kernel⟩
abbrev s_law_listed : Stmt := top 59
theorem sc_law_listed : FnScope ["_law_masks_here", "_law_many", "_law_filled_here", "_law_mask", "_law_part", "_law_places_here"] ["_law_masks_here", "_law_many"] (defScope s_law_listed) := ⟨rfl, rfl, rfl, by decide +kernel, rfl, by decide +kernel, by decide +kernel⟩
abbrev s_law_least_way : Stmt := top 60
theorem sc_law_least_way : FnScope ["_law_befores", "_law_room", "_law_first", "_law_last", "_law_many", "_law_far", "_law_masks_here", "_law_row", "_law_mask", "_law_k", "_law_place", "_law_other"] ["_law_befores", "_law_room", "_law_first", "_law_last"] (defScope s_law_least_way) := ⟨rfl, rfl, rfl, by decide +kernel, rfl, by decide +kernel, by decide +kernel⟩
abbrev s_law_room_for : Stmt := top 61
theorem sc_law_room_for : FnScope ["_law_befores", "_law_wanted", "_law_room", "_law_mask"] ["_law_befores", "_law_wanted"] (defScope s_law_room_for) := ⟨rfl, rfl, rfl, by decide +kernel, rfl, by decide +kernel, by decide +kernel⟩
abbrev s_law_shuffled : Stmt := top 62
theorem sc_law_shuffled : FnScope ["_law_hand_here", "_law_things", "_law_at"] ["_law_hand_here", "_law_things"] (defScope s_law_shuffled) := ⟨rfl, rfl, rfl, by decide +kernel, rfl, by decide +kernel, by decide +kernel⟩
abbrev s_law_way_told : Stmt := top 63
theorem sc_law_way_told : FnScope ["_law_bare_here", "_law_room", "_law_first", "_law_last", "_law_told", "e"] ["_law_bare_here", "_law_room", "_law_first", "_law_last"] (defScope s_law_way_told) := ⟨rfl, rfl, rfl, by decide +kernel, rfl, by decide +kernel, by decide +kernel⟩
abbrev s_law_great_refused : Stmt := top 64
theorem sc_law_great_refused : FnScope ["_law_which", "_law_bare_here", "e"] ["_law_which", "_law_bare_here"] (defScope s_law_great_refused) := ⟨rfl, rfl, rfl, by decide +kernel, rfl, by decide +kernel, by decide +kernel⟩
abbrev s_law_spoilt : Stmt := top 65
theorem sc_law_spoilt : FnScope ["_law_hand_here", "_law_places_here", "_law_many", "_law_at", "_law_odd"] ["_law_hand_here", "_law_places_here", "_law_many"] (defScope s_law_spoilt) := ⟨rfl, rfl, rfl, by decide +kernel, rfl, by decide +kernel, by decide +kernel⟩
abbrev s_law_refusals : Stmt := top 66
theorem sc_law_refusals : FnScope ["_law_hand_here", "_law_bare_here", "_law_many", "_law_first", "_law_last", "_law_odd_room", "_law_wrong", "_law_index", "_law_chain", "_law_place"] ["_law_hand_here", "_law_bare_here", "_law_many", "_law_first", "_law_last"] (defScope s_law_refusals) := ⟨rfl, rfl, rfl, by decide +kernel, rfl, by decide +kernel, by decide +kernel⟩
abbrev s_law_prices : Stmt := top 67
theorem sc_law_prices : FnScope ["_law_befores", "_law_end", "_law_bare_here", "_law_price_here", "_law_ready", "_law_shown", "_law_told"] ["_law_befores", "_law_end", "_law_bare_here"] (defScope s_law_prices) := ⟨rfl, rfl, rfl, by decide +kernel, rfl, by decide +kernel, by decide +kernel⟩
abbrev s_law : Stmt := top 68
theorem sc_law : FnScope ["_law_script", "_law_hand_here", "_law_many", "_law_befores", "_law_end", "_law_bare_here", "_law_room", "_law_reached", "_law_told", "_law_places_here", "_law_turn", "_law_masks_here", "_law_due", "_law_way", "_law_back", "_law_standing", "_law_k", "_law_mask"] ["_law_script"] (defScope s_law) := ⟨rfl, rfl, rfl, by decide +kernel, rfl, by decide +kernel, by decide +kernel⟩
abbrev s_TooMany___init__ : Stmt := inClass (top 8) 0
theorem sc_TooMany___init__ : FnScope ["self", "most"] ["self", "most"] (defScope s_TooMany___init__) := ⟨rfl, rfl, rfl, by decide +kernel, rfl, by decide +kernel, by decide +kernel⟩
abbrev s_BadBare___init__ : Stmt := inClass (top 9) 0
theorem sc_BadBare___init__ : FnScope ["self", "place", "what"] ["self", "place", "what"] (defScope s_BadBare___init__) := ⟨rfl, rfl, rfl, by decide +kernel, rfl, by decide +kernel, by decide +kernel⟩
abbrev s_BadPlaces___init__ : Stmt := inClass (top 10) 0
theorem sc_BadPlaces___init__ : FnScope ["self", "index"] ["self", "index"] (defScope s_BadPlaces___init__) := ⟨rfl, rfl, rfl, by decide +kernel, rfl, by decide +kernel, by decide +kernel⟩
abbrev s_Bare___init__ : Stmt := inClass (top 24) 0
theorem sc_Bare___init__ : FnScope ["self", "befores", "end", "listed"] ["self", "befores", "end"] (defScope s_Bare___init__) := ⟨rfl, rfl, rfl, by decide +kernel, rfl, by decide +kernel, by decide +kernel⟩
abbrev s_Bare___len__ : Stmt := inClass (top 24) 1
theorem sc_Bare___len__ : FnScope ["self"] ["self"] (defScope s_Bare___len__) := ⟨rfl, rfl, rfl, by decide +kernel, rfl, by decide +kernel, by decide +kernel⟩
abbrev s_Bare___eq__ : Stmt := inClass (top 24) 2
theorem sc_Bare___eq__ : FnScope ["self", "other"] ["self", "other"] (defScope s_Bare___eq__) := ⟨rfl, rfl, rfl, by decide +kernel, rfl, by decide +kernel, by decide +kernel⟩
structure Ad where
  f_is_whole : Addr
  d_is_whole : FuncData
  f_is_within : Addr
  d_is_within : FuncData
  f_is_sequence : Addr
  d_is_sequence : FuncData
  f_mask_of : Addr
  d_mask_of : FuncData
  f_places_in : Addr
  d_places_in : FuncData
  f_is_place : Addr
  d_is_place : FuncData
  f_check_places : Addr
  d_check_places : FuncData
  f_is_before_list : Addr
  d_is_before_list : FuncData
  f_checked_befores : Addr
  d_checked_befores : FuncData
  f_afters_of : Addr
  d_afters_of : FuncData
  f_ordered_of : Addr
  d_ordered_of : FuncData
  f_reached_along : Addr
  d_reached_along : FuncData
  f_check_rings : Addr
  d_check_rings : FuncData
  f_check_roads : Addr
  d_check_roads : FuncData
  f_check_room : Addr
  d_check_room : FuncData
  f_check_small : Addr
  d_check_small : FuncData
  f_moves_at : Addr
  d_moves_at : FuncData
  f_distances_from : Addr
  d_distances_from : FuncData
  f_reached_standings : Addr
  d_reached_standings : FuncData
  f_least_way : Addr
  d_least_way : FuncData
  f_way_between : Addr
  d_way_between : FuncData
  f_least_room : Addr
  d_least_room : FuncData
  f_price_of : Addr
  d_price_of : FuncData
  f_shown_price_of : Addr
  d_shown_price_of : FuncData
  f_ready_price_of : Addr
  d_ready_price_of : FuncData
  f_law_hand : Addr
  d_law_hand : FuncData
  f_law_mixed : Addr
  d_law_mixed : FuncData
  f_law_take : Addr
  d_law_take : FuncData
  f_law_whole : Addr
  d_law_whole : FuncData
  f_law_two : Addr
  d_law_two : FuncData
  f_law_led : Addr
  d_law_led : FuncData
  f_law_order : Addr
  d_law_order : FuncData
  f_law_bare : Addr
  d_law_bare : FuncData
  f_law_tree : Addr
  d_law_tree : FuncData
  f_law_masks : Addr
  d_law_masks : FuncData
  f_law_filled : Addr
  d_law_filled : FuncData
  f_law_held : Addr
  d_law_held : FuncData
  f_law_reach : Addr
  d_law_reach : FuncData
  f_law_price : Addr
  d_law_price : FuncData
  f_law_small_size : Addr
  d_law_small_size : FuncData
  f_law_any_bare : Addr
  d_law_any_bare : FuncData
  f_law_copied : Addr
  d_law_copied : FuncData
  f_law_places : Addr
  d_law_places : FuncData
  f_law_listed : Addr
  d_law_listed : FuncData
  f_law_least_way : Addr
  d_law_least_way : FuncData
  f_law_room_for : Addr
  d_law_room_for : FuncData
  f_law_shuffled : Addr
  d_law_shuffled : FuncData
  f_law_way_told : Addr
  d_law_way_told : FuncData
  f_law_great_refused : Addr
  d_law_great_refused : FuncData
  f_law_spoilt : Addr
  d_law_spoilt : FuncData
  f_law_refusals : Addr
  d_law_refusals : FuncData
  f_law_prices : Addr
  d_law_prices : FuncData
  f_law : Addr
  d_law : FuncData
  c_UndoError : Addr
  c_TooMany : Addr
  c_BadBare : Addr
  c_BadPlaces : Addr
  c_BadRoom : Addr
  c_NoWay : Addr
  c_Bare : Addr
  f_TooMany___init__ : Addr
  d_TooMany___init__ : FuncData
  f_BadBare___init__ : Addr
  d_BadBare___init__ : FuncData
  f_BadPlaces___init__ : Addr
  d_BadPlaces___init__ : FuncData
  f_Bare___init__ : Addr
  d_Bare___init__ : FuncData
  f_Bare___len__ : Addr
  d_Bare___len__ : FuncData
  f_Bare___eq__ : Addr
  d_Bare___eq__ : FuncData
structure Txt (K : PySem.W.Frag) (mg : Str → Option Value) (a : Ad) : Prop where
  m_is_whole : mg "is_whole" = some (.ref a.f_is_whole)
  F_is_whole : Fun K "is_whole" "is_whole" s_is_whole a.f_is_whole a.d_is_whole
  b_is_whole : Binds K a.d_is_whole ["thing"] []
  m_is_within : mg "is_within" = some (.ref a.f_is_within)
  F_is_within : Fun K "is_within" "is_within" s_is_within a.f_is_within a.d_is_within
  b_is_within : Binds K a.d_is_within ["thing", "least", "most"] []
  m_is_sequence : mg "is_sequence" = some (.ref a.f_is_sequence)
  F_is_sequence : Fun K "is_sequence" "is_sequence" s_is_sequence a.f_is_sequence a.d_is_sequence
  b_is_sequence : Binds K a.d_is_sequence ["thing"] []
  m_mask_of : mg "mask_of" = some (.ref a.f_mask_of)
  F_mask_of : Fun K "mask_of" "mask_of" s_mask_of a.f_mask_of a.d_mask_of
  b_mask_of : Binds K a.d_mask_of ["places"] []
  m_places_in : mg "places_in" = some (.ref a.f_places_in)
  F_places_in : Fun K "places_in" "places_in" s_places_in a.f_places_in a.d_places_in
  b_places_in : Binds K a.d_places_in ["mask"] []
  m_is_place : mg "is_place" = some (.ref a.f_is_place)
  F_is_place : Fun K "is_place" "is_place" s_is_place a.f_is_place a.d_is_place
  b_is_place : Binds K a.d_is_place ["bare", "thing"] []
  m_check_places : mg "check_places" = some (.ref a.f_check_places)
  F_check_places : Fun K "check_places" "check_places" s_check_places a.f_check_places a.d_check_places
  b_check_places : Binds K a.d_check_places ["bare", "places"] []
  m_is_before_list : mg "is_before_list" = some (.ref a.f_is_before_list)
  F_is_before_list : Fun K "is_before_list" "is_before_list" s_is_before_list a.f_is_before_list a.d_is_before_list
  b_is_before_list : Binds K a.d_is_before_list ["thing", "place", "many"] []
  m_checked_befores : mg "checked_befores" = some (.ref a.f_checked_befores)
  F_checked_befores : Fun K "checked_befores" "checked_befores" s_checked_befores a.f_checked_befores a.d_checked_befores
  b_checked_befores : Binds K a.d_checked_befores ["befores"] []
  m_afters_of : mg "afters_of" = some (.ref a.f_afters_of)
  F_afters_of : Fun K "afters_of" "afters_of" s_afters_of a.f_afters_of a.d_afters_of
  b_afters_of : Binds K a.d_afters_of ["befores"] []
  m_ordered_of : mg "ordered_of" = some (.ref a.f_ordered_of)
  F_ordered_of : Fun K "ordered_of" "ordered_of" s_ordered_of a.f_ordered_of a.d_ordered_of
  b_ordered_of : Binds K a.d_ordered_of ["befores", "afters"] []
  m_reached_along : mg "reached_along" = some (.ref a.f_reached_along)
  F_reached_along : FunD K "reached_along" "reached_along" (defArgs s_reached_along) (defBody s_reached_along) (defScope s_reached_along) [V.int 0] [] a.f_reached_along a.d_reached_along
  b_reached_along : ∃ ds, Vals [V.int 0] ds ∧ Binds K a.d_reached_along ["arrows", "place", "barred"] ds
  m_check_rings : mg "check_rings" = some (.ref a.f_check_rings)
  F_check_rings : Fun K "check_rings" "check_rings" s_check_rings a.f_check_rings a.d_check_rings
  b_check_rings : Binds K a.d_check_rings ["befores"] []
  m_check_roads : mg "check_roads" = some (.ref a.f_check_roads)
  F_check_roads : Fun K "check_roads" "check_roads" s_check_roads a.f_check_roads a.d_check_roads
  b_check_roads : Binds K a.d_check_roads ["befores", "end"] []
  m_check_room : mg "check_room" = some (.ref a.f_check_room)
  F_check_room : Fun K "check_room" "check_room" s_check_room a.f_check_room a.d_check_room
  b_check_room : Binds K a.d_check_room ["room"] []
  m_check_small : mg "check_small" = some (.ref a.f_check_small)
  F_check_small : Fun K "check_small" "check_small" s_check_small a.f_check_small a.d_check_small
  b_check_small : Binds K a.d_check_small ["bare"] []
  m_moves_at : mg "moves_at" = some (.ref a.f_moves_at)
  F_moves_at : Fun K "moves_at" "moves_at" s_moves_at a.f_moves_at a.d_moves_at
  b_moves_at : Binds K a.d_moves_at ["bare", "standing", "many", "room"] []
  m_distances_from : mg "distances_from" = some (.ref a.f_distances_from)
  F_distances_from : Fun K "distances_from" "distances_from" s_distances_from a.f_distances_from a.d_distances_from
  b_distances_from : Binds K a.d_distances_from ["bare", "room", "start"] []
  m_reached_standings : mg "reached_standings" = some (.ref a.f_reached_standings)
  F_reached_standings : Fun K "reached_standings" "reached_standings" s_reached_standings a.f_reached_standings a.d_reached_standings
  b_reached_standings : Binds K a.d_reached_standings ["bare", "room"] []
  m_least_way : mg "least_way" = some (.ref a.f_least_way)
  F_least_way : Fun K "least_way" "least_way" s_least_way a.f_least_way a.d_least_way
  b_least_way : Binds K a.d_least_way ["bare", "room", "first", "last"] []
  m_way_between : mg "way_between" = some (.ref a.f_way_between)
  F_way_between : Fun K "way_between" "way_between" s_way_between a.f_way_between a.d_way_between
  b_way_between : Binds K a.d_way_between ["bare", "room", "start", "goal"] []
  m_least_room : mg "least_room" = some (.ref a.f_least_room)
  F_least_room : Fun K "least_room" "least_room" s_least_room a.f_least_room a.d_least_room
  b_least_room : Binds K a.d_least_room ["bare", "is_wanted"] []
  m_price_of : mg "price_of" = some (.ref a.f_price_of)
  F_price_of : Fun K "price_of" "price_of" s_price_of a.f_price_of a.d_price_of
  b_price_of : Binds K a.d_price_of ["bare"] []
  m_shown_price_of : mg "shown_price_of" = some (.ref a.f_shown_price_of)
  F_shown_price_of : Fun K "shown_price_of" "shown_price_of" s_shown_price_of a.f_shown_price_of a.d_shown_price_of
  b_shown_price_of : Binds K a.d_shown_price_of ["bare"] []
  m_ready_price_of : mg "ready_price_of" = some (.ref a.f_ready_price_of)
  F_ready_price_of : Fun K "ready_price_of" "ready_price_of" s_ready_price_of a.f_ready_price_of a.d_ready_price_of
  b_ready_price_of : Binds K a.d_ready_price_of ["bare"] []
  m_law_hand : mg "_law_hand" = some (.ref a.f_law_hand)
  F_law_hand : Fun K "_law_hand" "_law_hand" s_law_hand a.f_law_hand a.d_law_hand
  b_law_hand : Binds K a.d_law_hand ["_law_script"] []
  m_law_mixed : mg "_law_mixed" = some (.ref a.f_law_mixed)
  F_law_mixed : Fun K "_law_mixed" "_law_mixed" s_law_mixed a.f_law_mixed a.d_law_mixed
  b_law_mixed : Binds K a.d_law_mixed ["_law_number", "_law_turn"] []
  m_law_take : mg "_law_take" = some (.ref a.f_law_take)
  F_law_take : Fun K "_law_take" "_law_take" s_law_take a.f_law_take a.d_law_take
  b_law_take : Binds K a.d_law_take ["_law_hand_here", "_law_many"] []
  m_law_whole : mg "_law_whole" = some (.ref a.f_law_whole)
  F_law_whole : Fun K "_law_whole" "_law_whole" s_law_whole a.f_law_whole a.d_law_whole
  b_law_whole : Binds K a.d_law_whole ["_law_thing"] []
  m_law_two : mg "_law_two" = some (.ref a.f_law_two)
  F_law_two : Fun K "_law_two" "_law_two" s_law_two a.f_law_two a.d_law_two
  b_law_two : Binds K a.d_law_two ["_law_n"] []
  m_law_led : mg "_law_led" = some (.ref a.f_law_led)
  F_law_led : Fun K "_law_led" "_law_led" s_law_led a.f_law_led a.d_law_led
  b_law_led : Binds K a.d_law_led ["_law_befores", "_law_places_here"] []
  m_law_order : mg "_law_order" = some (.ref a.f_law_order)
  F_law_order : Fun K "_law_order" "_law_order" s_law_order a.f_law_order a.d_law_order
  b_law_order : Binds K a.d_law_order ["_law_hand_here", "_law_many"] []
  m_law_bare : mg "_law_bare" = some (.ref a.f_law_bare)
  F_law_bare : Fun K "_law_bare" "_law_bare" s_law_bare a.f_law_bare a.d_law_bare
  b_law_bare : Binds K a.d_law_bare ["_law_hand_here", "_law_many", "_law_share", "_law_mixed_here"] []
  m_law_tree : mg "_law_tree" = some (.ref a.f_law_tree)
  F_law_tree : Fun K "_law_tree" "_law_tree" s_law_tree a.f_law_tree a.d_law_tree
  b_law_tree : Binds K a.d_law_tree ["_law_hand_here", "_law_many", "_law_mixed_here"] []
  m_law_masks : mg "_law_masks" = some (.ref a.f_law_masks)
  F_law_masks : Fun K "_law_masks" "_law_masks" s_law_masks a.f_law_masks a.d_law_masks
  b_law_masks : Binds K a.d_law_masks ["_law_befores"] []
  m_law_filled : mg "_law_filled" = some (.ref a.f_law_filled)
  F_law_filled : Fun K "_law_filled" "_law_filled" s_law_filled a.f_law_filled a.d_law_filled
  b_law_filled : Binds K a.d_law_filled ["_law_mask", "_law_many"] []
  m_law_held : mg "_law_held" = some (.ref a.f_law_held)
  F_law_held : Fun K "_law_held" "_law_held" s_law_held a.f_law_held a.d_law_held
  b_law_held : Binds K a.d_law_held ["_law_mask", "_law_part"] []
  m_law_reach : mg "_law_reach" = some (.ref a.f_law_reach)
  F_law_reach : Fun K "_law_reach" "_law_reach" s_law_reach a.f_law_reach a.d_law_reach
  b_law_reach : Binds K a.d_law_reach ["_law_befores", "_law_room", "_law_start"] []
  m_law_price : mg "_law_price" = some (.ref a.f_law_price)
  F_law_price : Fun K "_law_price" "_law_price" s_law_price a.f_law_price a.d_law_price
  b_law_price : Binds K a.d_law_price ["_law_befores", "_law_end"] []
  m_law_small_size : mg "_law_small_size" = some (.ref a.f_law_small_size)
  F_law_small_size : Fun K "_law_small_size" "_law_small_size" s_law_small_size a.f_law_small_size a.d_law_small_size
  b_law_small_size : Binds K a.d_law_small_size ["_law_hand_here"] []
  m_law_any_bare : mg "_law_any_bare" = some (.ref a.f_law_any_bare)
  F_law_any_bare : Fun K "_law_any_bare" "_law_any_bare" s_law_any_bare a.f_law_any_bare a.d_law_any_bare
  b_law_any_bare : Binds K a.d_law_any_bare ["_law_hand_here", "_law_many"] []
  m_law_copied : mg "_law_copied" = some (.ref a.f_law_copied)
  F_law_copied : Fun K "_law_copied" "_law_copied" s_law_copied a.f_law_copied a.d_law_copied
  b_law_copied : Binds K a.d_law_copied ["_law_rows"] []
  m_law_places : mg "_law_places" = some (.ref a.f_law_places)
  F_law_places : Fun K "_law_places" "_law_places" s_law_places a.f_law_places a.d_law_places
  b_law_places : Binds K a.d_law_places ["_law_thing"] []
  m_law_listed : mg "_law_listed" = some (.ref a.f_law_listed)
  F_law_listed : Fun K "_law_listed" "_law_listed" s_law_listed a.f_law_listed a.d_law_listed
  b_law_listed : Binds K a.d_law_listed ["_law_masks_here", "_law_many"] []
  m_law_least_way : mg "_law_least_way" = some (.ref a.f_law_least_way)
  F_law_least_way : Fun K "_law_least_way" "_law_least_way" s_law_least_way a.f_law_least_way a.d_law_least_way
  b_law_least_way : Binds K a.d_law_least_way ["_law_befores", "_law_room", "_law_first", "_law_last"] []
  m_law_room_for : mg "_law_room_for" = some (.ref a.f_law_room_for)
  F_law_room_for : Fun K "_law_room_for" "_law_room_for" s_law_room_for a.f_law_room_for a.d_law_room_for
  b_law_room_for : Binds K a.d_law_room_for ["_law_befores", "_law_wanted"] []
  m_law_shuffled : mg "_law_shuffled" = some (.ref a.f_law_shuffled)
  F_law_shuffled : Fun K "_law_shuffled" "_law_shuffled" s_law_shuffled a.f_law_shuffled a.d_law_shuffled
  b_law_shuffled : Binds K a.d_law_shuffled ["_law_hand_here", "_law_things"] []
  m_law_way_told : mg "_law_way_told" = some (.ref a.f_law_way_told)
  F_law_way_told : Fun K "_law_way_told" "_law_way_told" s_law_way_told a.f_law_way_told a.d_law_way_told
  b_law_way_told : Binds K a.d_law_way_told ["_law_bare_here", "_law_room", "_law_first", "_law_last"] []
  m_law_great_refused : mg "_law_great_refused" = some (.ref a.f_law_great_refused)
  F_law_great_refused : Fun K "_law_great_refused" "_law_great_refused" s_law_great_refused a.f_law_great_refused a.d_law_great_refused
  b_law_great_refused : Binds K a.d_law_great_refused ["_law_which", "_law_bare_here"] []
  m_law_spoilt : mg "_law_spoilt" = some (.ref a.f_law_spoilt)
  F_law_spoilt : Fun K "_law_spoilt" "_law_spoilt" s_law_spoilt a.f_law_spoilt a.d_law_spoilt
  b_law_spoilt : Binds K a.d_law_spoilt ["_law_hand_here", "_law_places_here", "_law_many"] []
  m_law_refusals : mg "_law_refusals" = some (.ref a.f_law_refusals)
  F_law_refusals : Fun K "_law_refusals" "_law_refusals" s_law_refusals a.f_law_refusals a.d_law_refusals
  b_law_refusals : Binds K a.d_law_refusals ["_law_hand_here", "_law_bare_here", "_law_many", "_law_first", "_law_last"] []
  m_law_prices : mg "_law_prices" = some (.ref a.f_law_prices)
  F_law_prices : Fun K "_law_prices" "_law_prices" s_law_prices a.f_law_prices a.d_law_prices
  b_law_prices : Binds K a.d_law_prices ["_law_befores", "_law_end", "_law_bare_here"] []
  m_law : mg "law" = some (.ref a.f_law)
  F_law : Fun K "law" "law" s_law a.f_law a.d_law
  b_law : Binds K a.d_law ["_law_script"] []
  m_TooMany : mg "TooMany" = some (.ref a.c_TooMany)
  x_TooMany : OexC K a.c_TooMany
  xf_TooMany : XfC K a.c_TooMany
  xi_TooMany : PySem.W.findIn K (.ref a.c_TooMany) "__init__" = some (some (.ref a.f_TooMany___init__))
  xt_TooMany : PySem.W.typeIn K (.ref a.f_TooMany___init__) = some (.type "function")
  xe_TooMany : PySem.W.exmOne K (.ref a.c_TooMany) (.ref a.c_TooMany) = some true
  xn_TooMany_most : PySem.W.findIn K (.ref a.c_TooMany) "most" = some none
  F_TooMany___init__ : Fun K "__init__" "TooMany.__init__" s_TooMany___init__ a.f_TooMany___init__ a.d_TooMany___init__
  b_TooMany___init__ : Binds K a.d_TooMany___init__ ["self", "most"] []
  m_BadBare : mg "BadBare" = some (.ref a.c_BadBare)
  x_BadBare : OexC K a.c_BadBare
  xf_BadBare : XfC K a.c_BadBare
  xi_BadBare : PySem.W.findIn K (.ref a.c_BadBare) "__init__" = some (some (.ref a.f_BadBare___init__))
  xt_BadBare : PySem.W.typeIn K (.ref a.f_BadBare___init__) = some (.type "function")
  xe_BadBare : PySem.W.exmOne K (.ref a.c_BadBare) (.ref a.c_BadBare) = some true
  xn_BadBare_place : PySem.W.findIn K (.ref a.c_BadBare) "place" = some none
  xn_BadBare_what : PySem.W.findIn K (.ref a.c_BadBare) "what" = some none
  F_BadBare___init__ : Fun K "__init__" "BadBare.__init__" s_BadBare___init__ a.f_BadBare___init__ a.d_BadBare___init__
  b_BadBare___init__ : Binds K a.d_BadBare___init__ ["self", "place", "what"] []
  m_BadPlaces : mg "BadPlaces" = some (.ref a.c_BadPlaces)
  x_BadPlaces : OexC K a.c_BadPlaces
  xf_BadPlaces : XfC K a.c_BadPlaces
  xi_BadPlaces : PySem.W.findIn K (.ref a.c_BadPlaces) "__init__" = some (some (.ref a.f_BadPlaces___init__))
  xt_BadPlaces : PySem.W.typeIn K (.ref a.f_BadPlaces___init__) = some (.type "function")
  xe_BadPlaces : PySem.W.exmOne K (.ref a.c_BadPlaces) (.ref a.c_BadPlaces) = some true
  xn_BadPlaces_index : PySem.W.findIn K (.ref a.c_BadPlaces) "index" = some none
  F_BadPlaces___init__ : Fun K "__init__" "BadPlaces.__init__" s_BadPlaces___init__ a.f_BadPlaces___init__ a.d_BadPlaces___init__
  b_BadPlaces___init__ : Binds K a.d_BadPlaces___init__ ["self", "index"] []
  m_Bare : mg "Bare" = some (.ref a.c_Bare)
  F_Bare___init__ : Fun K "__init__" "Bare.__init__" s_Bare___init__ a.f_Bare___init__ a.d_Bare___init__
  b_Bare___init__ : Binds K a.d_Bare___init__ ["self", "befores", "end"] []
  F_Bare___len__ : Fun K "__len__" "Bare.__len__" s_Bare___len__ a.f_Bare___len__ a.d_Bare___len__
  b_Bare___len__ : Binds K a.d_Bare___len__ ["self"] []
  at_Bare___len__ : PySem.W.findIn K (.ref a.c_Bare) "__len__" = some (some (.ref a.f_Bare___len__))
  fn_Bare___len__ : PySem.W.isFn K (.ref a.f_Bare___len__) = true
  F_Bare___eq__ : Fun K "__eq__" "Bare.__eq__" s_Bare___eq__ a.f_Bare___eq__ a.d_Bare___eq__
  b_Bare___eq__ : Binds K a.d_Bare___eq__ ["self", "other"] []
  at_Bare___eq__ : PySem.W.findIn K (.ref a.c_Bare) "__eq__" = some (some (.ref a.f_Bare___eq__))
  fn_Bare___eq__ : PySem.W.isFn K (.ref a.f_Bare___eq__) = true
  mk_Bare : Mk K a.c_Bare a.f_Bare___init__
  ic_Bare : C8.InsC K a.c_Bare
  ne_Bare : PySem.W.findIn K (.ref a.c_Bare) "__ne__" = some (some (.builtin "object.__ne__"))
  na_Bare_befores : NoAttr K a.c_Bare "befores"
  na_Bare_end : NoAttr K a.c_Bare "end"
  na_Bare_afters : NoAttr K a.c_Bare "afters"
  na_Bare_ordered : NoAttr K a.c_Bare "ordered"
  na_Bare_needs : NoAttr K a.c_Bare "needs"
  m_BadRoom : mg "BadRoom" = some (.ref a.c_BadRoom)
  q_BadRoom : PySem.W.excIn K a.c_BadRoom [.type "ValueError", .type "Exception", .type "BaseException", .type "object"] "ValueError.__new__" = true
  k_BadRoom : PySem.W.keepIn K (.ref a.c_BadRoom) = true
  sb_BadRoom : PySem.W.subIn K (.ref a.c_BadRoom) (.type "BaseException") = some true
  ty_BadRoom : PySem.W.typeIn K (.ref a.c_BadRoom) = some (.type "type")
  xe_BadRoom : PySem.W.exmOne K (.ref a.c_BadRoom) (.ref a.c_BadRoom) = some true
  m_NoWay : mg "NoWay" = some (.ref a.c_NoWay)
  q_NoWay : PySem.W.excIn K a.c_NoWay [.type "ValueError", .type "Exception", .type "BaseException", .type "object"] "ValueError.__new__" = true
  k_NoWay : PySem.W.keepIn K (.ref a.c_NoWay) = true
  sb_NoWay : PySem.W.subIn K (.ref a.c_NoWay) (.type "BaseException") = some true
  ty_NoWay : PySem.W.typeIn K (.ref a.c_NoWay) = some (.type "type")
  xe_NoWay : PySem.W.exmOne K (.ref a.c_NoWay) (.ref a.c_NoWay) = some true
  g_MOST_PLACES : ∃ u, mg "MOST_PLACES" = some u ∧ RelV (.int 200) u
  g_MOST_ROOM : ∃ u, mg "MOST_ROOM" = some u ∧ RelV (.int 200) u
  g_MOST_SEARCHED : ∃ u, mg "MOST_SEARCHED" = some u ∧ RelV (.int 8) u
  z_ValueError : mg "ValueError" = none
  z_abs : mg "abs" = none
  z_all : mg "all" = none
  z_any : mg "any" = none
  z_bool : mg "bool" = none
  z_enumerate : mg "enumerate" = none
  z_int : mg "int" = none
  z_isinstance : mg "isinstance" = none
  z_len : mg "len" = none
  z_list : mg "list" = none
  z_range : mg "range" = none
  z_set : mg "set" = none
  z_sorted : mg "sorted" = none
  z_sum : mg "sum" = none
  z_tuple : mg "tuple" = none
/-! ### steps of readings -/
theorem cx_K {CX : CXT} {P : Program} {w : World} {K : PySem.W.Frag} {mg : Str → Option Value} {base : Heap} {N : List Str} {qual : Str} {scope : Scope} {f : Addr} {cd : Value} {A : Around} {outer : List Env} {s : Shared} {H : Hp} {E : XK} :
    (cxOf CX P w K mg base N qual scope f cd A outer s H E).K = K := rfl
theorem ixl {K : PySem.W.Frag} {H : Hp} {p : Addr} {xs : List V} {i : Int} {v : V} {Q : VK} (h : SqL K H p xs) (e : atI xs i = some v) (q : Q v H) : rIxL K (.ref p) (.int i) H Q := ⟨p, xs, i, v, rfl, rfl, h, e, q⟩
theorem setl {H : Hp} {p : Addr} {xs : List V} {k : Int} {j : Nat} {v : V} {Q : Hp → Prop} (h : H p = some (.lst xs)) (e : ixN xs.length k = some j) (q : Q (upd H p (.lst (xs.set j v)))) : rSetL (.ref p) (.int k) v H Q := ⟨p, xs, k, j, rfl, rfl, h, e, q⟩
theorem atI_int {ns : List Int} {i : Int} (h0 : 0 ≤ i) (h1 : i < (ns.length : Int)) : ∃ z, z ∈ ns ∧ atI (ns.map V.int) i = some (.int z) := by
  obtain ⟨k, rfl⟩ : ∃ k : Nat, i = (k : Int) := ⟨i.toNat, by omega⟩
  have hk : k < ns.length := by omega
  exact ⟨ns[k], List.getElem_mem hk, atI_nat (by rw [List.getElem?_map, List.getElem?_eq_getElem hk] <;> rfl)⟩
theorem str1 {a b : Nat} : ((⟨#[a]⟩ : Str) = ⟨#[b]⟩) = (a = b) := by
  apply propext
  constructor
  · intro h
    have q : (#[a] : Array Nat) = #[b] := congrArg Str.cps h
    have q2 : ([a] : List Nat) = [b] := congrArg Array.toList q
    exact (List.cons.inj q2).1
  · intro h; rw [h]
theorem int_at {ns : List Int} {i : Nat} {x : V} (h : (ns.map V.int)[i]? = some x) : ∃ z, ns[i]? = some z ∧ x = .int z := by
  rw [List.getElem?_map] at h
  cases e : ns[i]? with
  | none => rw [e] at h; cases h
  | some z => rw [e] at h; exact ⟨z, rfl, (Option.some.inj h).symm⟩
/-- C(x, ..) made: what is asked once the arguments stand -/
def mkO (C : Addr) (sp : Sp) (dvs : List V) (vs : List V) (H1 : Hp) (Q : XK) : Prop := vs.length ≤ 1000 ∧ ∀ e, H1 e = none → sp (.ref e :: (vs ++ dvs)) (upd H1 e (exo e C none))
  (fun v H2 => v = .non ∧ ∃ (d : Addr) (fs : List (Str × V)), H2 e = some (exo e C (some d)) ∧ H2 d = some (exd d fs) ∧ H1 d = none ∧ Q (.ref C) (some d) (upd (del H2 e) d (.xd fs))) (fun _ _ _ => False)
theorem tMkO_eq {C : Addr} {sp : Sp} {dvs : List V} {ta : TA} : tMkO C sp dvs ta = fun σ H Q => ta σ H fun vs H1 => mkO C sp dvs vs H1 Q := rfl
/-- what a comprehension asks behind its iterator's making -/
def LcG (J : It) (g : TG) (tt : TT) (te : TE) (vs : List Nat) (σ : L2.St) (Q : VK) (H1 : Hp) : Prop := ∀ D, H1 D = none → ∃ W : Nat → Nat → Hp → Prop, (∃ m, W 0 m (upd H1 D (.lst []))) ∧ ∀ i m H, W i m H →
  (J.stop i H ∧ Q (.ref D) H) ∨ (J.go i H ∧ ∃ Nx : Hp → Prop, (∀ H', Nx H' → ∃ m', m' < m ∧ W (i + 1) m' H') ∧ ∀ x H', J.yld i H x H' → g x (wipe σ vs) H' fun σ2 H2 => wipe σ2 vs = wipe σ vs ∧ tt σ2 H2 fun b H3 =>
    if b = true then te σ2 H3 fun y H4 => ∃ acc, H4 D = some (.lst acc) ∧ acc.length < sizeLine ∧ Nx (upd H4 D (.lst (acc ++ [y]))) else Nx H3)
theorem tLc_eq {wi : TI} {g : TG} {tt : TT} {te : TE} {vs : List Nat} : tLc wi g tt te vs = fun σ H Q => wi σ H fun J H1 => LcG J g tt te vs σ Q H1 := rfl
theorem lcg_range {lo : Int} {n : Nat} {g : TG} {tt : TT} {te : TE} {vs : List Nat} {σ : L2.St} {H1 : Hp} {Q : VK} (Pv : Addr → Nat → Hp → Prop) (h0 : ∀ D, H1 D = none → Pv D 0 (upd H1 D (.lst [])))
    (hs : ∀ D i H, H1 D = none → i < n → Pv D i H → g (.int (lo + i)) (wipe σ vs) H fun σ2 H2 => wipe σ2 vs = wipe σ vs ∧ tt σ2 H2 fun b H3 =>
      if b = true then te σ2 H3 fun y H4 => ∃ acc, H4 D = some (.lst acc) ∧ acc.length < sizeLine ∧ Pv D (i + 1) (upd H4 D (.lst (acc ++ [y]))) else Pv D (i + 1) H3) (hd : ∀ D H, H1 D = none → Pv D n H → Q (.ref D) H) : LcG (Itr lo n) g tt te vs σ Q H1 :=
  fun D hD => lc_range (Qd := fun H => Q (.ref D) H) (Pv D) (h0 D hD) (fun i H hi h => hs D i H hD hi h) fun H h => hd D H hD h
theorem lcg_list {K : PySem.W.Frag} {a : Addr} {xs : List V} {g : TG} {tt : TT} {te : TE} {vs : List Nat} {σ : L2.St} {H1 : Hp} {Q : VK} (Pv : Addr → Nat → Hp → Prop) (h0 : ∀ D, H1 D = none → Pv D 0 (upd H1 D (.lst []))) (hl : ∀ D i H, H1 D = none → i ≤ xs.length → Pv D i H → SqL K H a xs)
    (hs : ∀ D i x H, H1 D = none → xs[i]? = some x → Pv D i H → g x (wipe σ vs) H fun σ2 H2 => wipe σ2 vs = wipe σ vs ∧ tt σ2 H2 fun b H3 =>
      if b = true then te σ2 H3 fun y H4 => ∃ acc, H4 D = some (.lst acc) ∧ acc.length < sizeLine ∧ Pv D (i + 1) (upd H4 D (.lst (acc ++ [y]))) else Pv D (i + 1) H3) (hd : ∀ D H, H1 D = none → Pv D xs.length H → Q (.ref D) H) : LcG (Itl K a) g tt te vs σ Q H1 :=
  fun D hD => lc_list (Qd := fun H => Q (.ref D) H) (Pv D) (h0 D hD) (fun i H hi h => hl D i H hD hi h) (fun i x H hi h => hs D i x H hD hi h) fun H h => hd D H hD h
local macro_rules | `(tactic| walk_at "cmul") => `(tactic| first | exact .inl ⟨by omega, by omega⟩ | exact .inr ⟨by omega, by omega⟩)
local macro_rules | `(tactic| walk_at "r1") => `(tactic| first | refine ⟨_, rfl, ?_⟩ | refine ⟨_, _, rfl, rfl, ?_⟩ | refine Or.inl ⟨_, rfl, ?_⟩)
local macro_rules | `(tactic| walk_at "sm") => `(tactic| try simp only [tSeq, tAsg, tRet, tRetN, tDrop, tOp, tUn, tVar, tC, tCB, tCons, tNil, tLst, tTup, tTest, tB, tAnd, tOr, tNot, tAndV, tOrV, tNotV, tIf, tIfS, tNext, tCont, tBreak, tCall, tCallS, WE, tXf, rI0, rI, rU, gName, gNil, gCons, gTup, gSub, tAug, tBM, tBM0, tM1, rNewStrs, tLc_eq, iRng1, iRng2, iList, iTup, tYes, wipe, List.foldl_cons, List.foldl_nil, rEq, rNe, scal, rIxS, rSlS, tSl, tPart, tNoPart, tChain, ipI, str1, tMkO_eq, L2.start, List.map_cons, List.map_nil, List.append_nil, List.cons_append, List.nil_append, List.length_cons, List.length_nil, List.drop, List.replicate, List.getElem?_cons_zero, List.getElem?_cons_succ, List.set_cons_zero, List.set_cons_succ, Option.some.injEq, V.int.injEq, V.str.injEq, V.ref.injEq, V.bl.injEq, List.cons.injEq, reduceCtorEq, false_and, and_false, exists_false, or_false, false_or, exists_eq_left', exists_eq_left, and_assoc, cx_K, exists_and_left, exists_and_right, and_true, true_and, decide_eq_true_eq, if_true, if_false, Bool.false_eq_true])
local macro_rules | `(tactic| walk_at "rm") => `(tactic| refine ⟨by walk_at "cmul", ?_⟩)

/-! ### a target that is a field of an exception that is being made -/
def gOst (K : PySem.W.Frag) (f : Str) (to : TE) : TG := fun y σ H Q => to σ H fun x H2 => ∃ a C : Addr, x = .ref a ∧ OexC K C ∧ PySem.W.findIn K (.ref C) f = some none ∧
  ((H2 a = some (exo a C none) ∧ ∀ dx, H2 dx = none → dx ≠ a → Q σ (upd (upd H2 dx (exd dx [(f, y)])) a (exo a C (some dx)))) ∨
    ∃ (dx : Addr) (fs : List (Str × V)), H2 a = some (exo a C (some dx)) ∧ H2 dx = some (exd dx fs) ∧ fs.length ≤ 900 ∧ Q σ (upd H2 dx (exd dx ((f, y) :: fs))))
theorem pg_ost {X : Cx} {o : Expr} {to : TE} {f : Str} {pos : Pos} (ho : PE X o to) : PG X (.Attribute o f pos) (gOst X.K f to) := by
  refine ⟨fun pins s σ H v u Q I r h => ?_⟩
  rw [assign_Attribute]
  refine wpAny_bind (wpAny_holding (thn (ho.run pins s σ H _ I h) fun ov s1 ⟨x, H1, I1, r1, q1⟩ => ?_))
  refine wpAny_bind (wpAny_standAt (wpAny_bind (wpAny_holding ?_)))
  obtain ⟨a, C, rfl, T, hno, q⟩ := q1
  obtain rfl : ov = Value.ref a := r1
  rcases q with ⟨ea, q⟩ | ⟨dx, fs, ea, ed, hl, q⟩
  · exact ost_new T I1 ea hno r fun dx s' n ne J => wpAny_release ⟨σ, _, J, q dx n ne⟩
  · exact ost_old T I1 ea ed hl hno r fun s' J => wpAny_release ⟨σ, _, J, q⟩

/-- all but p is kept -/
def Fr (p : Addr) (H H' : Hp) : Prop := ∀ b o, b ≠ p → H b = some o → H' b = some o
theorem Fr.refl {p : Addr} (H : Hp) : Fr p H H := fun _ _ _ h => h
theorem Fr.trans {p : Addr} {H H1 H2 : Hp} (a : Fr p H H1) (b : Fr p H1 H2) : Fr p H H2 := fun c o n h => b c o n (a c o n h)
theorem Fr.of {p : Addr} {H H1 : Hp} (a : Evl.Ex H H1) : Fr p H H1 := fun c o _ h => a c o h
theorem Fr.upd {p : Addr} {H : Hp} {o : HO} : Fr p H (upd H p o) := fun c u n h => by rw [upd_ne n]; exact h
/-- what is not known of H stays so -/
def spInit2 (C : Addr) (f1 f2 : Str) : Sp := fun vs H Q _ => ∃ (e : Addr) (x y : V), vs = [.ref e, x, y] ∧ H e = some (exo e C none) ∧
  ∀ (d : Addr) (H' : Hp), H d = none → d ≠ e → Fr e H H' → H' e = some (exo e C (some d)) → H' d = some (exd d [(f2, y), (f1, x)]) → Q .non H'
/-- what is asked where C(x, y) is raised -/
theorem mk2 {C : Addr} {f1 f2 : Str} {x y : V} {H1 : Hp} {Q : XK} (k : ∀ (d : Addr) (H' : Hp), Evl.Ex H1 H' → H' d = some (.xd [(f2, y), (f1, x)]) → Q (.ref C) (some d) H') :
    mkO C (spInit2 C f1 f2) [] [x, y] H1 Q := by
  refine ⟨by show 2 ≤ 1000; omega, fun e he => ⟨e, x, y, rfl, upd_same, fun d H' hd hne hf h1 h2 => ⟨rfl, d, _, h1, h2, ?_, ?_⟩⟩⟩
  · rw [upd_ne hne] at hd
    exact hd
  · refine k d _ (fun b o hb => ?_) upd_same
    have nbe : b ≠ e := ne_of_none hb he
    rw [upd_ne hne] at hd
    have nbd : b ≠ d := ne_of_none hb hd
    rw [upd_ne nbd, del_ne nbe]
    exact hf b o nbe (by rw [upd_ne nbe]; exact hb)

section
variable {P : Program} {w : World} {K : PySem.W.Frag} {mg : Str → Option Value} {base : Heap} {a : Ad}
/-! ### BadInputs(spot, what) -/
/-! ### the hand -/
/-- a hand stands at p: the script's cells, how many of them are taken, the rest of a great one, the mixed sum -/
def HandAt (H : Hp) (p c : Addr) : Prop := ∃ (cells : List Int) (i g t : Int), H p = some (.lst [.ref c, .int i, .int g, .int t]) ∧ H c = some (.lst (cells.map V.int)) ∧
  cells.length ≤ 63 ∧ (∀ x ∈ cells, 0 ≤ x) ∧ 0 ≤ i ∧ i ≤ 63 ∧ 0 ≤ g ∧ 0 ≤ t ∧ t < 2147483549
def spHand (K : PySem.W.Frag) : Sp := fun vs H Q _ => ∃ (s : Addr) (ns : List Int), vs = [.ref s] ∧ SqL K H s (ns.map V.int) ∧ ns.length ≤ 63 ∧
  ∀ p c H', H p = none → Evl.Ex H H' → HandAt H' p c → Q (.ref p) H'
def ivHand (H : Hp) (sc l : Addr) (ns : List Int) : Nat → L2.St → Hp → Prop := fun i σ H' => ∃ (t : Int) (cells : List Int) (v : Option V), σ = [some (.ref sc), some (.int t), some (.ref l), v] ∧
  H' l = some (.lst (cells.map V.int)) ∧ cells.length = i ∧ i ≤ ns.length ∧ (∀ x ∈ cells, 0 ≤ x) ∧ 0 ≤ t ∧ t < 2147483549 ∧ Evl.Ex H H'
theorem ok_law_hand (T : Txt K mg a) : FnOk P w K mg base CX0 1 a.f_law_hand a.d_law_hand ["_law_script"] (spHand K) := by
  refine T.F_law_hand.ok sc_law_hand (fun vs H Q E h => ?_) (fun cdv A outer s H vs Q E hr h => ?_)
  · obtain ⟨_, _, rfl, _⟩ := h
    rfl
  · obtain ⟨sc, ns, rfl, hS, hl, k⟩ := h
    refine ⟨_, (pss_cons (ps_set (i := 1) sc_law_hand.nd rfl (by first | exact Or.inl rfl | exact Or.inr rfl) (pe_op op_add (pe_callB call_len_seq (by rfl) T.z_len (by decide +kernel) (pa_cons (pv 0) pa_nil)) pe_int))
  (pss_cons (ps_set (i := 2) sc_law_hand.nd rfl (by first | exact Or.inl rfl | exact Or.inr rfl) (pe_lst pa_nil))
  (pss_cons (ps_for PassesOwn.never rfl (pi_list (pv 0)) (pg_name (i := 3) sc_law_hand.nd rfl (by first | exact Or.inl rfl | exact Or.inr rfl)) (pss_cons (ps_set (i := 1) sc_law_hand.nd rfl (by first | exact Or.inl rfl | exact Or.inr rfl) (pe_op op_mod (pe_callTy call_int1 (by rfl) T.z_int (by decide +kernel) (pa_cons (pe_op op_add (pe_op op_mul (pv 1) pe_int) (pe_callTy call_int1 (by rfl) T.z_int (by decide +kernel) (pa_cons (pv 3) pa_nil))) pa_nil)) pe_int))
  (pss_one (ps_expr (pe_bm PySem.F.plainAttrs_list PySem.F.slot_list_append PySem.F.type_list_append mt_append (pv 2) (pa_cons (pe_callB call_abs (by rfl) T.z_abs (by decide +kernel) (pa_cons (pe_callTy call_int1 (by rfl) T.z_int (by decide +kernel) (pa_cons (pv 3) pa_nil)) pa_nil)) pa_nil))))))
  (pss_one (ps_ret (pe_lst (pa_cons (pv 2) (pa_cons pe_int (pa_cons pe_int (pa_cons (pv 1) pa_nil)))))))))), ?_⟩
    walk_at "sm"
    refine ⟨_, .inl hS, by decide, fun l hl0 => ?_⟩
    have nls : ∀ {b o}, H b = some o → b ≠ l := fun hb => ne_of_none hb hl0
    refine ⟨_, rfl, sc, rfl, ⟨_, Evl.ex_l (Evl.Ex.new hl0) hS⟩, for_list (K := K) (a := sc) (xs := ns.map V.int) (ivHand H sc l ns) ⟨_, [], none, rfl, upd_same, rfl, Nat.zero_le _, (by intro x hx; cases hx), ?_, ?_, Evl.Ex.new hl0⟩ (fun i σ H' _ ⟨_, _, _, _, _, _, _, _, _, _, e⟩ => Evl.ex_l e hS) ?_ ?_⟩
    · rw [List.length_map]; omega
    · rw [List.length_map]; omega
    · rintro i y σ H' hi ⟨t, cells, v, rfl, h1, h2, h3, h4, h5, h6, h7⟩
      obtain ⟨z, hz, rfl⟩ := int_at hi
      have hi' := (List.getElem?_eq_some_iff.mp hz).1
      walk_at "sm"
      refine ⟨.inl ⟨by omega, by omega⟩, by decide, .inl ⟨rfl, _, SqL.of h1⟩, l, _, _, rfl, rfl, h1, ?_, ?_⟩
      · rw [List.length_map]; exact Nat.lt_of_lt_of_le (by omega : cells.length < 100) (by decide)
      · refine ⟨_, cells ++ [if z < 0 then -z else z], _, rfl, by rw [upd_same, List.map_append]; rfl, by rw [List.length_append, h2]; rfl, by omega, ?_, Int.emod_nonneg _ (by decide), ?_, Evl.Ex.mut h7 hl0⟩
        · intro x hx
          rcases List.mem_append.mp hx with hx | hx
          · exact h4 x hx
          · rw [List.mem_singleton] at hx
            subst hx
            split <;> omega
        · have := Int.emod_lt_of_pos (t * 2017 + z) (show (0 : Int) < 2147483543 by decide)
          omega
    · rintro σ H' ⟨t, cells, v, rfl, h1, h2, h3, h4, h5, h6, h7⟩
      walk_at "sm"
      refine ⟨by decide, fun p hp => ?_⟩
      refine k p l _ (Evl.fresh_back h7 hp) (h7.trans (Evl.Ex.new hp)) ⟨cells, 0, 0, t, upd_same, by rw [upd_ne (ne_of_none h1 hp)]; exact h1, ?_, h4, by decide, by decide, by decide, h5, h6⟩
      rw [h2, List.length_map]; exact hl
def spMixed : Sp := fun vs H Q _ => ∃ (n t : Int), vs = [.int n, .int t] ∧ 0 ≤ n ∧ n < 2147483600 ∧ 0 ≤ t ∧ t ≤ 64 ∧ ∀ r, 0 ≤ r → Q (.int r) H
theorem ok_law_mixed (T : Txt K mg a) : FnOk P w K mg base CX0 1 a.f_law_mixed a.d_law_mixed ["_law_number", "_law_turn"] spMixed := by
  refine T.F_law_mixed.ok sc_law_mixed (fun vs H Q E h => ?_) (fun cdv A outer s H vs Q E hr h => ?_)
  · obtain ⟨_, _, rfl, _⟩ := h
    rfl
  · obtain ⟨n, t, rfl, h1, h2, h3, h4, k⟩ := h
    refine ⟨_, (pss_cons (ps_set (i := 2) sc_law_mixed.nd rfl (by first | exact Or.inl rfl | exact Or.inr rfl) (pe_op op_mod (pe_callTy call_int1 (by rfl) T.z_int (by decide +kernel) (pa_cons (pe_op op_add (pe_op op_add (pe_op op_mul (pv 0) pe_int) (pe_op op_mul (pv 1) pe_int)) pe_int) pa_nil)) pe_int))
  (pss_cons (ps_set (i := 3) sc_law_mixed.nd rfl (by first | exact Or.inl rfl | exact Or.inr rfl) (pe_op op_mod (pe_callTy call_int1 (by rfl) T.z_int (by decide +kernel) (pa_cons (pe_op op_add (pe_op op_add (pe_op op_mul (pv 2) (pv 2)) (pe_op op_mul (pv 1) pe_int)) (pe_op op_fdiv (pv 2) pe_int)) pa_nil)) pe_int))
  (pss_one (ps_ret (pe_op op_fdiv (pe_callTy call_int1 (by rfl) T.z_int (by decide +kernel) (pa_cons (pe_op op_mod (pe_callTy call_int1 (by rfl) T.z_int (by decide +kernel) (pa_cons (pe_op op_add (pe_op op_mul (pv 3) pe_int) (pe_op op_fdiv (pv 2) pe_int)) pa_nil)) pe_int) pa_nil)) pe_int))))), ?_⟩
    walk_at "sm"
    have e1 := Int.emod_nonneg (n * 40014 + t * 7331 + 60013) (show (2147483399 : Int) ≠ 0 by decide)
    have e2 := Int.emod_lt_of_pos (n * 40014 + t * 7331 + 60013) (show (0 : Int) < 2147483399 by decide)
    refine ⟨.inl ⟨by omega, by omega⟩, .inl ⟨by omega, by omega⟩, by decide, .inl ⟨by omega, by omega⟩, .inl ⟨by omega, by omega⟩, ⟨by decide, by decide⟩, by decide, .inr ⟨by decide, by decide⟩, ⟨by decide, by decide⟩, by decide, ⟨by decide, by decide⟩, k _ ?_⟩
    exact Int.ediv_nonneg (Int.emod_nonneg _ (by decide)) (by decide)
def spTake : Sp := fun vs H Q _ => ∃ (p c : Addr) (m : Int), vs = [.ref p, .int m] ∧ HandAt H p c ∧ 0 < m ∧ m < 1073741824 ∧
  ∀ r H', 0 ≤ r → r < m → Fr p H H' → HandAt H' p c → Q (.int r) H'
def midTake (H : Hp) (p c : Addr) (m : Int) : L2.St → Hp → Prop := fun σ' H' => ∃ v, σ' = [some (.ref p), some (.int m), v, none] ∧ Fr p H H' ∧ HandAt H' p c
theorem ok_law_take (T : Txt K mg a) : FnOk P w K mg base CX0 2 a.f_law_take a.d_law_take ["_law_hand_here", "_law_many"] spTake := by
  refine T.F_law_take.ok sc_law_take (fun vs H Q E h => ?_) (fun cdv A outer s H vs Q E hr h => ?_)
  · obtain ⟨_, _, _, rfl, _⟩ := h
    rfl
  · obtain ⟨p, c, m, rfl, ⟨cells, i, g, t, hp, hc, hl, hx, hi0, hi1, hg, ht0, ht1⟩, hm0, hm1, k⟩ := h
    refine ⟨_, (Evl.pss_cut (ps_if (PW.pt (pw_and (pt_cmpR op_eq (pe_ix ix_list (pv 0) pe_int (fun _ _ => rfl)) pe_int (nomark _)) (pw_and1 (pt_cmpR op_lt (pe_ix ix_list (pv 0) pe_int (fun _ _ => rfl)) (pe_callB call_len_seq (by rfl) T.z_len (by decide +kernel) (pa_cons (pe_ix ix_list (pv 0) pe_int (fun _ _ => rfl)) pa_nil)) (nomark _))))) (pss_cons (ps_set (i := 2) sc_law_take.nd rfl (by first | exact Or.inl rfl | exact Or.inr rfl) (pe_ix ix_list (pe_ix ix_list (pv 0) pe_int (fun _ _ => rfl)) (pe_ix ix_list (pv 0) pe_int (fun _ _ => rfl)) (fun _ _ => rfl)))
  (pss_cons (ps_asg (pe_op op_add (pe_ix ix_list (pv 0) pe_int (fun _ _ => rfl)) pe_int) (pg_sub (pv 0) pe_int set_list (by intro _; rfl)))
  (pss_cons (ps_if (pt_cmpR op_lt (pv 2) (pe_op op_pow pe_int pe_int) (nomark _)) (pss_one (ps_ret (pe_op op_mod (pe_callTy call_int1 (by rfl) T.z_int (by decide +kernel) (pa_cons (pe_call (ok_law_mixed T) (hr.mono (by decide)) rfl T.m_law_mixed T.F_law_mixed.kp T.b_law_mixed .nil pass0 (pa_cons (pe_op op_mod (pe_callTy call_int1 (by rfl) T.z_int (by decide +kernel) (pa_cons (pv 2) pa_nil)) pe_int) (pa_cons (pe_ix ix_list (pv 0) pe_int (fun _ _ => rfl)) pa_nil))) pa_nil)) (pv 1))))
    pss_nil)
  (pss_one (ps_asg (pv 2) (pg_sub (pv 0) pe_int set_list (by intro _; rfl)))))))
    pss_nil)
  (pss_cons (ps_if (pt_cmpR op_gt (pe_ix ix_list (pv 0) pe_int (fun _ _ => rfl)) pe_int (nomark _)) (pss_cons (ps_set (i := 3) sc_law_take.nd rfl (by first | exact Or.inl rfl | exact Or.inr rfl) (pe_ix ix_list (pv 0) pe_int (fun _ _ => rfl)))
  (pss_cons (ps_asg (pe_op op_fdiv (pe_callTy call_int1 (by rfl) T.z_int (by decide +kernel) (pa_cons (pv 3) pa_nil)) (pv 1)) (pg_sub (pv 0) pe_int set_list (by intro _; rfl)))
  (pss_one (ps_ret (pe_op op_mod (pe_callTy call_int1 (by rfl) T.z_int (by decide +kernel) (pa_cons (pv 3) pa_nil)) (pv 1))))))
    pss_nil)
  (pss_cons (ps_asg (pe_op op_mod (pe_callTy call_int1 (by rfl) T.z_int (by decide +kernel) (pa_cons (pe_op op_add (pe_ix ix_list (pv 0) pe_int (fun _ _ => rfl)) pe_int) pa_nil)) pe_int) (pg_sub (pv 0) pe_int set_list (by intro _; rfl)))
  (pss_one (ps_ret (pe_op op_mod (pe_callTy call_int1 (by rfl) T.z_int (by decide +kernel) (pa_cons (pe_call (ok_law_mixed T) (hr.mono (by decide)) rfl T.m_law_mixed T.F_law_mixed.kp T.b_law_mixed .nil pass0 (pa_cons (pe_ix ix_list (pv 0) pe_int (fun _ _ => rfl)) (pa_cons (pe_ix ix_list (pv 0) pe_int (fun _ _ => rfl)) pa_nil))) pa_nil)) (pv 1))))))), ?_⟩
    walk_at "sm"
    have ncp : c ≠ p := ne_of hc hp (by intro q; injection q with q; cases cells with
      | nil => cases q
      | cons x r => injection q with q _; cases q)
    refine ⟨midTake H p c m, ?_, ?_⟩
    · walk_at "sm"
      have sK : SqL K H p [.ref c, .int i, .int g, .int t] := SqL.of hp
      refine ixl sK rfl ?_
      walk_at "sm"
      refine ite2 (fun cg => ?_) (fun cg => ⟨_, rfl, Fr.refl H, cells, i, g, t, hp, hc, hl, hx, hi0, hi1, hg, ht0, ht1⟩)
      refine ixl sK rfl (ixl sK rfl ?_)
      walk_at "sm"
      refine ⟨_, .inl (SqL.of hc), ?_⟩
      walk_at "sm"
      refine ite2 (fun ci => ?_) (fun ci => ⟨_, rfl, Fr.refl H, cells, i, g, t, hp, hc, hl, hx, hi0, hi1, hg, ht0, ht1⟩)
      rw [List.length_map] at ci
      obtain ⟨z, hz, ez⟩ := atI_int hi0 ci
      have hz0 := hx z hz
      refine ixl sK rfl (ixl sK rfl (ixl (SqL.of hc) ez (ixl sK rfl ?_)))
      walk_at "sm"
      refine setl hp rfl ?_
      have hp1 : (upd H p (.lst [.ref c, .int (i + 1), .int g, .int t])) p = some (.lst [.ref c, .int (i + 1), .int g, .int t]) := upd_same
      have hc1 : (upd H p (.lst [.ref c, .int (i + 1), .int g, .int t])) c = some (.lst (cells.map V.int)) := by rw [upd_ne ncp]; exact hc
      refine ⟨⟨by decide, by decide, by decide⟩, ite2 (fun cz => ?_) (fun cz => ?_)⟩
      · refine ⟨by decide, ixl (SqL.of hp1) rfl ⟨_, _, rfl, Int.emod_nonneg _ (by decide), ?_, by omega, by omega, fun r hr0 => ?_⟩⟩
        · have := Int.emod_lt_of_pos z (show (0 : Int) < 2147483399 by decide)
          omega
        · walk_at "sm"
          exact ⟨hm0, k _ _ (Int.emod_nonneg _ (by omega)) (Int.emod_lt_of_pos _ hm0) Fr.upd ⟨cells, i + 1, g, t, hp1, hc1, hl, hx, by omega, by omega, hg, ht0, ht1⟩⟩
      · refine setl hp1 rfl ⟨_, rfl, Fr.upd.trans Fr.upd, cells, i + 1, z, t, upd_same, by rw [upd_ne ncp]; exact hc1, hl, hx, by omega, by omega, hz0, ht0, ht1⟩
    · rintro σ' H' ⟨v, rfl, f, cells', i', g', t', hp', hc, hl', hx', hi0', hi1', hg', ht0', ht1'⟩
      have ncp' : c ≠ p := ne_of hc hp' (by intro q; injection q with q; cases cells' with
        | nil => cases q
        | cons x r => injection q with q _; cases q)
      walk_at "sm"
      have sK : SqL K H' p [.ref c, .int i', .int g', .int t'] := SqL.of hp'
      refine ixl sK rfl ?_
      walk_at "sm"
      refine ite2 (fun cg => ?_) (fun cg => ?_)
      · refine ixl sK rfl ?_
        walk_at "sm"
        refine ⟨⟨hm0, hm1⟩, setl hp' rfl ⟨hm0, k _ _ (Int.emod_nonneg _ (by omega)) (Int.emod_lt_of_pos _ hm0) (f.trans Fr.upd) ⟨cells', i', g' / m, t', upd_same, by rw [upd_ne ncp']; exact hc, hl', hx', hi0', hi1', Int.ediv_nonneg hg' (by omega), ht0', ht1'⟩⟩⟩
      · refine ixl sK rfl ?_
        walk_at "sm"
        have e0 := Int.emod_nonneg (t' + 1) (show (2147483549 : Int) ≠ 0 by decide)
        have e1 := Int.emod_lt_of_pos (t' + 1) (show (0 : Int) < 2147483549 by decide)
        refine ⟨by decide, setl hp' rfl ?_⟩
        have hp1 : (upd H' p (.lst [.ref c, .int i', .int g', .int ((t' + 1) % 2147483549)])) p = some (.lst [.ref c, .int i', .int g', .int ((t' + 1) % 2147483549)]) := upd_same
        refine ixl (SqL.of hp1) rfl (ixl (SqL.of hp1) rfl ⟨_, _, rfl, e0, by omega, by omega, by omega, fun r hr0 => ?_⟩)
        walk_at "sm"
        exact ⟨hm0, k _ _ (Int.emod_nonneg _ (by omega)) (Int.emod_lt_of_pos _ hm0) (f.trans Fr.upd) ⟨cells', i', g', (t' + 1) % 2147483549, hp1, by rw [upd_ne ncp']; exact hc, hl', hx', hi0', hi1', hg', e0, e1⟩⟩
end
open SX (S)

theorem sz {n : Nat} (h : n ≤ 100000) : n ≤ sizeLine := Evl.sz_of h
theorem kw_flat (l : List Str) : (l.map V.str).all flatV = true := by
  induction l with
  | nil => rfl
  | cons s l ih => rw [List.map_cons, List.all_cons, ih]; rfl
theorem str_at_map {l : List Str} {i : Nat} {x : V} (h : (l.map V.str)[i]? = some x) : ∃ z, l[i]? = some z ∧ x = .str z := by
  rw [List.getElem?_map] at h
  cases e : l[i]? with
  | none => rw [e] at h; cases h
  | some z => rw [e] at h; exact ⟨z, rfl, (Option.some.inj h).symm⟩
theorem in_tup {K : PySem.W.Frag} {H : Hp} {p : Addr} {xs : List V} {x : V} {Q : VK} (h : SqT K H p xs) (fx : flatV x = true) (fxs : xs.all flatV = true) (q : Q (.bl (inV x xs)) H) : rIn K false x (.ref p) H Q := ⟨p, xs, rfl, .inr h, fx, fxs, q⟩
theorem ni_tup {K : PySem.W.Frag} {H : Hp} {p : Addr} {xs : List V} {x : V} {Q : VK} (h : SqT K H p xs) (fx : flatV x = true) (fxs : xs.all flatV = true) (q : Q (.bl (!inV x xs)) H) : rIn K true x (.ref p) H Q := ⟨p, xs, rfl, .inr h, fx, fxs, q⟩
theorem isi_ty {K : PySem.W.Frag} {H : Hp} {x : V} {t : String} {n : String} {b : Bool} {Q : VK} (ht : TyX K H x (.type t)) (hk : kitB t n = some b) (q : Q (.bl b) H) : rIsi K [x, .ty n] H Q := ⟨x, .ty n, .type t, .type n, b, rfl, .ty n, ht, kit_ty hk, q⟩
theorem Paired.snoc {α β : Type} {F : α → β → Prop} {x : α} {y : β} (r : F x y) : ∀ {l : List α} {m : List β}, Paired F l m → Paired F (l ++ [x]) (m ++ [y])
  | _, _, .nil => .cons r .nil
  | _, _, .cons q t => .cons q (Paired.snoc r t)
theorem HandAt.go {H H' : Hp} {p c : Addr} (e : Evl.Ex H H') (h : HandAt H p c) : HandAt H' p c := by
  obtain ⟨cells, i, g, t, hp, hc, r⟩ := h
  exact ⟨cells, i, g, t, e _ _ hp, e _ _ hc, r⟩
theorem HandAt.lt {H : Hp} {p c l : Addr} (h : HandAt H p c) (hl : H l = none) : l ≠ p := by
  obtain ⟨cells, i, g, t, hp, _⟩ := h
  exact Ne.symm (ne_of_none hp hl)
theorem HandAt.lc {H : Hp} {p c l : Addr} (h : HandAt H p c) (hl : H l = none) : l ≠ c := by
  obtain ⟨cells, i, g, t, hp, hc, _⟩ := h
  exact Ne.symm (ne_of_none hc hl)
theorem HandAt.upd {H : Hp} {p c l : Addr} {o : HO} (h : HandAt H p c) (n1 : l ≠ p) (n2 : l ≠ c) : HandAt (upd H l o) p c := by
  obtain ⟨cells, i, g, t, hp, hc, r⟩ := h
  exact ⟨cells, i, g, t, by rw [upd_ne (Ne.symm n1)]; exact hp, by rw [upd_ne (Ne.symm n2)]; exact hc, r⟩
theorem Fr.mut {p l : Addr} {H H' : Hp} {o : HO} (f : Fr p H H') (hl : H l = none) : Fr p H (L2.upd H' l o) := fun b u n h => by
  rw [upd_ne (ne_of_none h hl)]
  exact f b u n h
theorem Fr.lst {K : PySem.W.Frag} {H H' : Hp} {p l : Addr} {xs : List V} (f : Fr p H H') (n : l ≠ p) (h : H l = some (.lst xs)) : SqL K H' l xs := SqL.of (f _ _ n h)
theorem atI_str {l : List Str} {i : Int} (h0 : 0 ≤ i) (h1 : i < (l.length : Int)) : ∃ z, z ∈ l ∧ atI (l.map V.str) i = some (.str z) := by
  obtain ⟨k, rfl⟩ : ∃ k : Nat, i = (k : Int) := ⟨i.toNat, by omega⟩
  have hk : k < l.length := by omega
  exact ⟨l[k], List.getElem_mem hk, atI_nat (by rw [List.getElem?_map, List.getElem?_eq_getElem hk] <;> rfl)⟩
theorem tk {p c : Addr} {m : Int} {H : Hp} {Q : VK} {E : XK} (h : HandAt H p c) (h0 : 0 < m) (h1 : m < 1073741824) (k : ∀ (r : Int) (H' : Hp), 0 ≤ r → r < m → Fr p H H' → HandAt H' p c → Q (.int r) H') : spTake [.ref p, .int m] H Q E := ⟨p, c, m, rfl, h, h0, h1, k⟩
def dV : V → PyData
  | .bl b => .bool b
  | .int i => .int i
  | .str x => .str x
  | _ => .none
def okF : V → Bool
  | .non => true
  | .bl _ => true
  | .int _ => true
  | .str x => PyData.strOk x
  | _ => false
theorem dp_flat {K : PySem.W.Frag} {H : Hp} {v : V} (h : okF v = true) : Dp K H v (dV v) := by
  cases v with
  | non => exact .non
  | bl b => exact .bl b
  | int i => exact .int i
  | str x => exact .str x
  | byt b => cases h
  | flt b => cases h
  | ref b => cases h
  | ty b => cases h
theorem dp_flats {K : PySem.W.Frag} {H : Hp} : ∀ {vs : List V}, vs.all okF = true → DpAll K H vs (vs.map dV)
  | [], _ => .nil
  | v :: vs, h => by
    rw [List.all_cons, Bool.and_eq_true] at h
    exact .cons (dp_flat h.1) (dp_flats h.2)
theorem lay_flat {v : V} (h : okF v = true) : (dV v).canLay0 = true ∧ (dV v).depth ≤ 1 := by
  cases v with
  | non => exact ⟨rfl, by decide⟩
  | bl b => exact ⟨rfl, by show 0 ≤ 1; omega⟩
  | int i => exact ⟨rfl, by show 0 ≤ 1; omega⟩
  | str x => exact ⟨h, by show 0 ≤ 1; omega⟩
  | byt b => cases h
  | flt b => cases h
  | ref b => cases h
  | ty b => cases h
theorem lay_all {n : Nat} : ∀ {ds : List PyData}, (∀ d ∈ ds, d.canLay0 = true ∧ d.depth ≤ n) → PyData.canLayAll0 ds = true ∧ PyData.depthAll ds ≤ n
  | [], _ => ⟨rfl, Nat.zero_le _⟩
  | d :: ds, h => by
    have h1 := h d List.mem_cons_self
    have h2 := lay_all (ds := ds) fun x hx => h x (List.mem_cons_of_mem _ hx)
    refine ⟨?_, ?_⟩
    · show (d.canLay0 && PyData.canLayAll0 ds) = true
      rw [h1.1, h2.1]; rfl
    · show max d.depth (PyData.depthAll ds) ≤ n
      omega
theorem lay_tup {n : Nat} {ds : List PyData} (h : ∀ d ∈ ds, d.canLay0 = true ∧ d.depth ≤ n) : (PyData.tuple ds).canLay0 = true ∧ (PyData.tuple ds).depth ≤ n + 1 := by
  have q := lay_all h
  exact ⟨q.1, by show PyData.depthAll ds + 1 ≤ n + 1; omega⟩
theorem lay_lst {n : Nat} {ds : List PyData} (h : ∀ d ∈ ds, d.canLay0 = true ∧ d.depth ≤ n) : (PyData.list ds).canLay0 = true ∧ (PyData.list ds).depth ≤ n + 1 := by
  have q := lay_all h
  exact ⟨q.1, by show PyData.depthAll ds + 1 ≤ n + 1; omega⟩
theorem shaped_of {d : PyData} {n : Nat} (h : d.canLay0 = true ∧ d.depth ≤ n) (hn : n ≤ 64) : SeqAt.shaped d = true := by
  unfold SeqAt.shaped
  rw [h.1, decide_eq_true (Nat.le_trans h.2 hn)]
  rfl
theorem ne_same {K : PySem.W.Frag} {H : Hp} {x y : V} {d : PyData} {Q : VK} (hx : Dp K H x d) (hy : Dp K H y d) (hs : SeqAt.shaped d = true) (q : Q (.bl false) H) : rNeD K x y H Q :=
  ⟨d, d, hx, hy, hs, hs, by rw [SeqAt.eqv_refl d (SeqAt.canLay_of_shaped hs)]; exact q⟩
theorem eq_same {K : PySem.W.Frag} {H : Hp} {x y : V} {d : PyData} {Q : VK} (hx : Dp K H x d) (hy : Dp K H y d) (hs : SeqAt.shaped d = true) (q : Q (.bl true) H) : rEqD K x y H Q :=
  ⟨d, d, hx, hy, hs, hs, by rw [SeqAt.eqv_refl d (SeqAt.canLay_of_shaped hs)]; exact q⟩
theorem op_eqD_s {X : Cx} {a : Addr} {pins : List (Addr × Obj)} (hu : (X.suite a pins).A.units + 64 < cLine) : OpR (X.suite a pins) (compareOp .Eq) (rEqD X.K) := op_eqD hu
theorem op_neD_s {X : Cx} {a : Addr} {pins : List (Addr × Obj)} (hu : (X.suite a pins).A.units + 64 < cLine) : OpR (X.suite a pins) (compareOp .NotEq) (rNeD X.K) := op_neD hu
theorem ix_list_b {X : Cx} {s : Shared} {H : Hp} {scope : Scope} {env : Env} {fp : List Addr} : IxR (X.blk s H scope env fp) (rIxL X.K) := ix_list
theorem ix_tup_b {X : Cx} {s : Shared} {H : Hp} {scope : Scope} {env : Env} {fp : List Addr} : IxR (X.blk s H scope env fp) (rIxT X.K) := ix_tup
theorem ixt {K : PySem.W.Frag} {H : Hp} {p : Addr} {xs : List V} {i : Int} {v : V} {Q : VK} (h : H p = some (.tup xs)) (e : atI xs i = some v) (q : Q v H) : rIxT K (.ref p) (.int i) H Q := ⟨p, xs, i, v, rfl, rfl, SqT.of h, e, q⟩
theorem was_true {K : PySem.W.Frag} {C : Addr} {i : Nat} {ts : Addr → Value → Option Addr → TS} {Wout : WX} {D : Ends} {d : Option Addr} {σ : L2.St} {H : Hp} (he : PySem.W.exmOne K (.ref C) (.ref C) = some true)
    (h : ∀ a, H a = none → ts a (.ref C) d { nx := fun σ' H' => D.nx (σ'.set i none) H', rt := D.rt, bk := fun σ' H' => D.bk (σ'.set i none) H', ct := fun σ' H' => D.ct (σ'.set i none) H' } (σ.set i (some (.ref a))) H) :
    wAs K (.ref C) i ts Wout D (.ref C) d σ H := ⟨true, he, fun _ => h, fun q => nomatch q⟩
/-! ### an own error made without arguments -/
theorem pmk_own0 {X : Cx} {C : Addr} {bmB : List Value} {B newId initId : String} {x : Str} {p pos : Pos} (F : ExcBaseFacts B newId initId bmB) (q : PySem.W.excIn X.K C bmB newId = true) (gC : X.mg x = some (.ref C)) (kC : PySem.W.keepIn X.K (.ref C) = true) (r : Raises X (.ref C)) (hg : Gl X x)
    (hdb : (x == ("__debug__" : Str)) = false := by decide) : PMk X (.Call (.Name x p) [] [] pos) (fun _ H Q => Q (.ref C) none H) := by
  intro pins s σ H Q I h
  refine wpAny_Call_Name_kw (ld_glob I hg gC ?_ hdb)
  refine PySem.W.callWith_K0 I.kIn kC ?_
  show wpAny _ _ (call (.ref C) []) _ _ _
  obtain ⟨bm, N, nm, qn, bs, hdct, sn, sub, ab, col, dd, k0, k1, k2, k3, k5, mN, hC, hN, hni, T⟩ := exc_obj I.kIn q
  refine wpAny_call_exc_subT F T hC hN hni (fun h' e hm => ?_) (Nat.zero_le _)
  exact mk_of I hm r h (I.hok.gone hm.new)
/-! ### a walk over what is a list or a tuple -/
theorem pi_or {X : Cx} {tg it : Expr} {r1 r2 : TI} (h1 : PI X tg it r1) (h2 : PI X tg it r2) : PI X tg it (fun σ H R => r1 σ H R ∨ r2 σ H R) :=
  ⟨fun pins s σ H R I h => h.elim (fun z => h1.run pins s σ H R I z) fun z => h2.run pins s σ H R I z⟩


/-! ### things whose class is told -/
def PlainV (H : Hp) (x : V) : Prop := x = .non ∨ (∃ b, x = .bl b) ∨ (∃ i, x = .int i) ∨ (∃ s, x = .str s) ∨ (∃ p xs, x = .ref p ∧ H p = some (.tup xs)) ∨ ∃ p xs, x = .ref p ∧ H p = some (.lst xs)
theorem PlainV.go {H H' : Hp} {x : V} (e : Evl.Ex H H') (h : PlainV H x) : PlainV H' x := by
  rcases h with h | h | h | h | ⟨p, xs, h, q⟩ | ⟨p, xs, h, q⟩
  · exact .inl h
  · exact .inr (.inl h)
  · exact .inr (.inr (.inl h))
  · exact .inr (.inr (.inr (.inl h)))
  · exact .inr (.inr (.inr (.inr (.inl ⟨p, xs, h, e _ _ q⟩))))
  · exact .inr (.inr (.inr (.inr (.inr ⟨p, xs, h, e _ _ q⟩))))
theorem plain_int {H : Hp} {i : Int} : PlainV H (.int i) := .inr (.inr (.inl ⟨i, rfl⟩))
def whB : V → Bool
  | .int _ => true
  | _ => false
def wiB (x : V) (lo hi : Int) : Bool := match x with
  | .int i => decide (lo ≤ i) && decide (i ≤ hi)
  | _ => false
def sqV : V → Bool
  | .ref _ => true
  | _ => false
theorem is_int {K : PySem.W.Frag} {H : Hp} {x : V} {Q : VK} (h : PlainV H x) (q : ∀ b c, rIsi K [x, .ty "bool"] H (fun y H' => y = .bl c ∧ H' = H) → (b && !c) = whB x → Q (.bl b) H) : rIsi K [x, .ty "int"] H Q := by
  rcases h with rfl | ⟨b, rfl⟩ | ⟨i, rfl⟩ | ⟨s, rfl⟩ | ⟨p, xs, rfl, e⟩ | ⟨p, xs, rfl, e⟩
  · exact isi_ty (t := "NoneType") (b := false) (.base .non) (by decide +kernel) (q _ false (isi_ty (t := "NoneType") (b := false) (.base .non) (by decide +kernel) ⟨rfl, rfl⟩) rfl)
  · exact isi_ty (t := "bool") (b := true) (.base (.bl _)) (by decide +kernel) (q _ true (isi_ty (t := "bool") (b := true) (.base (.bl _)) (by decide +kernel) ⟨rfl, rfl⟩) rfl)
  · exact isi_ty (t := "int") (b := true) (.base (.int _)) (by decide +kernel) (q _ false (isi_ty (t := "int") (b := false) (.base (.int _)) (by decide +kernel) ⟨rfl, rfl⟩) rfl)
  · exact isi_ty (t := "str") (b := false) (.base (.str _)) (by decide +kernel) (q _ false (isi_ty (t := "str") (b := false) (.base (.str _)) (by decide +kernel) ⟨rfl, rfl⟩) rfl)
  · exact isi_ty (t := "tuple") (b := false) (.base (.tup e)) (by decide +kernel) (q _ false (isi_ty (t := "tuple") (b := false) (.base (.tup e)) (by decide +kernel) ⟨rfl, rfl⟩) rfl)
  · exact isi_ty (t := "list") (b := false) (.base (.lst e)) (by decide +kernel) (q _ false (isi_ty (t := "list") (b := false) (.base (.lst e)) (by decide +kernel) ⟨rfl, rfl⟩) rfl)
theorem isi_mono {K : PySem.W.Frag} {H : Hp} {vs : List V} {c : Bool} {Q : VK} (h : rIsi K vs H fun y H' => y = .bl c ∧ H' = H) (q : Q (.bl c) H) : rIsi K vs H Q := by
  obtain ⟨x, y, t, u, b, e1, e2, e3, e4, e5, _⟩ := h
  cases e5
  exact ⟨x, y, t, u, _, e1, e2, e3, e4, q⟩
theorem isT2 {K : PySem.W.Frag} {H : Hp} {x : V} {tp : Addr} {t : String} {b : Bool} {Q : VK} (hT : H tp = some (.tup [.ty "list", .ty "tuple"])) (ht : TyX K H x (.type t)) (e : PySem.W.kitAny K (.type t) [.type "list", .type "tuple"] = some b) (q : Q (.bl b) H) : rIsiT K [x, .ref tp] H Q :=
  ⟨x, tp, _, _, _, b, rfl, hT, .cons (.ty _) (.cons (.ty _) .nil), ht, e, q⟩
theorem is_seq {K : PySem.W.Frag} {H : Hp} {x : V} {tp : Addr} {Q : VK} (h : PlainV H x) (hT : H tp = some (.tup [.ty "list", .ty "tuple"])) (q : Q (.bl (sqV x)) H) : rIsiT K [x, .ref tp] H Q := by
  rcases h with rfl | ⟨b, rfl⟩ | ⟨i, rfl⟩ | ⟨s, rfl⟩ | ⟨p, xs, rfl, e⟩ | ⟨p, xs, rfl, e⟩
  · exact isT2 (t := "NoneType") (b := false) hT (.base .non) (kitAny_cons (kit_ty (r := false) (by decide +kernel)) (fun _ => kitAny_cons (kit_ty (r := false) (by decide +kernel)) (fun _ => rfl) (fun h => by cases h)) (fun h => by cases h)) q
  · exact isT2 (t := "bool") (b := false) hT (.base (.bl _)) (kitAny_cons (kit_ty (r := false) (by decide +kernel)) (fun _ => kitAny_cons (kit_ty (r := false) (by decide +kernel)) (fun _ => rfl) (fun h => by cases h)) (fun h => by cases h)) q
  · exact isT2 (t := "int") (b := false) hT (.base (.int _)) (kitAny_cons (kit_ty (r := false) (by decide +kernel)) (fun _ => kitAny_cons (kit_ty (r := false) (by decide +kernel)) (fun _ => rfl) (fun h => by cases h)) (fun h => by cases h)) q
  · exact isT2 (t := "str") (b := false) hT (.base (.str _)) (kitAny_cons (kit_ty (r := false) (by decide +kernel)) (fun _ => kitAny_cons (kit_ty (r := false) (by decide +kernel)) (fun _ => rfl) (fun h => by cases h)) (fun h => by cases h)) q
  · exact isT2 (t := "tuple") (b := true) hT (.base (.tup e)) (kitAny_cons (kit_ty (r := false) (by decide +kernel)) (fun _ => kitAny_cons (kit_ty (r := true) (by decide +kernel)) (fun h => by cases h) (fun _ => rfl)) (fun h => by cases h)) q
  · exact isT2 (t := "list") (b := true) hT (.base (.lst e)) (kitAny_cons (kit_ty (r := true) (by decide +kernel)) (fun h => by cases h) (fun _ => rfl)) q
section
variable {P : Program} {w : World} {K : PySem.W.Frag} {mg : Str → Option Value} {base : Heap} {a : Ad}
def spWh : Sp := fun vs H Q _ => ∃ x, vs = [x] ∧ PlainV H x ∧ Q (.bl (whB x)) H
theorem ok_is_whole (T : Txt K mg a) : FnOk P w K mg base CX0 1 a.f_is_whole a.d_is_whole ["thing"] spWh := by
  refine T.F_is_whole.ok sc_is_whole (fun vs H Q E h => ?_) (fun cdv A outer s H vs Q E hr h => ?_)
  · obtain ⟨_, rfl, _⟩ := h
    rfl
  · obtain ⟨x, rfl, hx, k⟩ := h
    refine ⟨_, (pss_one (ps_ret (pe_and (pe_callB call_isi (by rfl) T.z_isinstance (by decide +kernel) (pa_cons (pv 0) (pa_cons (pe_bltn (v := .ty "int") (by rfl) T.z_int (by decide +kernel) rfl) pa_nil))) (pe_one (pe_not (pe_callB call_isi (by rfl) T.z_isinstance (by decide +kernel) (pa_cons (pv 0) (pa_cons (pe_bltn (v := .ty "bool") (by rfl) T.z_bool (by decide +kernel) rfl) pa_nil)))))))), ?_⟩
    walk_at "sm"
    refine is_int hx fun b c hc e => ⟨_, rfl, ?_⟩
    cases b with
    | false => exact iteF (by rw [← e] at k; exact k)
    | true => exact iteT (isi_mono hc ⟨_, rfl, by rw [← e] at k; exact k⟩)
theorem ok_law_whole (T : Txt K mg a) : FnOk P w K mg base CX0 1 a.f_law_whole a.d_law_whole ["_law_thing"] spWh := by
  refine T.F_law_whole.ok sc_law_whole (fun vs H Q E h => ?_) (fun cdv A outer s H vs Q E hr h => ?_)
  · obtain ⟨_, rfl, _⟩ := h
    rfl
  · obtain ⟨x, rfl, hx, k⟩ := h
    refine ⟨_, (pss_one (ps_ret (pe_and (pe_callB call_isi (by rfl) T.z_isinstance (by decide +kernel) (pa_cons (pv 0) (pa_cons (pe_bltn (v := .ty "int") (by rfl) T.z_int (by decide +kernel) rfl) pa_nil))) (pe_one (pe_not (pe_callB call_isi (by rfl) T.z_isinstance (by decide +kernel) (pa_cons (pv 0) (pa_cons (pe_bltn (v := .ty "bool") (by rfl) T.z_bool (by decide +kernel) rfl) pa_nil)))))))), ?_⟩
    walk_at "sm"
    refine is_int hx fun b c hc e => ⟨_, rfl, ?_⟩
    cases b with
    | false => exact iteF (by rw [← e] at k; exact k)
    | true => exact iteT (isi_mono hc ⟨_, rfl, by rw [← e] at k; exact k⟩)
def spWithin : Sp := fun vs H Q _ => ∃ (x : V) (lo hi : Int), vs = [x, .int lo, .int hi] ∧ PlainV H x ∧ Q (.bl (wiB x lo hi)) H
theorem ok_is_within (T : Txt K mg a) : FnOk P w K mg base CX0 2 a.f_is_within a.d_is_within ["thing", "least", "most"] spWithin := by
  refine T.F_is_within.ok sc_is_within (fun vs H Q E h => ?_) (fun cdv A outer s H vs Q E hr h => ?_)
  · obtain ⟨_, _, _, rfl, _⟩ := h
    rfl
  · obtain ⟨x, lo, hi, rfl, hx, k⟩ := h
    refine ⟨_, (pss_one (ps_ret (pe_and (pe_call (ok_is_whole T) (hr.mono (by decide)) rfl T.m_is_whole T.F_is_whole.kp T.b_is_whole .nil pass0 (pa_cons (pv 0) pa_nil)) (pe_one (pe_chain op_le op_le (pv 1) (pv 0) (pv 2)))))), ?_⟩
    walk_at "sm"
    refine ⟨x, rfl, hx, _, rfl, ?_⟩
    rcases hx with rfl | ⟨b, rfl⟩ | ⟨i, rfl⟩ | ⟨s, rfl⟩ | ⟨p, xs, rfl, e⟩ | ⟨p, xs, rfl, e⟩
    · exact iteF k
    · exact iteF k
    · refine iteT ?_
      walk_at "sm"
      refine ite2 (fun h => ?_) (fun h => ?_)
      · have e : wiB (.int i) lo hi = decide (i ≤ hi) := by show (decide _ && decide _) = _; rw [decide_eq_true h]; rfl
        rw [e] at k; exact k
      · have e : wiB (.int i) lo hi = false := by show (decide _ && decide _) = _; rw [decide_eq_false h]; rfl
        rw [e] at k; exact k
    · exact iteF k
    · exact iteF k
    · exact iteF k
def spSeq : Sp := fun vs H Q _ => ∃ x, vs = [x] ∧ PlainV H x ∧ ∀ H', Evl.Ex H H' → Q (.bl (sqV x)) H'
theorem ok_is_sequence (T : Txt K mg a) : FnOk P w K mg base CX0 1 a.f_is_sequence a.d_is_sequence ["thing"] spSeq := by
  refine T.F_is_sequence.ok sc_is_sequence (fun vs H Q E h => ?_) (fun cdv A outer s H vs Q E hr h => ?_)
  · obtain ⟨_, rfl, _⟩ := h
    rfl
  · obtain ⟨x, rfl, hx, k⟩ := h
    refine ⟨_, (pss_one (ps_ret (pe_callB call_isiT (by rfl) T.z_isinstance (by decide +kernel) (pa_cons (pv 0) (pa_cons (pe_tup (pa_cons (pe_bltn (v := .ty "list") (by rfl) T.z_list (by decide +kernel) rfl) (pa_cons (pe_bltn (v := .ty "tuple") (by rfl) T.z_tuple (by decide +kernel) rfl) pa_nil))) pa_nil))))), ?_⟩
    walk_at "sm"
    refine ⟨sz (by decide), fun tp htp => is_seq (hx.go (Evl.Ex.new htp)) upd_same (k _ (Evl.Ex.new htp))⟩
def spNum : Sp := fun vs H Q _ => ∃ x, vs = [x] ∧ PlainV H x ∧ Q (.bl (wiB x 0 4095)) H
def spCW (C : Addr) : Sp := fun vs H Q E => ∃ x, vs = [x] ∧ PlainV H x ∧ (wiB x 1 12 = true → Q x H) ∧ (wiB x 1 12 = false → E (.ref C) none H)
def spTwo : Sp := fun vs H Q _ => ∃ n : Nat, vs = [.int n] ∧ n ≤ 62 ∧ Q (.int (2 ^ n)) H
def ivTwo (n : Nat) (H : Hp) : Nat → L2.St → Hp → Prop := fun i σ H' => ∃ v, σ = [some (.int n), some (.int (2 ^ i)), v] ∧ H' = H
theorem ok_law_two (T : Txt K mg a) : FnOk P w K mg base CX0 1 a.f_law_two a.d_law_two ["_law_n"] spTwo := by
  refine T.F_law_two.ok sc_law_two (fun vs H Q E h => ?_) (fun cdv A outer s H vs Q E hr h => ?_)
  · obtain ⟨_, rfl, _⟩ := h
    rfl
  · obtain ⟨n, rfl, hn, k⟩ := h
    refine ⟨_, (pss_cons (ps_set (i := 1) sc_law_two.nd rfl (by first | exact Or.inl rfl | exact Or.inr rfl) pe_int)
  (pss_cons (ps_for PassesOwn.never rfl (pi_range1 (by rfl) T.z_range (pa_cons (pv 0) pa_nil)) (pg_name (i := 2) sc_law_two.nd rfl (by first | exact Or.inl rfl | exact Or.inr rfl)) (pss_one (ps_set (i := 1) sc_law_two.nd rfl (by first | exact Or.inl rfl | exact Or.inr rfl) (pe_op op_mul (pv 1) pe_int))))
  (pss_one (ps_ret (pv 1))))), ?_⟩
    walk_at "sm"
    refine ⟨_, rfl, (n : Int), rfl, by omega, by omega, ?_⟩
    refine for_range (lo := 0) (n := (n : Int).toNat) (ivTwo n H) ⟨none, rfl, rfl⟩ ?_ ?_
    · rintro i σ H' hi ⟨v, rfl, rfl⟩
      walk_at "sm"
      have p1 : (2 : Int) ^ i ≤ 2 ^ 62 := by
        have := Nat.pow_le_pow_right (show 0 < 2 by decide) (show i ≤ 62 by omega)
        exact_mod_cast this
      have p0 : (0 : Int) ≤ 2 ^ i := Int.le_of_lt (Int.pow_pos (by decide))
      refine ⟨.inl ⟨by omega, by omega⟩, some (.int (0 + (i : Int))), ?_, rfl⟩
      rw [Int.pow_succ]
    · rintro σ H' ⟨v, rfl, rfl⟩
      walk_at "sm"
      exact k
end

local macro_rules | `(tactic| walk_at "sm") => `(tactic| try simp only [sFld, tFld, tMake, tMakeS, tSeq, tAsg, tRet, tRetN, tDrop, tOp, tUn, tVar, tC, tCB, tCons, tNil, tLst, tTup, tTest, tB, tAnd, tOr, tNot, tAndV, tOrV, tNotV, tIf, tIfS, tNext, tCont, tBreak, tCall, tCallS, WE, tXf, rI0, rI, rU, gName, gNil, gCons, gTup, gSub, tAug, tBM, tBM0, tM1, rNewStrs, tLc_eq, iRng1, iRng2, iList, iTup, tYes, wipe, List.foldl_cons, List.foldl_nil, rEq, rNe, scal, rIxS, rSlS, tSl, tPart, tNoPart, tChain, ipI, str1, tMkO_eq, L2.start, List.map_cons, List.map_nil, List.append_nil, List.cons_append, List.nil_append, List.length_cons, List.length_nil, List.drop, List.replicate, List.getElem?_cons_zero, List.getElem?_cons_succ, List.set_cons_zero, List.set_cons_succ, Option.some.injEq, V.int.injEq, V.str.injEq, V.ref.injEq, V.bl.injEq, List.cons.injEq, reduceCtorEq, false_and, and_false, exists_false, or_false, false_or, exists_eq_left', exists_eq_left, and_assoc, cx_K, exists_and_left, exists_and_right, and_true, true_and, decide_eq_true_eq, if_true, if_false, Bool.false_eq_true])

/-! ### common to the laws of bare webs -/
theorem lcg_tup {K : PySem.W.Frag} {a : Addr} {xs : List V} {g : TG} {tt : TT} {te : TE} {vs : List Nat} {σ : L2.St} {H1 : Hp} {Q : VK} (Pv : Addr → Nat → Hp → Prop) (h0 : ∀ D, H1 D = none → Pv D 0 (upd H1 D (.lst []))) (hl : ∀ D i H, H1 D = none → i ≤ xs.length → Pv D i H → SqT K H a xs)
    (hs : ∀ D i x H, H1 D = none → xs[i]? = some x → Pv D i H → g x (wipe σ vs) H fun σ2 H2 => wipe σ2 vs = wipe σ vs ∧ tt σ2 H2 fun b H3 =>
      if b = true then te σ2 H3 fun y H4 => ∃ acc, H4 D = some (.lst acc) ∧ acc.length < sizeLine ∧ Pv D (i + 1) (upd H4 D (.lst (acc ++ [y]))) else Pv D (i + 1) H3) (hd : ∀ D H, H1 D = none → Pv D xs.length H → Q (.ref D) H) : LcG (Itt K a) g tt te vs σ Q H1 :=
  fun D hD => lc_tup (Qd := fun H => Q (.ref D) H) (Pv D) (h0 D hD) (fun i H hi h => hl D i H hD hi h) (fun i x H hi h => hs D i x H hD hi h) fun H h => hd D H hD h
def SqAt (H : Hp) (p : Addr) (xs : List V) : Prop := H p = some (.tup xs) ∨ H p = some (.lst xs)
theorem SqAt.go {H H' : Hp} {p : Addr} {xs : List V} (e : Evl.Ex H H') (h : SqAt H p xs) : SqAt H' p xs := h.imp (e _ _) (e _ _)
theorem SqAt.plain {H : Hp} {p : Addr} {xs : List V} (h : SqAt H p xs) : PlainV H (.ref p) := h.elim (fun q => .inr (.inr (.inr (.inr (.inl ⟨p, xs, rfl, q⟩))))) fun q => .inr (.inr (.inr (.inr (.inr ⟨p, xs, rfl, q⟩))))
theorem SqAt.sq {K : PySem.W.Frag} {H : Hp} {p : Addr} {xs : List V} (h : SqAt H p xs) : SqL K H p xs ∨ SqT K H p xs := h.elim (fun q => .inr (SqT.of q)) fun q => .inl (SqL.of q)
theorem iteT' {c : Bool} {A B : Prop} (h : c = true) (a : A) : if c = true then A else B := by rw [if_pos h]; exact a
theorem iteF' {c : Bool} {A B : Prop} (h : c = false) (b : B) : if c = true then A else B := by rw [h]; exact b
theorem paired_at {α β : Type} {F : α → β → Prop} : ∀ {l : List α} {m : List β} {i : Nat} {x : α}, Paired F l m → l[i]? = some x → ∃ y, m[i]? = some y ∧ F x y
  | _, _, _, _, .nil, h => by simp at h
  | _, _, 0, _, .cons f _, h => by
    simp at h
    exact ⟨_, rfl, h ▸ f⟩
  | _, _, i + 1, _, .cons _ t, h => by
    obtain ⟨y, h1, h2⟩ := paired_at (i := i) t (by simpa using h)
    exact ⟨y, by simpa using h1, h2⟩
theorem paired_len {α β : Type} {F : α → β → Prop} : ∀ {l : List α} {m : List β}, Paired F l m → l.length = m.length
  | _, _, .nil => rfl
  | _, _, .cons _ t => by rw [List.length_cons, List.length_cons, paired_len t]
theorem range_lt (n : Nat) : (List.range n).Pairwise (· < ·) := by first | exact List.pairwise_lt_range | exact List.pairwise_lt_range _
theorem asc_uniq : ∀ {l m : List Int}, l.Pairwise (· < ·) → m.Pairwise (· < ·) → (∀ k, k ∈ l ↔ k ∈ m) → l = m
  | [], [], _, _, _ => rfl
  | [], y :: m, _, _, h => absurd ((h y).mpr List.mem_cons_self) (by simp)
  | x :: l, [], _, _, h => absurd ((h x).mp List.mem_cons_self) (by simp)
  | x :: l, y :: m, hl, hm, h => by
    obtain ⟨l1, l2⟩ := List.pairwise_cons.mp hl
    obtain ⟨m1, m2⟩ := List.pairwise_cons.mp hm
    have e : x = y := by
      rcases List.mem_cons.mp ((h x).mp List.mem_cons_self) with q | q
      · exact q
      · rcases List.mem_cons.mp ((h y).mpr List.mem_cons_self) with q2 | q2
        · exact q2.symm
        · have a1 := m1 x q
          have a2 := l1 y q2
          omega
    subst e
    rw [asc_uniq l2 m2 fun k => ?_]
    constructor
    · intro q
      rcases List.mem_cons.mp ((h k).mp (List.mem_cons_of_mem _ q)) with q2 | q2
      · have := l1 k q
        omega
      · exact q2
    · intro q
      rcases List.mem_cons.mp ((h k).mpr (List.mem_cons_of_mem _ q)) with q2 | q2
      · have := m1 k q
        omega
      · exact q2
abbrev nI (l : List Nat) : List Int := l.map fun n : Nat => (n : Int)
theorem ints_lt {l : List Nat} (h : l.Pairwise (· < ·)) : (nI l).Pairwise (· < ·) := by
  rw [List.pairwise_map]
  exact h.imp fun q => by exact_mod_cast q
theorem mem_ints {l : List Nat} {k : Int} : k ∈ nI l ↔ ∃ n : Nat, n ∈ l ∧ k = n := by
  rw [List.mem_map]
  exact ⟨fun ⟨n, h1, h2⟩ => ⟨n, h1, h2.symm⟩, fun ⟨n, h1, h2⟩ => ⟨n, h1, h2.symm⟩⟩
def Kp (H H' : Hp) : Prop := (∀ b xs, H b = some (.tup xs) → H' b = some (.tup xs)) ∧ ∀ b xs, H b = some (.lst xs) → H' b = some (.lst xs)
theorem Kp.ex {H H' : Hp} (e : Evl.Ex H H') : Kp H H' := ⟨fun _ _ h => e _ _ h, fun _ _ h => e _ _ h⟩
theorem Kp.fr {H H' : Hp} {x C dx : Addr} {fs : List (Str × V)} (hx : H x = some (.ins C dx fs)) (f : Fr x H H') : Kp H H' :=
  ⟨fun b xs h => f b _ (fun q => by rw [q, hx] at h; cases h) h, fun b xs h => f b _ (fun q => by rw [q, hx] at h; cases h) h⟩
theorem Kp.trans {H H1 H2 : Hp} (a : Kp H H1) (b : Kp H1 H2) : Kp H H2 := ⟨fun _ _ h => b.1 _ _ (a.1 _ _ h), fun _ _ h => b.2 _ _ (a.2 _ _ h)⟩
theorem PlainV.kp {H H' : Hp} {x : V} (e : Kp H H') (h : PlainV H x) : PlainV H' x := by
  rcases h with h | h | h | h | ⟨p, xs, h, q⟩ | ⟨p, xs, h, q⟩
  · exact .inl h
  · exact .inr (.inl h)
  · exact .inr (.inr (.inl h))
  · exact .inr (.inr (.inr (.inl h)))
  · exact .inr (.inr (.inr (.inr (.inl ⟨p, xs, h, e.1 _ _ q⟩))))
  · exact .inr (.inr (.inr (.inr (.inr ⟨p, xs, h, e.2 _ _ q⟩))))
theorem SqAt.kp {H H' : Hp} {p : Addr} {xs : List V} (e : Kp H H') (h : SqAt H p xs) : SqAt H' p xs := h.imp (e.1 _ _) (e.2 _ _)
theorem iteN {c A B : Prop} [Decidable c] (h : ¬ c) (b : B) : if c then A else B := by rw [if_neg h]; exact b
theorem iteP {c A B : Prop} [Decidable c] (h : c) (a : A) : if c then A else B := by rw [if_pos h]; exact a
theorem ix0 {K : PySem.W.Frag} {H : Hp} {p : Addr} {x : V} {r : List V} {Q : VK} (h : H p = some (.tup (x :: r))) (q : Q x H) : rIxT K (.ref p) (.int 0) H Q := ixt h (atI_nat (j := 0) rfl) q
theorem ix1 {K : PySem.W.Frag} {H : Hp} {p : Addr} {x y : V} {r : List V} {Q : VK} (h : H p = some (.tup (x :: y :: r))) (q : Q y H) : rIxT K (.ref p) (.int 1) H Q := ixt h (atI_nat (j := 1) rfl) q

local macro_rules | `(tactic| walk_at "sm") => `(tactic| try simp only [tSeq, tAsg, tRet, tRetN, tDrop, tOp, tUn, tVar, tC, tCB, tCons, tNil, tLst, tTup, tTest, tB, tAnd, tOr, tNot, tAndV, tOrV, tNotV, tIf, tIfS, tNext, tCont, tBreak, tCall, tCallS, WE, tXf, rI0, rI, rU, gName, gNil, gCons, gTup, gSub, tAug, tBM, tBM0, tM1, rNewStrs, tLc_eq, iRng1, iRng2, iList, iTup, tYes, wipe, List.foldl_cons, List.foldl_nil, rEq, rNe, scal, rIxS, rSlS, tSl, tPart, tNoPart, tChain, ipI, str1, tMkO_eq, L2.start, List.map_cons, List.map_nil, List.append_nil, List.cons_append, List.nil_append, List.length_cons, List.length_nil, List.drop, List.replicate, List.getElem?_cons_zero, List.getElem?_cons_succ, List.set_cons_zero, List.set_cons_succ, Option.some.injEq, V.int.injEq, V.str.injEq, V.ref.injEq, V.bl.injEq, List.cons.injEq, reduceCtorEq, false_and, and_false, exists_false, or_false, false_or, exists_eq_left', exists_eq_left, and_assoc, cx_K, exists_and_left, exists_and_right, and_true, true_and, decide_eq_true_eq, if_true, if_false, Bool.false_eq_true])

/-! ### errors with nothing in their context; an error out of an except suite; an object made in a try -/
section
variable {P : Program} {w : World} {K : PySem.W.Frag} {mg : Str → Option Value} {base : Heap}
theorem fn_okN {x qual : Str} {st : Stmt} {f : Addr} {fd : FuncData} {N ps : List Str} {k : Nat} {sp : Sp} (F : Fun K x qual st f fd) (S : FnScope N ps (defScope st)) (len : ∀ vs H Q E, sp vs H Q E → vs.length = ps.length)
    (hb : ∀ (cdv : Value) (A : Around) (outer : List Env) (s : Shared) (H : Hp) (vs : List V) (Q : VK) (E : XK), Room k (A.deeper (envOfC qual (defScope st) s.heap.objs.size f cdv)) → sp vs H Q E →
      ∃ t, PSs (cxOf (L2N.CX P w) P w K mg base N qual (defScope st) f cdv A outer s H E) (defBody st) t ∧ t { nx := fun _ H' => Q .non H', rt := Q } (start N vs) H) : FnOk P w K mg base (L2N.CX P w) (k + 1) f fd ps sp := by
  obtain ⟨_, _, _, _, _, _, cdv, _, _, rfl, look, cd⟩ := F.ex
  exact fn_of look cd S len fun A outer s H vs Q E room asks => hb cdv A outer s H vs Q E room asks
end
section
variable {X : Cx} {C : Addr} {bmB : List Value} {B newId initId : String} {x : Str} {p pos : Pos}
theorem pmkN_own0 (F : ExcBaseFacts B newId initId bmB) (q : PySem.W.excIn X.K C bmB newId = true) (gC : X.mg x = some (.ref C)) (kC : PySem.W.keepIn X.K (.ref C) = true) (r : Raises X (.ref C)) (hg : Gl X x)
    (hdb : (x == ("__debug__" : Str)) = false := by decide) : L2N.PMk X (.Call (.Name x p) [] [] pos) (fun _ H Q => Q (.ref C) none H) := by
  intro pins s σ H Q I h
  refine wpAny_Call_Name_kw (ld_glob I hg gC ?_ hdb)
  refine PySem.W.callWith_K0 I.kIn kC ?_
  show wpAny _ _ (call (.ref C) []) _ _ _
  obtain ⟨_, _, _, _, _, _, _, _, _, _, _, _, _, _, _, _, _, hC, hN, hni, T⟩ := exc_obj I.kIn q
  refine wpAny_call_exc_subT F T hC hN hni (fun h' e hm => ?_) (Nat.zero_le _)
  exact L2N.mk_of I hm r h (I.hok.gone hm.new)
theorem pmk5_own0 (F : ExcBaseFacts B newId initId bmB) (q : PySem.W.excIn X.K C bmB newId = true) (gC : X.mg x = some (.ref C)) (kC : PySem.W.keepIn X.K (.ref C) = true) (r : Raises X (.ref C)) (hg : Gl X x)
    (hdb : (x == ("__debug__" : Str)) = false := by decide) : L2H.PMk5 X (.Call (.Name x p) [] [] pos) (fun _ H Q => Q (.ref C) none H) := by
  intro pins s σ H Q I h
  refine wpAny_Call_Name_kw (ld_glob I hg gC ?_ hdb)
  refine PySem.W.callWith_K0 I.kIn kC ?_
  show wpAny _ _ (call (.ref C) []) _ _ _
  obtain ⟨_, _, _, _, _, _, _, _, _, _, _, _, _, _, _, _, _, hC, hN, hni, T⟩ := exc_obj I.kIn q
  refine wpAny_call_exc_subT F T hC hN hni (fun h' e hm => ?_) (Nat.zero_le _)
  exact L2H.mk_of5 I hm r h (I.hok.gone hm.new)
end
/-- an object made where what is let out may tell of the names -/
def tMakeS (C : Addr) (sp : Sp) (E : L2.St → XK) (t : TA) : TE := fun σ H Q => t σ H fun vs H1 => ∀ x dx, H1 x = none → H1 dx = none → dx ≠ x → sp (.ref x :: vs) (upd (upd H1 dx (.own x)) x (.ins C dx [])) (fun v H2 => v = .non ∧ Q (.ref x) H2) (E σ)
theorem pe_makeS {X : Cx} {CX : CXT} {k : Nat} {f C : Addr} {fd : FuncData} {ps : List Str} {sp : Sp} {E : L2.St → XK} {x : Str} {e : Expr} {es : List Expr} {t : TA} {p pos : Pos} (M : Mk X.K C f) (F : FnOk X.prog X.w X.K X.mg X.base CX k f fd ps sp)
    (hr : Room (k + 1) X.A) (hg : Gl X x) (hm : X.mg x = some (.ref C)) (hb : Binds X.K fd ps []) (hx : ∀ σ, PassesAt CX X σ (E σ)) (ha : PA X (e :: es) t) (hdb : (x == ("__debug__" : Str)) = false := by decide)
    (he : starEach (e :: es) X.env = (false, eval e X.env) :: starEach es X.env := by rfl) (hpl : (backTo pos (starEach es X.env)).any (·.1) = false := by rfl) : PE X (.Call (.Name x p) (e :: es) [] pos) (tMakeS C sp E t) := by
  refine ⟨fun pins s σ H Q I h => wpAny_Call_Name_kw (ld_glob I hg hm ?_ hdb)⟩
  refine PySem.W.callWith_K (h₀ := X.base) I.ok.mod.kin M.kp (thn (ha.run pos pins s σ H _ I h) fun us s1 ⟨vs, H1, I1, rv, q⟩ => ⟨I1.kIn, ?_⟩) he hpl
  have asks := q (s1.heap.objs.size + 1) s1.heap.objs.size (I1.hok.fresh (Nat.le_succ _)) (I1.hok.fresh (Nat.le_refl _)) (Nat.ne_of_lt (Nat.lt_succ_self _))
  have I2 := Inv.made (C := C) I1
  have rs : Vals (V.ref (s1.heap.objs.size + 1) :: vs) (Value.ref (s1.heap.objs.size + 1) :: us) := .cons rfl rv
  have hl : (Value.ref (s1.heap.objs.size + 1) :: us ++ []).length = ps.length := by
    rw [List.append_nil, ← rs.length]
    exact F.len _ _ _ _ asks
  have bd := hb _ (Value.ref (s1.heap.objs.size + 1) :: us) I2.kIn hl
  rw [List.append_nil] at bd
  refine wpAny_call (make_map (f := f) I1.kIn M.makes M.init (beq_iff_eq.mp M.fn) (codeAny_mono (F.run _ X.stack _ _ ⟨Value.ref (s1.heap.objs.size + 1) :: us, []⟩ (Value.ref (s1.heap.objs.size + 1) :: us) _ _ (E σ) (hr.make C us [])
    (I2.env0.make C us []) bd rs asks) fun r s' out => ?_))
  cases r with
  | error ex => exact hx σ pins _ _ ex s' I2 out
  | ok fl =>
    cases fl with
    | ret u =>
      obtain ⟨v, H', I3, rv2, ev, q3⟩ := I2.after out
      subst ev
      exact ⟨rv2, ⟨V.ref (s1.heap.objs.size + 1), H', I3, rfl, q3⟩⟩
    | next => exact False.elim out
    | brk => exact False.elim out
    | cont => exact False.elim out
theorem only_true {K : PySem.W.Frag} {C : Addr} {ts : Addr → Value → Option Addr → TS} {Wout : WX} {D : Ends} {d : Option Addr} {σ : L2.St} {H : Hp} (he : PySem.W.exmOne K (.ref C) (.ref C) = some true)
    (h : ∀ a, H a = none → ts a (.ref C) d D σ H) : L2.wOnly K (.ref C) ts Wout D (.ref C) d σ H := ⟨true, he, fun _ => h, fun q => nomatch q⟩


/-! ### enumerate(t), t a tuple -/
set_option maxHeartbeats 4000000 in
theorem newEnum1 {v : Value} {o : Obj} {J : Heap → Prop} (B : Begins v o J) :
    Meets (Builtin.«enumerate.__new__» ⟨[.type "enumerate", v], []⟩) (fun _ R s => J s.heap ∧
      R (.ok (.ret (.ref (s.heap.push o).objs.size))) { s with heap := (s.heap.push o).push { cls := .type "enumerate", data := .fields #[.none, .bool false, .ref s.heap.objs.size, rawInt 0, .none, .none] } }) :=
  .of_wp fun prog w A R s h => by
    obtain ⟨hp, g, d, tk, os⟩ := s
    obtain ⟨h1, h⟩ := h
    have hsub := sub_enumerate
    have go : ∀ {A1 : Around} {E1 : Value → Shared → Prop} {Q1 : Value → Shared → Prop}, Q1 (.ref hp.objs.size) ⟨hp.push o, g, d, tk, os⟩ → wpAny (model prog w) A1 (pyIter v) Q1 E1 ⟨hp, g, d, tk, os⟩ := fun q => B.iter prog w _ _ ⟨hp, g, d, tk, os⟩ _ h1 q
    wp_walk using go
    refine wpAny_stack_any fun st => wpAny_pure ?_
    split
    · rename_i c _ _ _ _ _
      cases (c == Value.type "enumerate") <;> (wp_walk using go; exact ⟨_, rfl, h⟩)
    · wp_walk using go
      exact ⟨_, rfl, h⟩
theorem callEnum1 {prog : Program} {w : World} {A : Around} {E : Value → Shared → Prop} {s : Shared} {v : Value} {o : Obj} {J : Heap → Prop} {Q : Value → Shared → Prop} (B : Begins v o J) (h1 : J s.heap)
    (h : ∀ h2, IsEnum h2 (s.heap.objs.size + 1) s.heap.objs.size 0 .none → h2.get? s.heap.objs.size = some o → (∀ b u, s.heap.get? b = some u → h2.get? b = some u) → Q (.ref (s.heap.objs.size + 1)) { s with heap := h2 }) :
    wpAny (model prog w) A (call (.type "enumerate") [v]) Q E s := by
  refine callType_new F.called_enumerate (by decide) (F.typeCall_enumerate_1 _) (F.newCall_enumerate_1 _) (fun obj => F.args_object_init_2 obj _) F.entry_enumerate_new (newEnum1 B) ⟨h1, ?_⟩
  have hz : (s.heap.push o).objs.size = s.heap.objs.size + 1 := Heap.size_push ..
  have he := Heap.get?_push_size (s.heap.push o) (o := { cls := .type "enumerate", data := .fields #[.none, .bool false, .ref s.heap.objs.size, rawInt 0, .none, .none] }) rfl
  show _ ∧ _
  rw [hz] at he ⊢
  exact ⟨⟨_, he, rfl⟩, h _ he (Heap.get?_push_of_some _ (Heap.get?_push_size _ B.free)) fun b u x => Heap.get?_push_of_some _ (Heap.get?_push_of_some _ x)⟩
def ItT (K : PySem.W.Frag) (a : Addr) : It where
  go i H := ∃ (xs : List V) (x : V), SqT K H a xs ∧ xs[i]? = some x
  yld i H v H' := ∃ T x, v = .ref T ∧ H T = none ∧ H' = upd H T (.tup [.int (i : Nat), x]) ∧ ∀ xs, SqT K H a xs → xs[i]? = some x
  stop i H := ∃ xs : List V, SqT K H a xs ∧ xs.length = i
theorem tup_ne {h : Heap} {a it : Addr} {i : Nat} {its : Array Value} (p : IsTup h a its) (q : h.IsTupleIter it a i) : a ≠ it := fun z => by
  subst z
  obtain ⟨o, e1, c1, _⟩ := p
  obtain ⟨o2, e2, c2, _⟩ := q
  rw [e1] at e2
  cases e2
  rw [c1] at c2
  injection c2 with c3
  exact absurd c3 (by decide)
theorem turn_enumT {P : Program} {w : World} {K : PySem.W.Frag} {elts : List Expr} {kk : Nat} {tpos : Pos} (a e it : Addr) :
    Turn P w K (.Tuple elts kk tpos) (ItT K a) [e, it] e (fun i h => (∃ old, IsEnum h e it ((i : Nat) : Int) old) ∧ h.IsTupleIter it a i ∧ e ≠ it) where
  mem := List.mem_cons_self
  obj := fun i h z b hb => by
    obtain ⟨⟨old, he⟩, ⟨o, ho, hc, hd⟩, _⟩ := z
    rcases List.mem_cons.mp hb with rfl | hb
    · exact ⟨_, he, fun v q => by cases q⟩
    · rw [List.mem_singleton.mp hb]; exact ⟨o, ho, fun v q => by rw [hd] at q; cases q⟩
  keep := fun i h h2 z k => by
    obtain ⟨⟨old, he⟩, hi, hne⟩ := z
    exact ⟨⟨old, k e (by simp) _ he⟩, hi.at fun o q => k it (by simp) o q, hne⟩
  item := by
    rintro X rfl rfl rfl hc i pins s σ H E I hf z ⟨xs, x, hq, hx⟩
    obtain ⟨⟨old, he⟩, hit, hne⟩ := z
    obtain ⟨its, rv, p, hz⟩ := I.tuple hq
    obtain ⟨u, hu, ru⟩ := rv.get hx
    have hil : i < its.toArray.size := by rw [List.size_toArray]; exact (List.getElem?_eq_some_iff.mp hu).1
    have hai := tup_ne p hit
    have D := Draws.tuple (prog := X.prog) (w := X.w) (A := X.A.in1) (I.ok.hd hc) it a hai its.toArray
    have hea : e ≠ a := fun q => by
      obtain ⟨o, e1, c1, _⟩ := p
      rw [← q, show s.heap.get? e = _ from he] at e1
      cases e1
      injection c1 with c3
      exact absurd c3 (by decide)
    refine wpAny_pyNext_enum_itemC D he ⟨hit, p⟩ hil hne (by simp [hne, hea]) fun y h2 tk hP ho hst hT hsz hk => ?_
    have ey : y = u := by
      have hP2 : its.toArray[i]? = some y := hP
      rw [List.getElem?_toArray, hu] at hP2
      exact (Option.some.inj hP2).symm
    subst ey
    have hel : e < s.heap.objs.size := Heap.lt_size he
    have hil2 : it < s.heap.objs.size := by obtain ⟨_, q, _⟩ := hit; exact Heap.lt_size q
    refine ⟨_, rfl, wpAny_letOwnedTupleGo_enum (s := { s with heap := h2, toks := tk + 1 }) ho fun h3 he3 sb => ?_⟩
    have hT2 := (sb.2 _ (Nat.ne_of_gt hel)).trans hT
    have nw : ObjOk X.prog X.w (upd H s.heap.objs.size (.tup [.int (i : Nat), x])) h3 s.heap.objs.size (.tup [.int (i : Nat), x]) := ⟨by show 2 ≤ sizeLine; decide, [.int i tk, y], .cons ⟨_, rfl⟩ (.cons ru .nil), ⟨_, hT2, rfl, _, rfl⟩⟩
    have I1 : Inv X pins σ (upd H s.heap.objs.size (.tup [.int (i : Nat), x])) { s with heap := h3, toks := tk + 1 } :=
      I.turnedNew (ch := [e, it]) (fun b ob hb q => (sb.2 b fun z => hb (by simp [z])).trans (hk b ob (fun z => hb (by simp [z])) (fun z => hb (by simp [z])) q)) hf (Nat.le_refl _) nw
    refine ⟨.ref s.heap.objs.size, _, I1, rfl, ⟨_, x, rfl, I.hok.fresh (Nat.le_refl _), rfl, fun ys hy => by rw [I.tuple_inj hy hq]; exact hx⟩, ⟨⟨y, ?_⟩, hst.1.at fun o q => (sb.2 it (Ne.symm hne)).trans q, hne⟩, fun b hb => ?_⟩
    · rw [show ((i + 1 : Nat) : Int) = (i : Int) + 1 by omega]
      exact he3
    · have hb2 : b < s.heap.objs.size := by
        rcases List.mem_cons.mp hb with rfl | hb1
        · exact hel
        · rw [List.mem_singleton.mp hb1]; exact hil2
      rw [upd_ne (Nat.ne_of_lt hb2)]
      exact (hf b hb).1
  done := by
    rintro X rfl rfl rfl hc i pins s σ H E I hf z ⟨xs, hq, hx⟩
    obtain ⟨⟨old, he⟩, hit, hne⟩ := z
    obtain ⟨its, rv, p, hz⟩ := I.tuple hq
    obtain ⟨f0, f1, f2, f3, f4, f5⟩ := hf it (by simp)
    have hl := rv.length
    have hn : its.toArray.size = i := by rw [List.size_toArray, ← hl]; exact hx
    have D := Draws.tuple (prog := X.prog) (w := X.w) (A := X.A.in1) (I.ok.hd hc) it a (tup_ne p hit) its.toArray
    exact wpAny_pyNext_enum_endD D he (by rw [hn]; exact ⟨hit, p⟩) fun h2 kx => ⟨rfl, I.turned (t' := s.toks) (fun b o hb q => kx b o hb q) f0 f1 f3 f4 f5⟩
  self := fun A i s Q E z h => wpAny_pyIter_enum z.1.choose_spec h
def iEnumT (K : PySem.W.Frag) (ta : TA) : TI := fun σ H R => ta σ H fun vs H1 => ∃ a xs, vs = [.ref a] ∧ SqT K H1 a xs ∧ R (ItT K a) H1
theorem pi_enumT {X : Cx} {e : Expr} {ta : TA} {p pos tpos : Pos} {elts : List Expr} {kk : Nat} (hg : Gl X "enumerate") (hm : X.mg "enumerate" = none) (ha : PA X [e] ta) (hs : starEach [e] X.env = [(false, eval e X.env)] := by rfl) :
    PI X (.Tuple elts kk tpos) (.Call (.Name "enumerate" p) [e] [] pos) (iEnumT X.K ta) := by
  refine ⟨fun pins s σ H R I h => Call_ (ld_blt I hg hm boot_enumerate (PyProof.Rows.callWith_type1 (thn (ha.run pos pins s σ H _ I h) fun us s1 ⟨vs, H1, I1, r1, a, xs, ex, hq, q⟩ => ?_) hs rfl))⟩
  subst ex
  cases r1 with
  | cons r rr =>
    cases rr
    cases r
    obtain ⟨its, rv, p2, hz⟩ := I1.tuple hq
    refine callEnum1 (begins_tuple a its.toArray) p2 fun h2 he hit hk => wpAny_pyIter_enum he ?_
    have I2 : Inv X pins σ H1 { s1 with heap := h2 } := I1.kept (t' := s1.toks) hk
    refine ⟨s1.heap.objs.size + 1, [s1.heap.objs.size + 1, s1.heap.objs.size], _, _, H1, rfl, I2, turn_enumT a (s1.heap.objs.size + 1) s1.heap.objs.size, ⟨⟨.none, he⟩, ⟨_, hit, rfl, rfl⟩, Nat.succ_ne_self _⟩, fun b hb => ?_, q⟩
    have hle : s1.heap.objs.size ≤ b := by
      rcases List.mem_cons.mp hb with rfl | hb1
      · exact Nat.le_add_right _ _
      · rw [List.mem_singleton.mp hb1]; exact Nat.le_refl _
    exact I1.fpOk hle (I1.hok.fresh hle)
theorem for_en {J : It} {n : Nat} {g : TG} {tb : TS} {D : Ends} {σ : L2.St} {H : Hp} (Pv : Nat → L2.St → Hp → Prop) (h0 : Pv 0 σ H) (hgo : ∀ i σ H, i < n → Pv i σ H → J.go i H) (hstop : ∀ σ H, Pv n σ H → J.stop n H)
    (hs : ∀ i σ H x H1, i < n → Pv i σ H → J.yld i H x H1 → g x σ H1 fun σ2 H2 => tb { D with nx := Pv (i + 1), ct := Pv (i + 1), bk := D.nx } σ2 H2) (hd : ∀ σ H, Pv n σ H → D.nx σ H) :
    ∃ W : Nat → Nat → L2.St → Hp → Prop, (∃ m, W 0 m σ H) ∧ ∀ i m σ H, W i m σ H →
      (J.stop i H ∧ D.nx σ H) ∨ (J.go i H ∧ ∃ N : L2.St → Hp → Prop, (∀ σ1 H1, N σ1 H1 → ∃ m1, m1 < m ∧ W (i + 1) m1 σ1 H1) ∧ ∀ x H1, J.yld i H x H1 → g x σ H1 fun σ2 H2 => tb { D with nx := N, ct := N, bk := D.nx } σ2 H2) := by
  refine ⟨fun i m σ H => m = n - i ∧ i ≤ n ∧ Pv i σ H, ⟨n, rfl, Nat.zero_le _, h0⟩, ?_⟩
  rintro i m σ H ⟨rfl, hi, pv⟩
  rcases Nat.lt_or_eq_of_le hi with hl | rfl
  · exact .inr ⟨hgo i σ H hl pv, Pv (i + 1), fun σ1 H1 q => ⟨n - (i + 1), by omega, rfl, hl, q⟩, fun x H1 y => hs i σ H x H1 hl pv y⟩
  · exact .inl ⟨hstop σ H pv, hd σ H pv⟩


/-! ### set(a list or tuple of ints), len of it, sorted of it -/
abbrev noInts (w : World) : Obj := { cls := .type "set", dict := none, data := .set #[] 0 (.fresh 0 0 (!w.params.followText "set-order")) }
section
variable {s : Shared} {A : Around} {E : Value → Shared → Prop} {P : Program} {w : World}
set_option maxRecDepth 100000 in
set_option maxHeartbeats 3200000 in
theorem call_setI {q : Addr} {items : Array Value} (ns : List Int) {Q : Value → Shared → Prop} (hh : A.handled = none) (hq : s.heap.IsList q items) (hv : IntsAre items.toList ns) (hb : ns.length + 1 < scanBound)
    (fin : ∀ (h' : Heap) (tk : Nat), (∃ c, c ≤ ns.length ∧ SetR w h' s.heap.objs.size (fun j => decide (j ∈ ns)) c) → (∀ b o, s.heap.get? b = some o → h'.get? b = some o) → Q (.ref s.heap.objs.size) { s with heap := h', toks := tk }) :
    wpAny (model P w) A (call (.type "set") [.ref q]) Q E s := by
  have len : items.size = ns.length := by
    have q := IntsAre.length hv
    rw [Array.length_toList] at q
    exact q
  obtain ⟨c, tl, mro⟩ := F.called_set.mro
  have k1 := F.called_set.made
  have k2 := F.called_set.sub
  have k3 := F.called_set.notType
  have k4 := F.called_set.canCreate
  have k5 := F.typeCall_set_1 (.ref q)
  refine wpAny_call (codeAny_of_tree ?_)
  show wpAny _ _ (callAny (.type "set") _) _ _ _
  refine wpAny_pure ⟨Code.quiet_builtin _ (by decide +kernel), ?_⟩
  refine codeAny_builtin F.entry_type_call ?_
  rw [Around.under_plain (weight_type_call_type "set" [.ref q] []) rfl]
  repeat (any_goals (first | assumption | wp_step))
  refine codeAny_mono (code_set_led1 (.ref q) (E := E) (Q₁ := fun obj s1 => obj = .ref s.heap.objs.size ∧ s1 = { s with heap := s.heap.push (noInts w) }) ⟨rfl, rfl⟩) fun r s1 hr => ?_
  cases r with
  | error e => exact hr
  | ok fl =>
    cases fl with
    | ret obj =>
      obtain ⟨rfl, rfl⟩ := hr
      have n1 : (s.heap.push (noInts w)).get? s.heap.objs.size = some (noInts w) := Heap.get?_push_size _ rfl
      have n2 : Shared.TypeIs { s with heap := s.heap.push (noInts w) } (.ref s.heap.objs.size) "set" := ⟨_, n1, rfl⟩
      have n3 := F.called_set.init.lookup
      have n4 := F.called_set.init.bind (.ref s.heap.objs.size)
      repeat (any_goals (first | assumption | wp_step))
      refine codeAny_mono (codeAny_call_builtin (R := wants (fun r s2 => r = .none ∧ ∃ h' tk, s2 = { s with heap := h', toks := tk } ∧ (∃ c, c ≤ ns.length ∧ SetR w h' s.heap.objs.size (fun j => decide (j ∈ ns)) c) ∧ (∀ b o, s.heap.get? b = some o → h'.get? b = some o)) E)
        F.called_set.init.plain F.entry_set_init (check_set_init_1 n2 ?_)) fun r2 s2 hr2 => ?_
      · obtain ⟨o, ho, oc, n, od⟩ := hq
        obtain ⟨ocl, odi, oda, osl⟩ := o
        simp only at oc od
        subst oc; subst od
        have ho2 : (s.heap.push (noInts w)).get? q = some { cls := .type "list", dict := odi, data := .seq items n, slots := osl } := Heap.get?_push_of_some _ ho
        have m1 := F.sub_list_set
        have m2 := F.sub_list_frozenset
        have m3 : (Value.type "list" == Value.type "dict") = false := by decide
        have lq : (s.heap.push (noInts w)).IsList q items := ⟨_, ho2, rfl, n, rfl⟩
        unfold Builtin.«set.__init__»
        unfold noKeywords Builtin.Frozenset.updateFrom
        generalize hPI : pyIter = PI
        wp_walk
        subst hPI
        refine wpAny_pyIter_list lq ?_
        refine wpAny_bind (wpAny_runValue ?_)
        have lt : q < s.heap.objs.size := Heap.lt_size ho
        have h3 : A.in1.in1.in1.handled = none := by simp [hh]
        have ne : q ≠ (s.heap.push (noInts w)).objs.size := by
          rw [Heap.size_push]; exact Nat.ne_of_lt (Nat.lt_succ_of_lt lt)
        have nf : s.heap.objs.size ∉ [(s.heap.push (noInts w)).objs.size, q] := by
          rw [Heap.size_push]
          simp only [List.mem_cons, List.mem_singleton, List.not_mem_nil, or_false, not_or]
          exact ⟨Nat.ne_of_lt (Nat.lt_succ_self _), Nat.ne_of_gt lt⟩
        have val : ∀ (i : Nat) (v : Value), items[i]? = some v → ∃ k t, ns[i]? = some k ∧ v = .int k t := fun i v e => by
          have lt2 : i < ns.length := by rw [← len]; exact (Array.getElem?_eq_some_iff.mp e).1
          obtain ⟨t, ev⟩ := PyProof.Rows.IntsAre.int_at hv i v (by rw [Array.getElem?_toList]; exact e)
          refine ⟨ns[i], t, List.getElem?_eq_getElem lt2, ?_⟩
          rw [ev, List.getD_eq_getElem?_getD, List.getElem?_eq_getElem lt2] <;> rfl
        refine set_update_ints ((Walks.list h3 _ q ne items).toS) s.heap.objs.size nf ns len hb val (items.size - 0) 0 _ (by omega) (Nat.zero_le _) ⟨⟨_, Heap.get?_push_size _ rfl, rfl, rfl⟩, (lq.push _)⟩ ?st0 ?stR
        case st0 => exact ⟨0, Nat.le_refl 0, setR_new_at (Heap.get?_push_of_some _ n1)⟩
        case stR =>
          intro s' c' mv gc gs
          obtain ⟨h', g2, d2, t2, os2⟩ := s'
          obtain rfl : g2 = s.gens := mv.gens
          obtain rfl : d2 = s.drawn := mv.drawn
          obtain rfl : os2 = s.os := mv.os
          show wpAny _ _ _ _ _ _
          refine wpAny_pure ?_
          show wpAny _ _ (ret Value.none) _ _ _
          rw [len] at gc
          refine wpAny_pure ⟨rfl, h', t2, rfl, ⟨c', gc, gs⟩, fun b o e => ?_⟩
          have lb := Heap.lt_size e
          refine mv.heap b o ?_ (Heap.get?_push_of_some _ (Heap.get?_push_of_some _ e))
          rw [Heap.size_push]
          simp only [List.mem_cons, List.mem_singleton, List.not_mem_nil, or_false, not_or]
          exact ⟨Nat.ne_of_lt lb, Nat.ne_of_lt (Nat.lt_succ_of_lt lb)⟩
      · cases r2 with
        | error e => exact hr2
        | ok f2 =>
          cases f2 with
          | ret r =>
            obtain ⟨rfl, h', tk, rfl, g, kp⟩ := hr2
            repeat (any_goals (first | assumption | wp_step))
            exact fin _ _ g kp
          | _ => exact hr2.elim
    | _ => exact hr.elim
end
/-- distinct ints: as many as there are -/
theorem dup_less : ∀ {ns : List Int}, ¬ ns.Nodup → ∃ m : List Int, m.length < ns.length ∧ ∀ x ∈ ns, x ∈ m
  | [], h => absurd List.nodup_nil h
  | y :: r, h => by
    by_cases c : y ∈ r
    · exact ⟨r, Nat.lt_succ_self _, fun x hx => (List.mem_cons.mp hx).elim (fun z => z ▸ c) id⟩
    · obtain ⟨m, h1, h2⟩ := dup_less (ns := r) fun z => h (List.nodup_cons.mpr ⟨c, z⟩)
      exact ⟨y :: m, Nat.succ_lt_succ h1, fun x hx => (List.mem_cons.mp hx).elim (fun z => z ▸ List.mem_cons_self) fun z => List.mem_cons_of_mem _ (h2 x z)⟩
theorem setR_count {w : World} {h : Heap} {a : Addr} {ns : List Int} {c : Nat} (R : SetR w h a (fun j => decide (j ∈ ns)) c) : c = ns.length ↔ ns.Nodup := by
  obtain ⟨o, es, ep, t, _, _, _, _, nd2, hm, _, _, hc, _⟩ := R
  have mm : ∀ k, k ∈ es.toList.map keyOf ↔ k ∈ ns := fun k => by rw [← hm k, decide_eq_true_eq]
  have le : (es.toList.map keyOf).length = c := by
    rw [List.length_map, Array.length_toList]
    omega
  constructor
  · intro e
    by_cases nd : ns.Nodup
    · exact nd
    · obtain ⟨m, h1, h2⟩ := dup_less nd
      have := nd2.length_le_of_subset (fun k hk => h2 k ((mm k).mp hk) : es.toList.map keyOf ⊆ m)
      omega
  · intro nd
    have pm := (List.perm_ext_iff_of_nodup nd2 nd).mpr mm
    have := pm.length_eq
    omega
section
variable {X : Cx}
def rSetI (K : PySem.W.Frag) (w : World) : List V → Hp → VK → Prop := fun xs H Q => ∃ (q : Addr) (ns : List Int), xs = [.ref q] ∧ (SqL K H q (ns.map V.int) ∨ SqT K H q (ns.map V.int)) ∧ ns.length < 64 ∧
  ∀ p c, c ≤ ns.length → (c = ns.length ↔ ns.Nodup) → H p = none → Q (.ref p) (upd H p (SetO w p (fun j => decide (j ∈ ns)) c))
theorem call_setIs (hc : X.calm = true) : CallR X (.type "set") (rSetI X.K X.w) := by
  intro pins s σ H xs us Q I r h
  obtain ⟨q, ns, rfl, hq, h64, z⟩ := h
  obtain ⟨u, rfl, rx⟩ := vals1 r
  cases rx
  have hb : ns.length + 1 < scanBound := Nat.lt_of_le_of_lt (show ns.length + 1 ≤ 64 by omega) (by decide)
  have fin : ∀ (h' : Heap) (tk c : Nat), SetR X.w h' s.heap.objs.size (fun j => decide (j ∈ ns)) c → c ≤ ns.length → (∀ b o, s.heap.get? b = some o → h'.get? b = some o) → EP X pins σ Q (.ref s.heap.objs.size) { s with heap := h', toks := tk } := fun h' tk c g gc kp =>
    ⟨.ref s.heap.objs.size, upd H s.heap.objs.size (SetO X.w s.heap.objs.size (fun j => decide (j ∈ ns)) c), I.laid (t' := tk) kp (Nat.le_refl _) (setO_new g), rfl, z _ c gc (setR_count g) (I.hok.fresh (Nat.le_refl _))⟩
  rcases hq with hq | hq
  · obtain ⟨its, rv, pl, hz⟩ := I.list hq
    exact call_setI ns (I.ok.hd hc) pl.isList (ints_of_vals rv) hb fun h' tk ⟨c, gc, g⟩ kp => fin h' tk c g gc kp
  · obtain ⟨its, rv, pt, hz⟩ := I.tuple hq
    exact call_set_tupI ns (I.ok.hd hc) (show s.heap.IsTuple q its.toArray from pt) (ints_of_vals rv) hb fun h' tk c g gc kp => fin h' tk c g gc kp
theorem call_lenS : CallR X (.builtin "len") (fun xs H Q => ∃ (a : Addr) (S : Int → Bool) (n : Nat), xs = [.ref a] ∧ H a = some (SetO X.w a S n) ∧ Q (.int n) H) := by
  intro pins s σ H xs us Q I r h
  obtain ⟨a, S, n, rfl, ha, q⟩ := h
  obtain ⟨u, rfl, rx⟩ := vals1 r
  cases rx
  obtain ⟨o, es, ep, t, ho, hx, hd, _, _, _, hb, hf, hn, _⟩ := setO_get I ha
  refine Calls.call_function_entry PySem.kind_len PySem.plain_len PySem.entry_len (PySem.args_len1 _) ?_
  refine wpAny_len_body_set ho hx hd hf (by unfold scanBound at hb; omega) ?_
  rw [hn]
  exact ⟨.int n, H, I.tok _, ⟨_, rfl⟩, q⟩
end

local macro_rules | `(tactic| walk_at "sm") => `(tactic| try simp only [sFld, tFld, tMake, tMakeS, tSeq, tAsg, tRet, tRetN, tDrop, tOp, tUn, tVar, tC, tCB, tCons, tNil, tLst, tTup, tTest, tB, tAnd, tOr, tNot, tAndV, tOrV, tNotV, tIf, tIfS, tNext, tCont, tBreak, tCall, tCallS, WE, tXf, rI0, rI, rU, gName, gNil, gCons, gTup, gSub, tAug, tBM, tBM0, tM1, rNewStrs, tLc_eq, iRng1, iRng2, iList, iTup, tYes, wipe, List.foldl_cons, List.foldl_nil, rEq, rNe, scal, rIxS, rSlS, tSl, tPart, tNoPart, tChain, ipI, str1, tMkO_eq, L2.start, List.map_cons, List.map_nil, List.append_nil, List.cons_append, List.nil_append, List.length_cons, List.length_nil, List.drop, List.replicate, List.getElem?_cons_zero, List.getElem?_cons_succ, List.set_cons_zero, List.set_cons_succ, Option.some.injEq, V.int.injEq, V.str.injEq, V.ref.injEq, V.bl.injEq, List.cons.injEq, reduceCtorEq, false_and, and_false, exists_false, or_false, false_or, exists_eq_left', exists_eq_left, and_assoc, cx_K, exists_and_left, exists_and_right, and_true, true_and, decide_eq_true_eq, if_true, if_false, Bool.false_eq_true])

/-! ### sets of places as whole numbers -/
section
variable {X : Cx}
theorem ip_orN : PIp X .BitOr (fun x y H Q => ∃ n m : Nat, x = .int n ∧ y = .int m ∧ Q (.int ((n ||| m : Nat) : Int)) H) := by
  intro pins s σ H x y v u Q I r1 r2 h
  obtain ⟨n, m, rfl, rfl, q⟩ := h
  exact iop_or pins s σ H _ _ v u Q I r1 r2 ⟨n, m, rfl, rfl, by show Q (.int (Builtin.bitOr _ _)) H; rw [L2.bitOr_nn (Int.natCast_nonneg n) (Int.natCast_nonneg m), Int.toNat_natCast, Int.toNat_natCast]; exact q⟩
theorem ip_xorN : PIp X .BitXor (fun x y H Q => ∃ n m : Nat, x = .int n ∧ y = .int m ∧ Q (.int ((n ^^^ m : Nat) : Int)) H) := by
  intro pins s σ H x y v u Q I r1 r2 h
  obtain ⟨n, m, rfl, rfl, q⟩ := h
  exact iop_xor pins s σ H _ _ v u Q I r1 r2 ⟨n, m, rfl, rfl, by show Q (.int (Builtin.bitXor _ _)) H; rw [Bits.bitXor_pp (Int.natCast_nonneg n) (Int.natCast_nonneg m), Int.toNat_natCast, Int.toNat_natCast]; exact q⟩
theorem op_orN : OpR X (binaryOp .BitOr) (fun x y H Q => ∃ n m : Nat, x = .int n ∧ y = .int m ∧ Q (.int ((n ||| m : Nat) : Int)) H) := by
  intro pins s σ H x y v u Q I r1 r2 h
  obtain ⟨n, m, rfl, rfl, q⟩ := h
  exact op_or pins s σ H _ _ v u Q I r1 r2 ⟨n, m, rfl, rfl, by show Q (.int (Builtin.bitOr _ _)) H; rw [L2.bitOr_nn (Int.natCast_nonneg n) (Int.natCast_nonneg m), Int.toNat_natCast, Int.toNat_natCast]; exact q⟩
theorem op_shlK : OpR X (binaryOp .LShift) (fun x y H Q => ∃ k : Nat, x = .int 1 ∧ y = .int (k : Int) ∧ k ≤ 134217727 ∧ Q (.int ((2 ^ k : Nat) : Int)) H) := by
  intro pins s σ H x y v u Q I r1 r2 h
  obtain ⟨k, rfl, rfl, hk, q⟩ := h
  exact op_oneShl pins s σ H _ _ v u Q I r1 r2 ⟨k, rfl, rfl, hk, by rw [Int.natCast_pow] at q; exact q⟩
theorem op_shrK : OpR X (binaryOp .RShift) (fun x y H Q => ∃ n k : Nat, x = .int n ∧ y = .int (k : Int) ∧ Q (.int ((n / 2 ^ k : Nat) : Int)) H) := by
  intro pins s σ H x y v u Q I r1 r2 h
  obtain ⟨n, k, rfl, rfl, q⟩ := h
  exact op_shrN pins s σ H _ _ v u Q I r1 r2 ⟨n, k, rfl, rfl, by rw [Int.natCast_ediv, Int.natCast_pow] at q; exact q⟩
/-- what of n and its lowest bit is -/
theorem low_and {t m : Nat} : (2 ^ t * (2 * m + 1)) &&& (2 ^ t * (2 * m + 1) - 1) = 2 ^ t * (2 * m) := by
  have p : 0 < 2 ^ t := Nat.pow_pos (by decide)
  have e1 : 2 ^ t * (2 * m + 1) = 2 ^ t * (2 * m) + 2 ^ t := by rw [Nat.mul_add, Nat.mul_one]
  have e2 : 2 ^ t * (2 * m + 1) - 1 = 2 ^ t * (2 * m) + (2 ^ t - 1) := by omega
  refine Nat.eq_of_testBit_eq fun i => ?_
  rw [Nat.testBit_and, e2, Nat.testBit_two_pow_mul_add (2 * m) (show 2 ^ t - 1 < 2 ^ t by omega), Nat.testBit_two_pow_mul, Nat.testBit_two_pow_mul, Nat.testBit_two_pow_sub_one]
  by_cases h : i < t
  · rw [if_pos h, decide_eq_false (show ¬ t ≤ i by omega)]
    rfl
  · rw [if_neg h, decide_eq_true (show t ≤ i by omega), Bool.true_and, Bool.true_and]
    cases hd : i - t with
    | zero => rw [Nat.testBit_zero, Nat.testBit_zero]; simp
    | succ j => rw [Nat.testBit_succ, Nat.testBit_succ, show (2 * m + 1) / 2 = m by omega, show 2 * m / 2 = m by omega, Bool.and_self]
theorem op_low : OpR X (binaryOp .BitAnd) (fun x y H Q => ∃ n t m : Nat, x = .int (n : Int) ∧ y = .int (-(n : Int)) ∧ n = 2 ^ t * (2 * m + 1) ∧ Q (.int ((2 ^ t : Nat) : Int)) H) := by
  intro pins s σ H x y v u Q I r1 r2 h
  obtain ⟨n, t, m, rfl, rfl, hn, q⟩ := h
  refine op_and pins s σ H _ _ v u Q I r1 r2 ⟨_, _, rfl, rfl, ?_⟩
  have p : 0 < 2 ^ t := Nat.pow_pos (by decide)
  have pn : 0 < n := by rw [hn]; exact Nat.mul_pos p (by omega)
  have e : Builtin.bitAnd (n : Int) (-(n : Int)) = ((2 ^ t : Nat) : Int) := by
    unfold Builtin.bitAnd Builtin.bitNot
    rw [decide_eq_true (show (0 : Int) ≤ (n : Int) by omega), decide_eq_false (show ¬ (0 : Int) ≤ -(n : Int) by omega)]
    show (n : Int) - ((((n : Int).toNat) &&& (-(-(n : Int)) - 1).toNat : Nat) : Int) = _
    rw [show (-(-(n : Int)) - 1).toNat = n - 1 by omega, Int.toNat_natCast, hn, low_and, show 2 ^ t * (2 * m + 1) = 2 ^ t * (2 * m) + 2 ^ t by rw [Nat.mul_add, Nat.mul_one]]
    omega
  show Q (.int (Builtin.bitAnd _ _)) H
  rw [e]
  exact q
theorem bits_pow (t : Nat) : Builtin.Int.intBits (((2 ^ t : Nat) : Int)) = t + 1 := by
  have p : 0 < 2 ^ t := Nat.pow_pos (by decide)
  unfold Builtin.Int.intBits
  rw [if_neg (by simp only [beq_iff_eq]; omega), Int.natAbs_natCast, Nat.log2_two_pow]
/-! a list's item by its place, as a changed one; a tuple behind a list; one of two readings -/
def rGetL : V → V → Hp → VK → Prop := fun o i H Q => ∃ (p : Addr) (xs : List V) (k : Nat) (v : V), o = .ref p ∧ i = .int (k : Int) ∧ H p = some (.lst xs) ∧ xs[k]? = some v ∧ Q v H
theorem get_list : PGet X rGetL := by
  intro pins s σ H o i ov iv Q I ro ri h
  obtain ⟨p, xs, k, v, rfl, rfl, hp, hk, q⟩ := h
  cases ro
  obtain ⟨t, rfl⟩ := ri
  obtain ⟨its, r, pl, hz⟩ := I.list (SqL.of hp)
  obtain ⟨w, ew, rw'⟩ := r.get hk
  have hn := line63
  have hk2 := (List.getElem?_eq_some_iff.mp hk).1
  exact wpAny_getItem_list pl.isList (Int.natCast_nonneg _) (by omega) (by rw [Int.toNat_natCast]; simpa using ew) ⟨v, H, I, rw', q⟩
theorem IxR.or {r r' : R2} (h : IxR X r) (h' : IxR X r') : IxR X (fun x y H Q => r x y H Q ∨ r' x y H Q) := fun e1 e2 pins s σ H x y v u Q I rx ry q hs =>
  q.elim (fun q => h e1 e2 pins s σ H x y v u Q I rx ry q hs) fun q => h' e1 e2 pins s σ H x y v u Q I rx ry q hs
def rExtT (K : PySem.W.Frag) : V → List V → Hp → VK → Prop := fun x vs H Q => ∃ l b xs zs, x = .ref l ∧ vs = [.ref b] ∧ H l = some (.lst xs) ∧ SqT K H b zs ∧ xs.length + zs.length ≤ sizeLine ∧ Q .non (upd H l (.lst (xs ++ zs)))
theorem ext_tup (l : Addr) (items : Array Value) (n : Nat) (b : Addr) (items2 : Array Value) (n2 : Nat) (dd : Option Addr) (sl : Array (Option Value)) (hs0 : ¬ (!items.isEmpty && Builtin.List.listTooLong (items.size + items2.size)) = true) (hs1 : items.size ≤ sizeLine) (hs2 : items.size + items2.size ≤ sizeLine + 1) :
    Meets (Builtin.«list.extend» ⟨[.ref l, .ref b], []⟩) (fun _ R s => s.heap.get? l = some { cls := .type "list", dict := none, data := .seq items n, slots := #[] } ∧ s.heap.get? b = some { cls := .type "tuple", dict := dd, data := .seq items2 n2, slots := sl } ∧
      R (.ok (.ret Value.none)) { s with heap := s.heap.update l (Obj.mapSeq fun x => x ++ items2), toks := s.toks }) :=
  .of_wp fun prog w A R s h => by
    obtain ⟨hp, g, d, tk, os⟩ := s
    obtain ⟨hl, hb, h⟩ := h
    have f1 := AutoSeq1.idx_int
    have f2 := AutoSeq1.sub_tuple_tuple
    have f3 := AutoSeq1.sub_list_list
    have f4 := AutoSeq1.sub_tuple_list
    have f5 := AutoSeq1.sub_list_tuple
    have hz' : (items ++ items2).size ≤ sizeLine + 1 := by rw [Array.size_append]; exact hs2
    wp_walk using (wpAny_updateSeq hl rfl (hz := hs1) (_hz' := hz')), AutoSeq1.wpAny_loadPart' hl, AutoSeq1.wpAny_loadPart' hb
    exact ⟨_, rfl, h⟩
theorem mt_extT : MtM X "list.extend" (rExtT X.K) := by
  intro pins s σ H x vs v us Q I rx rv h
  obtain ⟨l, b, xs, zs, rfl, rfl, hH, hB, hz, q⟩ := h
  cases rx
  obtain ⟨u, rfl, ru⟩ := rv.one
  cases ru
  obtain ⟨z, its, n, r, hl, e⟩ := I.lstM hH
  obtain ⟨its2, r2, ⟨ob, e2, oc, n2, od⟩, hl2⟩ := I.tuple hB
  obtain ⟨ocl, odi, oda, osl⟩ := ob
  simp only at oc od
  subst oc; subst od
  have ll := r.length
  have ll2 := r2.length
  have hsz : its.toArray.size + its2.toArray.size ≤ sizeLine := by rw [List.size_toArray, List.size_toArray]; omega
  have hlong : ¬ (!its.toArray.isEmpty && Builtin.List.listTooLong (its.toArray.size + its2.toArray.size)) = true := by
    rw [notLongL hsz, Bool.and_false]
    exact Bool.false_ne_true
  refine call_meets F.slot_list_extend ⟨_, e, rfl⟩ F.entry_list_extend (F.args_list_extend_2 _ _)
    (ext_tup l its.toArray n b its2.toArray n2 odi osl hlong (by rw [List.size_toArray]; omega) (by omega)) ⟨e, e2, ?_⟩
  refine ⟨.non, _, I.lset (its' := its ++ its2) hH e (by simp) (r.append r2) ?_, rfl, q⟩
  rw [List.length_append]
  omega
end
/-- the set of a list of places -/
def msk (l : List Nat) : Nat := l.foldl (fun m p => m ||| 2 ^ p) 0
theorem msk_snoc (l : List Nat) (p : Nat) : msk (l ++ [p]) = msk l ||| 2 ^ p := by
  unfold msk
  rw [List.foldl_append]
  rfl
theorem bit_pow (p i : Nat) : (2 ^ p).testBit i = decide (i = p) := by
  rw [Nat.testBit_two_pow]
  exact decide_eq_decide.mpr eq_comm
theorem msk_bit (l : List Nat) (i : Nat) : (msk l).testBit i = decide (i ∈ l) := by
  have go : ∀ (l : List Nat) (m : Nat), (l.foldl (fun m p => m ||| 2 ^ p) m).testBit i = (m.testBit i || decide (i ∈ l)) := by
    intro l
    induction l with
    | nil => intro m; simp
    | cons p l ih =>
      intro m
      show (l.foldl _ (m ||| 2 ^ p)).testBit i = _
      rw [ih, Nat.testBit_or, bit_pow, Bool.or_assoc]
      congr 1
      by_cases h : i = p <;> simp [h]
  have := go l 0
  rw [Nat.zero_testBit, Bool.false_or] at this
  exact this


/-! ### mask_of, reached_along -/
theorem nat_at {l : List Nat} {i : Nat} {x : V} (h : ((nI l).map V.int)[i]? = some x) : ∃ n : Nat, l[i]? = some n ∧ x = .int n := by
  rw [List.map_map, List.getElem?_map] at h
  cases e : l[i]? with
  | none => rw [e] at h; cases h
  | some n => rw [e] at h; exact ⟨n, rfl, (Option.some.inj h).symm⟩
theorem at_nat {l : List Nat} {i n : Nat} (h : l[i]? = some n) : ((nI l).map V.int)[i]? = some (.int n) := by
  rw [List.map_map, List.getElem?_map, h]
  rfl
section
variable {P : Program} {w : World} {K : PySem.W.Frag} {mg : Str → Option Value} {base : Heap} {a : Ad}
def spMask : Sp := fun vs H Q _ => ∃ (p : Addr) (l : List Nat), vs = [.ref p] ∧ SqAt H p ((nI l).map V.int) ∧ (∀ n ∈ l, n ≤ 1000) ∧ Q (.int (msk l)) H
def ivMask (p : Addr) (l : List Nat) (H : Hp) : Nat → L2.St → Hp → Prop := fun i σ H' => ∃ v, σ = [some (.ref p), some (.int (msk (l.take i) : Nat)), v] ∧ H' = H
theorem ok_mask_of (T : Txt K mg a) : FnOk P w K mg base CX0 1 a.f_mask_of a.d_mask_of ["places"] spMask := by
  refine T.F_mask_of.ok sc_mask_of (fun vs H Q E h => ?_) (fun cdv A outer s H vs Q E hr h => ?_)
  · obtain ⟨_, _, rfl, _⟩ := h
    rfl
  · obtain ⟨p, l, rfl, hp, hb, k⟩ := h
    refine ⟨_, (pss_cons (ps_set (i := 1) sc_mask_of.nd rfl (by first | exact Or.inl rfl | exact Or.inr rfl) pe_int)
  (pss_cons (ps_for PassesOwn.never rfl (pi_or (pi_list (pv 0)) (pi_tup (pv 0))) (pg_name (i := 2) sc_mask_of.nd rfl (by first | exact Or.inl rfl | exact Or.inr rfl)) (pss_one (ps_aug (i := 1) sc_mask_of.nd rfl (by first | exact Or.inl rfl | exact Or.inr rfl) (pe_op op_shlK pe_int (pv 2)) ip_orN)))
  (pss_one (ps_ret (pv 1))))), ?_⟩
    walk_at "sm"
    have go : ∀ (i n : Nat) (HX : Hp), l[i]? = some n → HX = H → ivMask p l H (i + 1) [some (.ref p), some (.int ((msk (l.take i) ||| 2 ^ n : Nat) : Int)), some (.int n)] HX := by
      rintro i n HX hn rfl
      refine ⟨some (.int n), ?_, rfl⟩
      rw [List.take_add_one, hn]
      show _ = [_, some (V.int ((msk (l.take i ++ [n]) : Nat) : Int)), _]
      rw [msk_snoc]
    have bd : ∀ (i n : Nat), l[i]? = some n → n ≤ 134217727 := fun i n hn => by
      have := hb n (List.mem_of_getElem? hn)
      omega
    rcases hp with q | q
    · refine .inr ⟨_, rfl, p, rfl, ⟨_, SqT.of q⟩, for_tup (K := K) (a := p) (xs := (nI l).map V.int) (ivMask p l H) ⟨none, rfl, rfl⟩ (fun i σ HX hi ⟨_, _, e⟩ => by rw [e]; exact SqT.of q) ?_ ?_⟩
      · rintro i x σ HX hi ⟨v, rfl, e⟩
        obtain ⟨n, hn, rfl⟩ := nat_at hi
        walk_at "sm"
        exact ⟨n, rfl, bd i n hn, _, rfl, _, rfl, go i n HX hn e⟩
      · rintro σ HX ⟨v, rfl, rfl⟩
        walk_at "sm"
        rw [List.length_map, List.length_map, List.take_length]
        exact k
    · refine .inl ⟨_, rfl, p, rfl, ⟨_, SqL.of q⟩, for_list (K := K) (a := p) (xs := (nI l).map V.int) (ivMask p l H) ⟨none, rfl, rfl⟩ (fun i σ HX hi ⟨_, _, e⟩ => by rw [e]; exact SqL.of q) ?_ ?_⟩
      · rintro i x σ HX hi ⟨v, rfl, e⟩
        obtain ⟨n, hn, rfl⟩ := nat_at hi
        walk_at "sm"
        exact ⟨n, rfl, bd i n hn, _, rfl, _, rfl, go i n HX hn e⟩
      · rintro σ HX ⟨v, rfl, rfl⟩
        walk_at "sm"
        rw [List.length_map, List.length_map, List.take_length]
        exact k
end


/-! ### what can be reached along arrows -/
def rowR (H : Hp) (x : V) (b : List Nat) : Prop := ∃ q, x = .ref q ∧ H q = some (.tup ((nI b).map V.int))
theorem rowR.go {H H' : Hp} {x : V} {b : List Nat} (e : Kp H H') (h : rowR H x b) : rowR H' x b := by
  obtain ⟨q, h1, h2⟩ := h
  exact ⟨q, h1, e.1 _ _ h2⟩
def Arr (H : Hp) (p : Addr) (bs : List (List Nat)) : Prop := ∃ xs, SqAt H p xs ∧ Paired (rowR H) xs bs
theorem Arr.go {H H' : Hp} {p : Addr} {bs : List (List Nat)} (e : Kp H H') (h : Arr H p bs) : Arr H' p bs := by
  obtain ⟨xs, h1, h2⟩ := h
  exact ⟨xs, h1.kp e, Paired.mapP h2 fun _ _ z => z.go e⟩
theorem paired_of {α β : Type} {F : α → β → Prop} : ∀ {l : List α} {m : List β} {i : Nat} {y : β}, Paired F l m → m[i]? = some y → ∃ x, l[i]? = some x ∧ F x y
  | _, _, _, _, .nil, h => by simp at h
  | _, _, 0, _, .cons f _, h => by
    simp at h
    exact ⟨_, rfl, h ▸ f⟩
  | _, _, i + 1, _, .cons _ t, h => by
    obtain ⟨x, h1, h2⟩ := paired_of (i := i) t (by simpa using h)
    exact ⟨x, by simpa using h1, h2⟩
/-- reached from s by one arrow or more, past no barred place -/
inductive Rc (bs : List (List Nat)) (bar s : Nat) : Nat → Prop
  | one {b : List Nat} {q : Nat} : bs[s]? = some b → q ∈ b → bar.testBit q = false → Rc bs bar s q
  | more {p : Nat} {b : List Nat} {q : Nat} : Rc bs bar s p → bs[p]? = some b → q ∈ b → bar.testBit q = false → Rc bs bar s q
def un (r n : Nat) : Nat := ((List.range n).filter fun p => !r.testBit p).length
theorem un_le (r n : Nat) : un r n ≤ n := Nat.le_trans (List.length_filter_le _ _) (Nat.le_of_eq (List.length_range ..))
theorem un_mono {r r' : Nat} (h : ∀ p, r.testBit p = true → r'.testBit p = true) : ∀ l : List Nat, (l.filter fun p => !r'.testBit p).length ≤ (l.filter fun p => !r.testBit p).length
  | [] => Nat.le_refl _
  | p :: l => by
    have ih := un_mono h l
    rw [List.filter_cons, List.filter_cons]
    cases e : r.testBit p with
    | true =>
      rw [h p e]
      exact ih
    | false =>
      cases e2 : r'.testBit p with
      | true => exact Nat.le_succ_of_le ih
      | false => exact Nat.succ_le_succ ih
theorem un_drop {r r' q : Nat} (h : ∀ p, r.testBit p = true → r'.testBit p = true) (h0 : r.testBit q = false) (h1 : r'.testBit q = true) : ∀ l : List Nat, q ∈ l → (l.filter fun p => !r'.testBit p).length < (l.filter fun p => !r.testBit p).length
  | [], m => by simp at m
  | p :: l, m => by
    rw [List.filter_cons, List.filter_cons]
    by_cases e : q = p
    · subst e
      rw [h0, h1]
      exact Nat.lt_succ_of_le (un_mono h l)
    · have ih := un_drop h h0 h1 l ((List.mem_cons.mp m).resolve_left e)
      cases e1 : r.testBit p with
      | true =>
        rw [h p e1]
        exact ih
      | false =>
        cases e2 : r'.testBit p with
        | true => exact Nat.lt_succ_of_lt ih
        | false => exact Nat.succ_lt_succ ih
theorem un_lt {r q n : Nat} (h0 : r.testBit q = false) (hq : q < n) : un (r ||| 2 ^ q) n < un r n :=
  un_drop (fun p h => by rw [Nat.testBit_or, h]; rfl) h0 (by rw [Nat.testBit_or, bit_pow, decide_eq_true rfl, Bool.or_true]) _ (List.mem_range.mpr hq)
structure RI (bs : List (List Nat)) (bar s r : Nat) (ws : List Nat) : Prop where
  sound : ∀ q, r.testBit q = true → Rc bs bar s q
  src : ∀ q ∈ ws, q < bs.length ∧ (bar.testBit q = false → Rc bs bar s q)
  clos : ∀ p b, (p = s ∨ r.testBit p = true) → bs[p]? = some b → ∀ q ∈ b, bar.testBit q = false → r.testBit q = true ∨ q ∈ ws
  size : ws.length + 200 * un r bs.length ≤ 200 * bs.length + 200
/-- arrows that stay within -/
def ArrOk (bs : List (List Nat)) : Prop := bs.length ≤ 200 ∧ ∀ b ∈ bs, b.length ≤ 200 ∧ ∀ q ∈ b, q < bs.length
theorem RI.init {bs : List (List Nat)} {bar s : Nat} {b : List Nat} (h : ArrOk bs) (hb : bs[s]? = some b) : RI bs bar s 0 b := by
  have hm := h.2 b (List.mem_of_getElem? hb)
  refine ⟨fun q hq => absurd hq (by rw [Nat.zero_testBit]; decide), fun q hq => ⟨hm.2 q hq, fun hn => .one hb hq hn⟩, fun p c hp hc q hq _ => ?_, ?_⟩
  · rcases hp with rfl | hp
    · rw [hb] at hc
      cases hc
      exact .inr hq
    · rw [Nat.zero_testBit] at hp; cases hp
  · have := un_le 0 bs.length
    have := hm.1
    omega
theorem RI.skip {bs : List (List Nat)} {bar s r q : Nat} {ws : List Nat} (h : RI bs bar s r (ws ++ [q])) (hq : (r ||| bar).testBit q = true) : RI bs bar s r ws := by
  refine ⟨h.sound, fun p hp => h.src p (List.mem_append_left _ hp), fun p b h1 h2 x h3 h4 => ?_, ?_⟩
  · rcases h.clos p b h1 h2 x h3 h4 with g | g
    · exact .inl g
    · rcases List.mem_append.mp g with g | g
      · exact .inr g
      · rw [List.mem_singleton] at g
        subst g
        rw [Nat.testBit_or, h4, Bool.or_false] at hq
        exact .inl hq
  · have := h.size
    rw [List.length_append] at this
    exact Nat.le_trans (by have : ws.length ≤ ws.length + [q].length := Nat.le_add_right _ _; omega) this
theorem RI.take {bs : List (List Nat)} {bar s r q : Nat} {ws b : List Nat} (k : ArrOk bs) (h : RI bs bar s r (ws ++ [q])) (hq : (r ||| bar).testBit q = false) (hb : bs[q]? = some b) : RI bs bar s (r ||| 2 ^ q) (ws ++ b) := by
  have hm := k.2 b (List.mem_of_getElem? hb)
  rw [Nat.testBit_or, Bool.or_eq_false_iff] at hq
  have rq := (h.src q (by simp)).2 hq.2
  have ql := (h.src q (by simp)).1
  have bit : ∀ p, (r ||| 2 ^ q).testBit p = true ↔ r.testBit p = true ∨ p = q := fun p => by
    rw [Nat.testBit_or, bit_pow, Bool.or_eq_true, decide_eq_true_eq]
  refine ⟨fun p hp => ?_, fun p hp => ?_, fun p c h1 h2 x h3 h4 => ?_, ?_⟩
  · rcases (bit p).mp hp with g | rfl
    · exact h.sound p g
    · exact rq
  · rcases List.mem_append.mp hp with g | g
    · exact h.src p (List.mem_append_left _ g)
    · exact ⟨hm.2 p g, fun hn => .more rq hb g hn⟩
  · by_cases e : p = q
    · subst e
      rw [hb] at h2
      cases h2
      exact .inr (List.mem_append_right _ h3)
    · have h1' : p = s ∨ r.testBit p = true := h1.imp id fun g => ((bit p).mp g).resolve_right e
      rcases h.clos p c h1' h2 x h3 h4 with g | g
      · exact .inl ((bit x).mpr (.inl g))
      · rcases List.mem_append.mp g with g | g
        · exact .inr (List.mem_append_left _ g)
        · rw [List.mem_singleton] at g
          exact .inl ((bit x).mpr (.inr g))
  · have h1 := h.size
    have h2 := un_lt hq.1 ql
    have h3 := hm.1
    rw [List.length_append] at h1 ⊢
    have : [q].length = 1 := rfl
    omega
theorem RI.done {bs : List (List Nat)} {bar s r : Nat} (h : RI bs bar s r []) (q : Nat) : r.testBit q = true ↔ Rc bs bar s q := by
  refine ⟨h.sound q, fun g => ?_⟩
  induction g with
  | one h1 h2 h3 => exact (h.clos _ _ (.inl rfl) h1 _ h2 h3).resolve_right (by simp)
  | more _ h1 h2 h3 ih => exact (h.clos _ _ (.inr ih) h1 _ h2 h3).resolve_right (by simp)
theorem Arr.ix {K : PySem.W.Frag} {H : Hp} {p : Addr} {bs : List (List Nat)} {i : Nat} {b : List Nat} {Q : VK} (h : Arr H p bs) (hb : bs[i]? = some b) (k : ∀ q, H q = some (.tup ((nI b).map V.int)) → Q (.ref q) H) :
    rIxL K (.ref p) (.int (i : Nat)) H Q ∨ rIxT K (.ref p) (.int (i : Nat)) H Q := by
  obtain ⟨xs, h1, h2⟩ := h
  obtain ⟨x, hx, q, rfl, hq⟩ := paired_of h2 hb
  rcases h1 with g | g
  · exact .inr (ixt g (atI_nat hx) (k q hq))
  · exact .inl (ixl (SqL.of g) (atI_nat hx) (k q hq))
theorem nI_snoc (l : List Nat) (q : Nat) : (nI (l ++ [q])).map V.int = (nI l).map V.int ++ [.int q] := by simp
theorem nI_app (l m : List Nat) : (nI (l ++ m)).map V.int = (nI l).map V.int ++ (nI m).map V.int := by simp
theorem nI_len (l : List Nat) : ((nI l).map V.int).length = l.length := by simp
theorem sz2 {n : Nat} (h : n ≤ 100000) : n ≤ sizeLine := sz h
theorem tru_bit (n i : Nat) : (((n / 2 ^ i % 2 : Nat) : Int) != 0) = n.testBit i := by
  rw [Nat.testBit_eq_decide_div_mod_eq]
  rcases (show n / 2 ^ i % 2 = 0 ∨ n / 2 ^ i % 2 = 1 by omega) with e | e <;> rw [e] <;> rfl
section
variable {P : Program} {w : World} {K : PySem.W.Frag} {mg : Str → Option Value} {base : Heap} {a : Ad}
def spRA : Sp := fun vs H Q _ => ∃ (p : Addr) (bs : List (List Nat)) (s bar : Nat), vs = [.ref p, .int s, .int bar] ∧ Arr H p bs ∧ ArrOk bs ∧ s < bs.length ∧ ∀ (r : Nat) H', Evl.Ex H H' → (∀ q, r.testBit q = true ↔ Rc bs bar s q) → Q (.int r) H'
def ivRA (H : Hp) (p : Addr) (bs : List (List Nat)) (s bar : Nat) (l : Addr) (m : Nat) (σ : L2.St) (H' : Hp) : Prop := ∃ (r : Nat) (ws : List Nat) (v5 : Option V), m = ws.length + 201 * un r bs.length ∧ σ = [some (.ref p), some (.int s), some (.int bar), some (.int r), some (.ref l), v5] ∧
  Evl.Ex H H' ∧ H' l = some (.lst ((nI ws).map V.int)) ∧ RI bs bar s r ws
theorem ok_reached_along (T : Txt K mg a) : FnOk P w K mg base CX0 1 a.f_reached_along a.d_reached_along ["arrows", "place", "barred"] spRA := by
  refine T.F_reached_along.ok sc_reached_along (fun vs H Q E h => ?_) (fun cdv A outer s H vs Q E hr h => ?_)
  · obtain ⟨_, _, _, _, rfl, _⟩ := h
    rfl
  · obtain ⟨p, bs, st, bar, rfl, ha, hk, hs, k⟩ := h
    refine ⟨_, (pss_cons (ps_set (i := 3) sc_reached_along.nd rfl (by first | exact Or.inl rfl | exact Or.inr rfl) pe_int)
  (pss_cons (ps_set (i := 4) sc_reached_along.nd rfl (by first | exact Or.inl rfl | exact Or.inr rfl) (pe_callTy call_list_of (by rfl) T.z_list (by decide +kernel) (pa_cons (pe_ix (IxR.or ix_list ix_tup) (pv 0) (pv 1) (fun _ _ => rfl)) pa_nil)))
  (pss_cons (ps_while (by first | exact passes_of rfl | exact PassesOwn.never) (pt_truth (pv 4) (by intro _; rfl)) (pss_cons (ps_set (i := 5) sc_reached_along.nd rfl (by first | exact Or.inl rfl | exact Or.inr rfl) (pe_bm0 PySem.F.plainAttrs_list PySem.F.slot_list_pop PySem.F.type_list_pop mt_pop (pv 4)))
  (pss_one (ps_if (pt_not (pt_truth (pe_op op_odd (pe_op op_shrK (pe_op op_orN (pv 3) (pv 2)) (pv 5)) pe_int) (by intro _; rfl))) (pss_cons (ps_aug (i := 3) sc_reached_along.nd rfl (by first | exact Or.inl rfl | exact Or.inr rfl) (pe_op op_shlK pe_int (pv 5)) ip_orN)
  (pss_one (ps_expr (pe_bm PySem.F.plainAttrs_list PySem.F.slot_list_extend PySem.F.type_list_extend mt_extT (pv 4) (pa_cons (pe_ix (IxR.or ix_list ix_tup) (pv 0) (pv 5) (fun _ _ => rfl)) pa_nil)))))
    pss_nil))))
  (pss_one (ps_ret (pv 3)))))), ?_⟩
    walk_at "sm"
    obtain ⟨b0, hb0⟩ : ∃ b, bs[st]? = some b := ⟨_, List.getElem?_eq_getElem hs⟩
    refine ha.ix hb0 fun q0 hq0 => ⟨q0, rfl, _, .inr (SqT.of hq0), fun l hl => ?_⟩
    have eN := Evl.Ex.new (o := .lst ((nI b0).map V.int)) hl
    refine ⟨ivRA H p bs st bar l, ⟨_, 0, b0, none, rfl, rfl, eN, upd_same, RI.init hk hb0⟩, ?_⟩
    rintro m σ HX ⟨r, ws, v5, rfl, rfl, e1, hw, ri⟩
    walk_at "sm"
    refine ⟨_, .inl ⟨_, SqL.of hw, rfl⟩, ?_⟩
    rcases List.eq_nil_or_concat ws with rfl | ⟨ws, q, rfl⟩
    · exact iteF (k r _ e1 ri.done)
    · rw [List.concat_eq_append] at hw ri ⊢
      rw [nI_snoc] at hw ⊢
      refine iteT' (by cases ws <;> rfl) ⟨fun σ1 H1 => ∃ m1, m1 < (ws ++ [q]).length + 201 * un r bs.length ∧ ivRA H p bs st bar l m1 σ1 H1, fun σ1 H1 z => z, ?_⟩
      walk_at "sm"
      refine ⟨.inl ⟨rfl, _, SqL.of hw⟩, l, _, .int q, rfl, rfl, hw, by simp, ?_⟩
      have ql := (ri.src q (by simp)).1
      obtain ⟨b, hb⟩ : ∃ b, bs[q]? = some b := ⟨_, List.getElem?_eq_getElem ql⟩
      rw [List.dropLast_concat]
      have e2 := Evl.Ex.mut (o := .lst ((nI ws).map V.int)) e1 hl
      have hw2 : upd HX l (.lst ((nI ws).map V.int)) l = some (.lst ((nI ws).map V.int)) := upd_same
      generalize upd HX l (.lst ((nI ws).map V.int)) = H2 at e2 hw2 ⊢
      have sz := ri.size
      have nl := hk.1
      have bl := (hk.2 b (List.mem_of_getElem? hb)).1
      have ul := un_le r bs.length
      rw [List.length_append] at sz
      have s1 : [q].length = 1 := rfl
      refine ⟨r, rfl, bar, rfl, _, rfl, q, rfl, _, rfl, _, rfl, ?_⟩
      rw [tru_bit]
      cases ht : (r ||| bar).testBit q with
      | true => exact iteF ⟨_, by rw [List.length_append]; omega, r, ws, some (.int q), rfl, rfl, e2, hw2, ri.skip ht⟩
      | false =>
        have rt := ri.take hk ht hb
        have dr := un_lt (Bool.or_eq_false_iff.mp (by rw [← Nat.testBit_or]; exact ht)).1 ql
        refine iteT ⟨q, rfl, by omega, r, rfl, 2 ^ q, rfl, .inl ⟨rfl, _, SqL.of hw2⟩, (ha.go (Kp.ex e2)).ix hb fun qb hqb => ⟨l, qb, _, _, rfl, rfl, hw2, SqT.of hqb, ?_, ?_⟩⟩
        · rw [nI_len, nI_len]
          exact sz2 (by omega)
        · refine ⟨_, ?_, r ||| 2 ^ q, ws ++ b, some (.int q), rfl, rfl, Evl.Ex.mut e2 hl, by rw [upd_same, nI_app], rt⟩
          rw [List.length_append, List.length_append]
          omega
end


/-! ### sorted(t), t a tuple -/
open PyProof.Rows in
theorem collect_tup {prog : Program} {w : World} {A : Around} {E : Value → Shared → Prop} {s : Shared} {l : Addr} {vs : List Value} {Q : List Value → Shared → Prop} (hl : PyProof.Rows.IsTup s.heap l vs.toArray)
    (h : Q vs { s with heap := (s.heap.push (PyProof.Rows.seqObj "list" #[] 0)).update s.heap.objs.size (Obj.mapSeq fun x => x ++ vs.toArray) }) (hsz : vs.length ≤ sizeLine) : wpAny (model prog w) A (collect (.ref l)) Q E s := by
  obtain ⟨o, ho, hc, n, hd⟩ := hl
  refine wpAny_bind (wpAny_runValue (codeAny_builtin PyProof.Rows.entry_proto_collect' ?_))
  unfold Builtin.«proto.collect»
  refine wpAny_bind (wpAny_newList (wpAny_pure ⟨Code.quiet_builtin _ (by decide +kernel), codeAny_builtin PyProof.Rows.entry_list_iadd' ?_⟩) (Nat.zero_le _))
  have ho' := Heap.get?_push_of_some (PyProof.Rows.seqObj "list" #[] 0) ho
  unfold Builtin.«list.__iadd__»
  show wpAny _ _ (bind (typeOf (.ref l)) _) _ _ _
  refine wpAny_bind (wpAny_typeOf (v := .ref l) ⟨o, ho', hc⟩ ?_)
  rw [if_pos (by simp)]
  refine wpAny_bind (PyProof.Rows.listItems_at ho' hd (wpAny_bind (PyProof.Rows.listItems_at (Heap.get?_push_size s.1 rfl) rfl ?_)))
  rw [if_neg (by simp)]
  refine wpAny_bind (PyProof.Rows.listUpdate_at (Heap.get?_push_size s.1 rfl) rfl (wpAny_pure ?_) (Nat.zero_le _) (by simp; omega))
  show wpAny _ _ _ _ _ _
  refine wpAny_bind (wpAny_load (PyProof.Rows.get?_update_seq (Heap.get?_push_size s.1 rfl) fun x => x ++ vs.toArray) ?_)
  show wpAny _ _ (pure ((#[] : Array Value) ++ vs.toArray).toList) _ _ _
  rw [show ((#[] : Array Value) ++ vs.toArray).toList = vs by simp]
  exact wpAny_pure h
theorem sorted_ordT {prog : Program} {w : World} {A : Around} {E : Value → Shared → Prop} {s : Shared} {l : Addr} {vs : List Value} {ltv : Value → Value → Bool} {Q : Value → Shared → Prop} (O : SrtO.Swo ltv) (hl : PyProof.Rows.IsTup s.heap l vs.toArray) (hz : vs.length ≤ sizeLine)
    (hS : 2 ≤ vs.length → ∀ (h₁ : Heap) (a : Addr), h₁.get? a = some (PyProof.Rows.seqObj "list" vs.toArray 0) → (∀ (b : Addr) (o : Obj), s.heap.get? b = some o → b ≠ a ∧ h₁.get? b = some o) →
      SrtO.SortableO prog w A.in1.in1 { heap := h₁, gens := s.gens, drawn := s.drawn, toks := s.toks, os := s.os } a vs ltv)
    (h : ∀ (out : List Value), SrtO.Srtd ltv out → SrtO.Stb ltv out vs → Q (Value.ref (s.heap.objs.size + 1)) { heap := PyProof.Rows.sortedAll s.heap vs out.toArray, gens := s.gens, drawn := s.drawn, toks := s.toks, os := s.os }) :
    wpAny (model prog w) A (call (Value.builtin "sorted") [Value.ref l]) Q E s := by
  refine Calls.call_function_entry PyProof.Rows.kind_sorted PyProof.Rows.plain_sorted PyProof.Rows.entry_sorted (PyProof.Rows.args_sorted1 (Value.ref l)) ?_
  refine wpAny_bind (wpAny_pure (wpAny_bind (collect_tup hl ?_ hz)))
  refine wpAny_bind (wpAny_newList ?_ hz)
  have hsz : ((s.heap.push (PyProof.Rows.seqObj "list" #[] 0)).update s.heap.objs.size (Obj.mapSeq fun x => x ++ vs.toArray)).objs.size = s.heap.objs.size + 1 := by
    rw [Heap.size_update, PyProof.Rows.size_push']
  have hoL : (((s.heap.push (PyProof.Rows.seqObj "list" #[] 0)).update s.heap.objs.size (Obj.mapSeq fun x => x ++ vs.toArray)).push (PyProof.Rows.seqObj "list" vs.toArray 0)).get? (s.heap.objs.size + 1) = some (PyProof.Rows.seqObj "list" vs.toArray 0) := by
    rw [← hsz]
    exact Heap.get?_push_size _ rfl
  have keep : ∀ (b : Addr) (o : Obj), s.heap.get? b = some o → b ≠ s.heap.objs.size + 1 ∧ (((s.heap.push (PyProof.Rows.seqObj "list" #[] 0)).update s.heap.objs.size (Obj.mapSeq fun x => x ++ vs.toArray)).push (PyProof.Rows.seqObj "list" vs.toArray 0)).get? b = some o := fun b o q => by
    have hlt := Heap.lt_size q
    refine ⟨Nat.ne_of_lt (Nat.lt_succ_of_lt hlt), Heap.get?_push_of_some _ ?_⟩
    rw [Heap.get?_update_ne _ b s.heap.objs.size _ (Nat.ne_of_lt hlt)]
    exact Heap.get?_push_of_some _ q
  show wpAny (model prog w) A.in1 (do
    let _ ← holding [Value.ref _] (call (Value.builtin "list.sort") [Value.ref _] ({ pos := [Value.ref l] } : Args).kw)
    ret (Value.ref _)) _ _ _
  rw [hsz]
  refine wpAny_bind (wpAny_holding (wpAny_call_entry PyProof.Rows.slot_list_sort ⟨_, hoL, rfl⟩ PyProof.Rows.entry_list_sort (SrtO.list_sort_ord O hoL hz (fun h2 => hS h2 _ _ hoL keep) fun out hs hb => ?_) (PyProof.Rows.args_list_sort _)))
  exact ⟨Value.none, rfl, wpAny_pure ⟨_, rfl, h out hs hb⟩⟩
def rSortedIT (K : PySem.W.Frag) : List V → Hp → VK → Prop := fun vs H Q => ∃ a ns, vs = [V.ref a] ∧ SqT K H a (List.map V.int ns) ∧
  ∀ (ns' : List Int) (p : Addr), ns'.Perm ns → List.Pairwise (fun x1 x2 => x1 ≤ x2) ns' → H p = none → Q (V.ref p) (upd H p (HO.lst (List.map V.int ns')))
theorem cr_sortedIT {X : Cx} : CallR X (Value.builtin "sorted") (rSortedIT X.K) := by
  intro pins s σ H vs us Q I r h
  obtain ⟨a, ns, rfl, hs, q⟩ := h
  obtain ⟨its, rv, hl, hz⟩ := I.tuple hs
  rw [Vals.ref1 r]
  have hi := Vals.ints rv
  refine sorted_ordT SrtO.swo_int hl (by rw [← Vals.length rv]; exact hz) (fun h2 h1 a' x x1 => SrtO.ints_sortable hi h2) fun out h1 h2 => ?_
  obtain ⟨k1, k2, k3⟩ := SrtO.ints_out hi h1 h2
  obtain ⟨ep, he'⟩ := PyProof.Rows.sortedAll_at s.heap its out.toArray
  have hlen : (List.map V.int (List.map SrtO.iv out)).length ≤ sizeLine := by
    rw [List.length_map, k2.length_eq]
    rw [List.length_map] at hz
    exact hz
  exact ⟨V.ref (s.heap.objs.size + 1), upd H (s.heap.objs.size + 1) (HO.lst (List.map V.int (List.map SrtO.iv out))), Inv.laid I (fun x x1 => PyProof.Rows.sortedAll_old) (Nat.le_succ s.heap.objs.size) ⟨hlen, out, ep, vals_of_ints k1, he'⟩, rfl, q (List.map SrtO.iv out) (s.heap.objs.size + 1) k2 k3 (HOk.fresh I.hok (Nat.le_succ s.heap.objs.size))⟩


/-! ### the befores that are handed to a bare web -/
theorem lcg_sq {K : PySem.W.Frag} {a : Addr} {xs : List V} {g : TG} {tt : TT} {te : TE} {vs : List Nat} {σ : L2.St} {H1 : Hp} {Q : VK} (hq : SqAt H1 a xs) (Pv : Addr → Nat → Hp → Prop) (h0 : ∀ D, H1 D = none → Pv D 0 (upd H1 D (.lst []))) (hl : ∀ D i H, H1 D = none → Pv D i H → Evl.Ex H1 H)
    (hs : ∀ D i x H, H1 D = none → xs[i]? = some x → Pv D i H → g x (wipe σ vs) H fun σ2 H2 => wipe σ2 vs = wipe σ vs ∧ tt σ2 H2 fun b H3 =>
      if b = true then te σ2 H3 fun y H4 => ∃ acc, H4 D = some (.lst acc) ∧ acc.length < sizeLine ∧ Pv D (i + 1) (upd H4 D (.lst (acc ++ [y]))) else Pv D (i + 1) H3) (hd : ∀ D H, H1 D = none → Pv D xs.length H → Q (.ref D) H) :
    (∃ xs, SqL K H1 a xs) ∧ LcG (Itl K a) g tt te vs σ Q H1 ∨ (∃ xs, SqT K H1 a xs) ∧ LcG (Itt K a) g tt te vs σ Q H1 := by
  rcases hq with q | q
  · exact .inr ⟨⟨_, SqT.of q⟩, lcg_tup Pv h0 (fun D i H hD hi h => SqT.of (hl D i H hD h _ _ q)) hs hd⟩
  · exact .inl ⟨⟨_, SqL.of q⟩, lcg_list Pv h0 (fun D i H hD hi h => SqL.of (hl D i H hD h _ _ q)) hs hd⟩
theorem rep_snoc (i : Nat) : (List.replicate i true).map V.bl ++ [V.bl true] = (List.replicate (i + 1) true).map V.bl := by
  rw [List.map_replicate, List.map_replicate, List.replicate_succ']
theorem flat_nats (b : List Nat) : ((nI b).map V.int).all flatV = true := by
  rw [List.all_map]
  exact List.all_eq_true.mpr fun _ _ => rfl
theorem inV_nat {n : Nat} {b : List Nat} (h : n ∉ b) : inV (.int n) ((nI b).map V.int) = false := by
  unfold inV
  refine List.any_eq_false.mpr fun x hx => ?_
  obtain ⟨i, hi⟩ := List.mem_iff_getElem?.mp hx
  obtain ⟨m, hm, rfl⟩ := nat_at hi
  have hm2 := List.mem_of_getElem? hm
  intro q
  have e : (m : Int) = (n : Int) := by simpa [eqV] using q
  exact h (by rw [show n = m by omega]; exact hm2)
theorem nI_nodup {b : List Nat} (h : b.Nodup) : (nI b).Nodup := by
  rw [List.Nodup, List.pairwise_map]
  exact h.imp fun q z => q (by exact_mod_cast z)
section
variable {P : Program} {w : World} {K : PySem.W.Frag} {mg : Str → Option Value} {base : Heap} {a : Ad}
def spBL : Sp := fun vs H Q _ => ∃ (q : Addr) (pl m : Nat) (b : List Nat), vs = [.ref q, .int pl, .int m] ∧ SqAt H q ((nI b).map V.int) ∧ (∀ x ∈ b, x < m) ∧ pl ∉ b ∧ b.Nodup ∧ b.length < 64 ∧ ∀ H', Evl.Ex H H' → Q (.bl true) H'
def ivBL (H : Hp) (D : Addr) (i : Nat) (H' : Hp) : Prop := Evl.Ex H H' ∧ H' D = some (.lst ((List.replicate i true).map V.bl))
theorem ok_is_before_list (T : Txt K mg a) : FnOk P w K mg base CX0 3 a.f_is_before_list a.d_is_before_list ["thing", "place", "many"] spBL := by
  refine T.F_is_before_list.ok sc_is_before_list (fun vs H Q E h => ?_) (fun cdv A outer s H vs Q E hr h => ?_)
  · obtain ⟨_, _, _, _, rfl, _⟩ := h
    rfl
  · obtain ⟨q, pl, m, b, rfl, hq, hm, hp, hn, hl, k⟩ := h
    refine ⟨_, (pss_cons (ps_if (PW.pt (pw_or (pt_not (pt_val (pe_call (ok_is_sequence T) (hr.mono (by decide)) rfl T.m_is_sequence T.F_is_sequence.kp T.b_is_sequence .nil pass0 (pa_cons (pv 0) pa_nil)))) (pw_or1 (pt_not (pt_val (pe_callB (cr_all rfl) (by rfl) T.z_all (by decide +kernel) (pa_cons (pe_lc (own := [("before", 3)]) (g := gName 3) (tt := tYes) rfl sc_is_before_list.nd (pi_or (pi_list (pv 0)) (pi_tup (pv 0))) (blkOk_by (own := [("before", 3)]) (N := ["thing", "place", "many", "before"]) (sc := defScope s_is_before_list) (by decide +kernel)) (fun _ _ _ _ _ => pg_name (i := 3) sc_is_before_list.nd rfl (Or.inl rfl)) (fun _ _ _ _ _ => pts_nil) (fun _ _ _ _ _ => (pe_call (ok_is_within T) (hr.mono (by decide)) rfl T.m_is_within T.F_is_within.kp T.b_is_within .nil pass0 (pa_cons (pv 3) (pa_cons pe_int (pa_cons (pe_op op_sub (pv 2) pe_int) pa_nil)))))) pa_nil))))))) (pss_one (ps_ret pe_bl))
    pss_nil)
  (pss_one (ps_ret (pe_and (pe_cmpR op_notIn_seq (pv 1) (pv 0) (by rfl)) (pe_one (pe_cmpR op_eq (pe_callB call_lenS (by rfl) T.z_len (by decide +kernel) (pa_cons (pe_callTy (call_setIs rfl) (by rfl) T.z_set (by decide +kernel) (pa_cons (pv 0) pa_nil)) pa_nil)) (pe_callB call_len_seq (by rfl) T.z_len (by decide +kernel) (pa_cons (pv 0) pa_nil)) (nomark _))))))), ?_⟩
    walk_at "sm"
    refine ⟨.ref q, rfl, hq.plain, fun H1 e1 => ⟨_, rfl, iteF ?_⟩⟩
    have hq1 := hq.go e1
    refine lcg_sq (xs := (nI b).map V.int) hq1 (ivBL H1) (fun D hD => ⟨Evl.Ex.new hD, upd_same⟩) (fun D i HX hD h => h.1) ?_ ?_
    · rintro D i x HX hD hi ⟨f1, f2⟩
      obtain ⟨n, hn1, rfl⟩ := nat_at hi
      walk_at "sm"
      have nm := hm n (List.mem_of_getElem? hn1)
      have li := (List.getElem?_eq_some_iff.mp hn1).1
      refine ⟨.int n, 0, (m : Int) - 1, rfl, plain_int, _, f2, Nat.lt_of_le_of_lt (show _ ≤ 100 by rw [List.length_map, List.length_replicate]; omega) (by decide), f1.mut hD, ?_⟩
      rw [upd_same, show wiB (.int (n : Int)) 0 ((m : Int) - 1) = true from (by show (decide ((0 : Int) ≤ (n : Int)) && decide ((n : Int) ≤ (m : Int) - 1)) = true; rw [decide_eq_true (show (0 : Int) ≤ (n : Int) by omega), decide_eq_true (show (n : Int) ≤ (m : Int) - 1 by omega)]; rfl), rep_snoc]
    · rintro D HX hD ⟨f1, f2⟩
      walk_at "sm"
      have hq2 := hq1.go f1
      refine ⟨D, _, rfl, SqL.of f2, _, rfl, ?_⟩
      rw [show (List.replicate ((nI b).map V.int).length true).all id = true from List.all_eq_true.mpr fun x hx => (List.mem_replicate.mp hx).2]
      refine iteF ?_
      have fin : rSetI K w [V.ref q] HX fun x H1 => ∃ a_1, x = V.ref a_1 ∧ ∃ x x_1, H1 a_1 = some (SetO w a_1 x x_1) ∧ ∃ x, (SqL K H1 q x ∨ SqT K H1 q x) ∧ Q (V.bl (decide ((x_1 : Int) = (x.length : Int)))) H1 := by
        refine ⟨q, nI b, rfl, hq2.sq, by rw [List.length_map]; exact hl, fun p2 c hc hcn hp2 => ⟨p2, rfl, _, c, upd_same, _, (hq2.go (Evl.Ex.new hp2)).sq, ?_⟩⟩
        rw [decide_eq_true (by rw [hcn.mpr (nI_nodup hn), nI_len, List.length_map])]
        exact k _ ((e1.trans f1).trans (Evl.Ex.new hp2))
      have nin : inV (.int pl) ((nI b).map V.int) = false := inV_nat hp
      rcases hq2 with g | g
      · exact ni_tup (SqT.of g) rfl (flat_nats b) ⟨_, rfl, by rw [nin]; exact iteT fin⟩
      · exact ⟨q, _, rfl, .inl (SqL.of g), rfl, flat_nats b, _, rfl, by rw [nin]; exact iteT fin⟩
end


/-! ### the errors of webs and bare webs; rules inside a comprehension -/
section
variable {P : Program} {w : World} {K : PySem.W.Frag} {mg : Str → Option Value} {base : Heap} {a : Ad}
theorem ok_BadBare_init (T : Txt K mg a) : FnOk P w K mg base CX0 1 a.f_BadBare___init__ a.d_BadBare___init__ ["self", "place", "what"] (spInit2 a.c_BadBare "place" "what") := by
  refine T.F_BadBare___init__.ok sc_BadBare___init__ (fun vs H Q E h => ?_) (fun cdv A outer s H vs Q E hr h => ?_)
  · obtain ⟨e, x, y, rfl, _⟩ := h
    rfl
  · obtain ⟨e, x, y, rfl, he, k⟩ := h
    refine ⟨_, pss_one (ps_asg (pe_tup (pa_cons (pv 1) (pa_cons (pv 2) pa_nil))) (pg_tup rfl (pgs_cons (pg_ost (pv 0)) (pgs_cons (pg_ost (pv 0)) pgs_nil)))), ?_⟩
    refine ⟨_, rfl, _, rfl, (by show 2 ≤ sizeLine; decide), fun t ht => ?_⟩
    have net : e ≠ t := ne_of_none he ht
    refine ⟨t, _, rfl, .inl (.inl upd_same), rfl, _, _, rfl, _, rfl, e, a.c_BadBare, rfl, T.x_BadBare, T.xn_BadBare_place, .inl ⟨by rw [upd_ne net]; exact he, fun dx hdx hne => ?_⟩⟩
    have ndt : dx ≠ t := fun q => by rw [q, upd_same] at hdx; cases hdx
    have hd0 : H dx = none := by rw [upd_ne ndt] at hdx; exact hdx
    refine ⟨_, _, rfl, _, rfl, e, a.c_BadBare, rfl, T.x_BadBare, T.xn_BadBare_what, .inr ⟨dx, [("place", x)], upd_same, by rw [upd_ne hne, upd_same], (by show 1 ≤ 900; omega), rfl, ?_⟩⟩
    refine k dx _ hd0 hne (fun b o nb hb => ?_) (by rw [upd_ne (Ne.symm hne), upd_same]) upd_same
    rw [upd_ne (ne_of_none hb hd0), upd_ne nb, upd_ne (ne_of_none hb hd0), upd_ne (ne_of_none hb ht)]
    exact hb
end
theorem cr_sortedI_b {X : Cx} {s : Shared} {H : Hp} {scope : Scope} {env : Env} {fp : List Addr} : CallR (X.blk s H scope env fp) (.builtin "sorted") (rSortedI X.K) := cr_sortedI
theorem cr_sortedIT_b {X : Cx} {s : Shared} {H : Hp} {scope : Scope} {env : Env} {fp : List Addr} : CallR (X.blk s H scope env fp) (.builtin "sorted") (rSortedIT X.K) := cr_sortedIT
theorem call_len_seq_b {X : Cx} {s : Shared} {H : Hp} {scope : Scope} {env : Env} {fp : List Addr} : CallR (X.blk s H scope env fp) (.builtin "len") (fun xs H Q => ∃ p ys, xs = [.ref p] ∧ (SqL X.K H p ys ∨ SqT X.K H p ys) ∧ Q (.int ys.length) H) := call_len_seq
theorem call_tuple_of_b {X : Cx} {s : Shared} {H : Hp} {scope : Scope} {env : Env} {fp : List Addr} : CallR (X.blk s H scope env fp) (.type "tuple") (fun xs H Q => ∃ p ys, xs = [.ref p] ∧ ((SqL X.K H p ys ∧ ∀ l, H l = none → Q (.ref l) (upd H l (.tup ys))) ∨ (SqT X.K H p ys ∧ Q (.ref p) H))) := call_tuple_of
/-- a walk over enumerate(what stands in slot n), a list or a tuple -/
theorem for_sqE {K : PySem.W.Frag} {n : Nat} {p : Addr} {xs : List V} {g : TG} {tb : TS} {D : Ends} {σ : L2.St} {H : Hp} (hq : SqAt H p xs) (hv : σ[n]? = some (some (.ref p))) (Pv : Nat → L2.St → Hp → Prop) (h0 : Pv 0 σ H) (he : ∀ i σ HX, Pv i σ HX → Evl.Ex H HX)
    (hs : ∀ i σ HX T y, xs[i]? = some y → Pv i σ HX → HX T = none → g (.ref T) σ (upd HX T (.tup [.int (i : Nat), y])) fun σ2 H2 => tb { D with nx := Pv (i + 1), ct := Pv (i + 1), bk := D.nx } σ2 H2) (hd : ∀ σ HX, Pv xs.length σ HX → D.nx σ HX) :
    tFor (fun σ H R => iEnum K (tCons (tVar n) tNil) σ H R ∨ iEnumT K (tCons (tVar n) tNil) σ H R) g tb D σ H := by
  rcases hq with q | q
  · refine .inr ⟨_, hv, p, xs, rfl, SqT.of q, for_en (n := xs.length) Pv h0 (fun i σ HX hi h => ⟨xs, xs[i], SqT.of (he _ _ _ h _ _ q), List.getElem?_eq_getElem hi⟩) (fun σ HX h => ⟨xs, SqT.of (he _ _ _ h _ _ q), rfl⟩) ?_ hd⟩
    rintro i σ HX x HY hi h ⟨Tt, y, rfl, hT, rfl, hy⟩
    exact hs i σ HX Tt y (hy xs (SqT.of (he _ _ _ h _ _ q))) h hT
  · refine .inl ⟨_, hv, p, xs, rfl, SqL.of q, for_en (n := xs.length) Pv h0 (fun i σ HX hi h => ⟨xs, xs[i], SqL.of (he _ _ _ h _ _ q), List.getElem?_eq_getElem hi⟩) (fun σ HX h => ⟨xs, SqL.of (he _ _ _ h _ _ q), Nat.le_refl _⟩) ?_ hd⟩
    rintro i σ HX x HY hi h ⟨Tt, y, rfl, hT, rfl, hy⟩
    exact hs i σ HX Tt y (hy xs (SqL.of (he _ _ _ h _ _ q))) h hT
/-- the same over enumerate(a tuple) alone is pi_enumT's; a comprehension over a list or a tuple in slot n -/
theorem lcg_sqV {K : PySem.W.Frag} {n : Nat} {a : Addr} {xs : List V} {g : TG} {tt : TT} {te : TE} {vs : List Nat} {σ : L2.St} {H1 : Hp} {Q : VK} (hv : σ[n]? = some (some (.ref a))) (hq : SqAt H1 a xs) (Pv : Addr → Nat → Hp → Prop) (h0 : ∀ D, H1 D = none → Pv D 0 (upd H1 D (.lst []))) (hl : ∀ D i H, H1 D = none → Pv D i H → Evl.Ex H1 H)
    (hs : ∀ D i x H, H1 D = none → xs[i]? = some x → Pv D i H → g x (wipe σ vs) H fun σ2 H2 => wipe σ2 vs = wipe σ vs ∧ tt σ2 H2 fun b H3 =>
      if b = true then te σ2 H3 fun y H4 => ∃ acc, H4 D = some (.lst acc) ∧ acc.length < sizeLine ∧ Pv D (i + 1) (upd H4 D (.lst (acc ++ [y]))) else Pv D (i + 1) H3) (hd : ∀ D H, H1 D = none → Pv D xs.length H → Q (.ref D) H) :
    (∃ v, σ[n]? = some (some v) ∧ ∃ a, v = V.ref a ∧ (∃ xs, SqL K H1 a xs) ∧ LcG (Itl K a) g tt te vs σ Q H1) ∨ ∃ v, σ[n]? = some (some v) ∧ ∃ a, v = V.ref a ∧ (∃ xs, SqT K H1 a xs) ∧ LcG (Itt K a) g tt te vs σ Q H1 :=
  (lcg_sq (K := K) hq Pv h0 hl hs hd).imp (fun ⟨h1, h2⟩ => ⟨_, hv, a, rfl, h1, h2⟩) fun ⟨h1, h2⟩ => ⟨_, hv, a, rfl, h1, h2⟩
/-! ### checked_befores -/
/-- befores as they are handed in: places of the web, each once, in any order -/
def BefG (bs : List (List Nat)) : Prop := 1 ≤ bs.length ∧ bs.length ≤ 200 ∧ ∀ (i : Nat) (b : List Nat), bs[i]? = some b → b.Nodup ∧ (∀ x ∈ b, x < bs.length ∧ x ≠ i) ∧ b.length ≤ 60
/-- as they are kept: ascending -/
def BefOk (bs : List (List Nat)) : Prop := 1 ≤ bs.length ∧ bs.length ≤ 200 ∧ ∀ (i : Nat) (b : List Nat), bs[i]? = some b → b.Pairwise (· < ·) ∧ (∀ x ∈ b, x < bs.length ∧ x ≠ i) ∧ b.length ≤ 60
def sb (b : List Nat) : List Nat := (List.range 200).filter fun k => decide (k ∈ b)
theorem sb_mem {b : List Nat} (h : ∀ x ∈ b, x < 200) {k : Nat} : k ∈ sb b ↔ k ∈ b := by
  unfold sb
  rw [List.mem_filter, List.mem_range, decide_eq_true_eq]
  exact ⟨fun q => q.2, fun q => ⟨h _ q, q⟩⟩
theorem sb_lt (b : List Nat) : (sb b).Pairwise (· < ·) := List.Pairwise.filter _ (range_lt 200)
theorem sb_uniq {b : List Nat} {ns : List Int} (h : ∀ x ∈ b, x < 200) (nd : b.Nodup) (pm : ns.Perm (nI b)) (pw : ns.Pairwise (· ≤ ·)) : ns = nI (sb b) := by
  have nd2 : ns.Nodup := (pm.nodup_iff).mpr (nI_nodup nd)
  have lt : ns.Pairwise (· < ·) := by
    have := List.pairwise_and_iff.mpr ⟨pw, nd2⟩
    exact this.imp fun q => by omega
  refine asc_uniq lt (ints_lt (sb_lt b)) fun k => ?_
  rw [pm.mem_iff, mem_ints, mem_ints]
  exact ⟨fun ⟨n, h1, h2⟩ => ⟨n, (sb_mem h).mpr h1, h2⟩, fun ⟨n, h1, h2⟩ => ⟨n, (sb_mem h).mp h1, h2⟩⟩
theorem asc_self {b : List Nat} (h : ∀ x ∈ b, x < 200) (a : b.Pairwise (· < ·)) : sb b = b := by
  have e := asc_uniq (ints_lt (sb_lt b)) (ints_lt a) fun k => by
    rw [mem_ints, mem_ints]
    exact ⟨fun ⟨n, h1, h2⟩ => ⟨n, (sb_mem h).mp h1, h2⟩, fun ⟨n, h1, h2⟩ => ⟨n, (sb_mem h).mpr h1, h2⟩⟩
  have inj : ∀ {l m : List Nat}, nI l = nI m → l = m := fun {l m} q => List.map_inj_right (fun x y z => by exact_mod_cast z) |>.mp q
  exact inj e
theorem sb_len (b : List Nat) : (sb b).length ≤ b.length := by
  have nd : (sb b).Nodup := (sb_lt b).imp fun h => Nat.ne_of_lt h
  refine nd.length_le_of_subset fun x hx => ?_
  unfold sb at hx
  rw [List.mem_filter, decide_eq_true_eq] at hx
  exact hx.2
theorem BefG.ok {bs : List (List Nat)} (h : BefG bs) : BefOk (bs.map sb) := by
  refine ⟨by rw [List.length_map]; exact h.1, by rw [List.length_map]; exact h.2.1, fun i b hb => ?_⟩
  rw [List.getElem?_map] at hb
  cases e : bs[i]? with
  | none => rw [e] at hb; cases hb
  | some c =>
    rw [e] at hb
    cases hb
    obtain ⟨h1, h2, h3⟩ := h.2.2 i c e
    have l2 := h.2.1
    have lt : ∀ x ∈ c, x < 200 := fun x hx => by have := (h2 x hx).1; omega
    refine ⟨sb_lt c, fun x hx => ?_, Nat.le_trans (sb_len c) h3⟩
    rw [List.length_map]
    exact h2 x ((sb_mem lt).mp hx)
theorem BefOk.g {bs : List (List Nat)} (h : BefOk bs) : BefG bs ∧ bs.map sb = bs := by
  refine ⟨⟨h.1, h.2.1, fun i b hb => ?_⟩, ?_⟩
  · obtain ⟨h1, h2, h3⟩ := h.2.2 i b hb
    exact ⟨h1.imp fun z => Nat.ne_of_lt z, h2, h3⟩
  · refine (List.map_congr_left fun b hb => ?_).trans (List.map_id bs)
    obtain ⟨i, hi⟩ := List.mem_iff_getElem?.mp hb
    obtain ⟨h1, h2, _⟩ := h.2.2 i b hi
    have l2 := h.2.1
    exact asc_self (fun x hx => by have := (h2 x hx).1; omega) h1
/-- rows that are lists or tuples -/
def rowG (H : Hp) (x : V) (b : List Nat) : Prop := ∃ q, x = .ref q ∧ SqAt H q ((nI b).map V.int)
def ArrG (H : Hp) (p : Addr) (bs : List (List Nat)) : Prop := ∃ xs, SqAt H p xs ∧ Paired (rowG H) xs bs
theorem ArrG.go {H H' : Hp} {p : Addr} {bs : List (List Nat)} (e : Kp H H') (h : ArrG H p bs) : ArrG H' p bs := by
  obtain ⟨xs, h1, h2⟩ := h
  exact ⟨xs, h1.kp e, Paired.mapP h2 fun _ _ ⟨q, z1, z2⟩ => ⟨q, z1, z2.kp e⟩⟩
def ArrT (H : Hp) (p : Addr) (bs : List (List Nat)) : Prop := ∃ xs, H p = some (.tup xs) ∧ Paired (rowR H) xs bs
theorem ArrT.arr {H : Hp} {p : Addr} {bs : List (List Nat)} (h : ArrT H p bs) : Arr H p bs := by
  obtain ⟨xs, h1, h2⟩ := h
  exact ⟨xs, .inl h1, h2⟩
theorem ArrT.go {H H' : Hp} {p : Addr} {bs : List (List Nat)} (e : Kp H H') (h : ArrT H p bs) : ArrT H' p bs := by
  obtain ⟨xs, h1, h2⟩ := h
  exact ⟨xs, e.1 _ _ h1, Paired.mapP h2 fun _ _ z => z.go e⟩
section
variable {P : Program} {w : World} {K : PySem.W.Frag} {mg : Str → Option Value} {base : Heap} {a : Ad}
def spCB : Sp := fun vs H Q _ => ∃ (p : Addr) (bs : List (List Nat)), vs = [.ref p] ∧ ArrG H p bs ∧ BefG bs ∧ ∀ q H', Evl.Ex H H' → ArrT H' q (bs.map sb) → Q (.ref q) H'
def ivCB (H : Hp) (p : Addr) : Nat → L2.St → Hp → Prop := fun i σ H' => ∃ v1 v2, σ = [some (.ref p), v1, v2] ∧ Evl.Ex H H'
def ivCC (H : Hp) (bs : List (List Nat)) (D : Addr) (i : Nat) (H' : Hp) : Prop := Evl.Ex H H' ∧ ∃ xs, H' D = some (.lst xs) ∧ Paired (rowR H') xs ((bs.take i).map sb)
theorem ok_checked_befores (T : Txt K mg a) : FnOk P w K mg base (L2.CX P w) 4 a.f_checked_befores a.d_checked_befores ["befores"] spCB := by
  refine T.F_checked_befores.okX sc_checked_befores (fun vs H Q E h => ?_) (fun cdv A outer s H vs Q E hr h => ?_)
  · obtain ⟨_, _, rfl, _⟩ := h
    rfl
  · obtain ⟨p, bs, rfl, ha, hb, k⟩ := h
    obtain ⟨xs, hp, hx⟩ := ha
    have lx := paired_len hx
    refine ⟨_, (pss_cons (ps_if (PW.pt (pw_or (pt_not (pt_val (pe_call (ok_is_sequence T) (hr.mono (by decide)) rfl T.m_is_sequence T.F_is_sequence.kp T.b_is_sequence .nil pass0 (pa_cons (pv 0) pa_nil)))) (pw_or1 (pt_not (pt_chain op_le op_le pe_int (pe_callB call_len_seq (by rfl) T.z_len (by decide +kernel) (pa_cons (pv 0) pa_nil)) (pe_glob rfl T.g_MOST_PLACES.choose_spec.1 T.g_MOST_PLACES.choose_spec.2)))))) (pss_one (ps_raise rfl (takes_of rfl rfl rfl rfl) (pmk_oex T.x_BadBare T.xi_BadBare T.xt_BadBare (ok_BadBare_init T) (hr.mono (by decide)) T.b_BadBare___init__ .nil pass0 rfl T.m_BadBare (pa_cons (pe_un un_neg pe_int) (pa_cons pe_str pa_nil)))))
    pss_nil)
  (pss_cons (ps_for (passes_of rfl) rfl (pi_or (pi_enum (by rfl) T.z_enumerate (pa_cons (pv 0) pa_nil)) (pi_enumT (by rfl) T.z_enumerate (pa_cons (pv 0) pa_nil))) (pg_tup rfl (pgs_cons (pg_name (i := 1) sc_checked_befores.nd rfl (by first | exact Or.inl rfl | exact Or.inr rfl)) (pgs_cons (pg_name (i := 2) sc_checked_befores.nd rfl (by first | exact Or.inl rfl | exact Or.inr rfl)) pgs_nil))) (pss_one (ps_if (pt_not (pt_val (pe_call (ok_is_before_list T) (hr.mono (by decide)) rfl T.m_is_before_list T.F_is_before_list.kp T.b_is_before_list .nil pass0 (pa_cons (pv 2) (pa_cons (pv 1) (pa_cons (pe_callB call_len_seq (by rfl) T.z_len (by decide +kernel) (pa_cons (pv 0) pa_nil)) pa_nil)))))) (pss_one (ps_raise rfl (takes_of rfl rfl rfl rfl) (pmk_oex T.x_BadBare T.xi_BadBare T.xt_BadBare (ok_BadBare_init T) (hr.mono (by decide)) T.b_BadBare___init__ .nil pass0 rfl T.m_BadBare (pa_cons (pv 1) (pa_cons pe_str pa_nil)))))
    pss_nil)))
  (pss_one (ps_ret (pe_callTy call_tuple_of (by rfl) T.z_tuple (by decide +kernel) (pa_cons (pe_lc (own := [("listed", 2)]) (g := gName 2) (tt := tYes) rfl sc_checked_befores.nd (pi_or (pi_list (pv 0)) (pi_tup (pv 0))) (blkOk_by (own := [("listed", 2)]) (N := ["befores", "place", "listed"]) (sc := defScope s_checked_befores) (by decide +kernel)) (fun _ _ _ _ _ => pg_name (i := 2) sc_checked_befores.nd rfl (Or.inl rfl)) (fun _ _ _ _ _ => pts_nil) (fun _ _ _ _ _ => (pe_callTy call_tuple_of_b (by rfl) T.z_tuple (by decide +kernel) (pa_cons (pe_callB (CallR.or cr_sortedI_b cr_sortedIT_b) (by rfl) T.z_sorted (by decide +kernel) (pa_cons (pv 2) pa_nil)) pa_nil)))) pa_nil)))))), ?_⟩
    walk_at "sm"
    refine ⟨.ref p, rfl, hp.plain, fun H1 e1 => ⟨_, rfl, iteF ?_⟩⟩
    have hp1 := hp.go e1
    have ll : (xs.length : Int) = (bs.length : Int) := by rw [lx]
    refine ⟨xs, hp1.sq, iteP (by have := hb.1; omega) (iteF' (by rw [decide_eq_true (by have := hb.2.1; omega)]; rfl) ?_)⟩
    refine for_sqE (xs := xs) hp1 rfl (ivCB H1 p) ⟨none, none, rfl, Evl.Ex.refl _⟩ (fun i σ HX ⟨_, _, _, h⟩ => h) ?_ ?_
    · rintro i σ HX Tt y hy ⟨v1, v2, rfl, f1⟩ hT
      have eT := Evl.Ex.new (o := .tup [.int (i : Nat), y]) hT
      obtain ⟨b, hb1, q, rfl, hq⟩ := paired_at hx hy
      have f2 := (e1.trans f1).trans eT
      obtain ⟨c1, c2, c3⟩ := hb.2.2 i b hb1
      have hi := (List.getElem?_eq_some_iff.mp hb1).1
      walk_at "sm"
      refine ⟨_, SqT.of upd_same, rfl, _, _, rfl, _, _, rfl, rfl, xs, (hp.go f2).sq, q, i, bs.length, b, by rw [ll], hq.go f2, fun x hx2 => (c2 x hx2).1, fun z => (c2 _ z).2 rfl, c1, by omega, fun H' e' => ⟨_, rfl, iteF ⟨_, _, rfl, (f1.trans eT).trans e'⟩⟩⟩
    · rintro σ HX ⟨v1, v2, rfl, f1⟩
      walk_at "sm"
      have f2 := e1.trans f1
      refine lcg_sq (xs := xs) (hp.go f2) (ivCC HX bs) (fun D hD => ⟨Evl.Ex.new hD, [], upd_same, .nil⟩) (fun D i HY hD h => h.1) ?_ ?_
      · rintro D i y HY hD hy ⟨g1, ys, g2, g3⟩
        obtain ⟨b, hb1, q, rfl, hq⟩ := paired_at hx hy
        obtain ⟨c1, c2, c3⟩ := hb.2.2 i b hb1
        have hqY := hq.go (f2.trans g1)
        walk_at "sm"
        have li := (List.getElem?_eq_some_iff.mp hb1).1
        have ly : ys.length ≤ 200 := by rw [paired_len g3, List.length_map, List.length_take]; have := hb.2.1; exact Nat.le_trans (Nat.min_le_right _ _) this
        have fin : ∀ (H5 : Hp) (l : Addr), Evl.Ex HY H5 → H5 l = none → ∃ acc, upd H5 l (HO.tup ((nI (sb b)).map V.int)) D = some (HO.lst acc) ∧ acc.length < sizeLine ∧ ivCC HX bs D (i + 1) (upd (upd H5 l (HO.tup ((nI (sb b)).map V.int))) D (HO.lst (acc ++ [V.ref l]))) := by
          intro H5 l e5 hl
          have e6 := e5.trans (Evl.Ex.new (o := .tup ((nI (sb b)).map V.int)) hl)
          refine ⟨ys, e6 _ _ g2, Nat.lt_of_le_of_lt ly (by decide), Evl.Ex.mut (g1.trans e6) hD, _, upd_same, ?_⟩
          have hl6 : upd H5 l (HO.tup ((nI (sb b)).map V.int)) l = some (HO.tup ((nI (sb b)).map V.int)) := upd_same
          have tk : ∀ c zs, upd H5 l (HO.tup ((nI (sb b)).map V.int)) c = some (.tup zs) → upd (upd H5 l (HO.tup ((nI (sb b)).map V.int))) D (HO.lst (ys ++ [V.ref l])) c = some (.tup zs) := fun c zs h => by
            rw [upd_ne (fun z => by rw [z, e6 _ _ g2] at h; cases h)]
            exact h
          rw [List.take_add_one, hb1, List.map_append]
          refine Paired.snoc ⟨l, rfl, tk _ _ hl6⟩ (Paired.mapP g3 fun x c z => ?_)
          obtain ⟨qq, z1, z2⟩ := z
          exact ⟨qq, z1, tk _ _ (e6 _ _ z2)⟩
        have l2 := hb.2.1
        rcases hqY with hqY | hqY
        · refine .inr ⟨q, nI b, rfl, SqT.of hqY, fun ns p1 pm pw hp1 => ⟨p1, rfl, _, .inl ⟨SqL.of upd_same, fun l hl => ?_⟩⟩⟩
          have en : ns = nI (sb b) := sb_uniq (fun x hx => by have := (c2 x hx).1; omega) c1 pm pw
          subst en
          exact fin _ l (Evl.Ex.new hp1) hl
        · refine .inl ⟨q, nI b, rfl, SqL.of hqY, fun ns p1 pm pw hp1 => ⟨p1, rfl, _, .inl ⟨SqL.of upd_same, fun l hl => ?_⟩⟩⟩
          have en : ns = nI (sb b) := sb_uniq (fun x hx => by have := (c2 x hx).1; omega) c1 pm pw
          subst en
          exact fin _ l (Evl.Ex.new hp1) hl
      · rintro D HY hD ⟨g1, ys, g2, g3⟩
        walk_at "sm"
        rw [lx, List.take_of_length_le (Nat.le_refl _)] at g3
        refine ⟨ys, .inl ⟨SqL.of g2, fun l hl => k l _ ((f2.trans g1).trans (Evl.Ex.new hl)) ⟨ys, upd_same, Paired.mapP g3 fun x c z => z.go (Kp.ex (Evl.Ex.new hl))⟩⟩⟩
end


/-! ### afters_of -/
def row (bs : List (List Nat)) (p : Nat) : List Nat := (bs[p]?).getD []
def aftUp (bs : List (List Nat)) (i q : Nat) : List Nat := (List.range i).filter fun p => decide (q ∈ row bs p)
def aft (bs : List (List Nat)) (q : Nat) : List Nat := aftUp bs bs.length q
def afts (bs : List (List Nat)) : List (List Nat) := (List.range bs.length).map (aft bs)
theorem aftUp_succ (bs : List (List Nat)) (i q : Nat) : aftUp bs (i + 1) q = aftUp bs i q ++ if q ∈ row bs i then [i] else [] := by
  unfold aftUp
  rw [List.range_succ, List.filter_append, List.filter_cons, List.filter_nil]
  by_cases h : q ∈ row bs i <;> simp [h]
theorem aftUp_len (bs : List (List Nat)) (i q : Nat) : (aftUp bs i q).length ≤ i := Nat.le_trans (List.length_filter_le _ _) (Nat.le_of_eq (List.length_range ..))
theorem take_mem {b : List Nat} {j n x : Nat} (h : b[j]? = some n) : x ∈ b.take (j + 1) ↔ x ∈ b.take j ∨ x = n := by
  rw [List.take_add_one, h, List.mem_append]
  simp
theorem take_not {b : List Nat} {j n : Nat} (h : b[j]? = some n) (nd : b.Nodup) : n ∉ b.take j := fun q => by
  obtain ⟨k, hk⟩ := List.mem_iff_getElem?.mp q
  have kj : k < j := by
    have := (List.getElem?_eq_some_iff.mp hk).1
    rw [List.length_take] at this
    omega
  rw [List.getElem?_take_of_lt kj] at hk
  obtain ⟨i1, j1⟩ := List.getElem?_eq_some_iff.mp hk
  obtain ⟨i2, j2⟩ := List.getElem?_eq_some_iff.mp h
  have := (List.getElem_inj nd).mp (j1.trans j2.symm)
  omega
theorem row_of {bs : List (List Nat)} {i : Nat} {b : List Nat} (h : bs[i]? = some b) : row bs i = b := by
  unfold row
  rw [h]
  rfl
theorem for_tupE {K : PySem.W.Frag} {n : Nat} {p : Addr} {xs : List V} {g : TG} {tb : TS} {D : Ends} {σ : L2.St} {H : Hp} (hv : σ[n]? = some (some (.ref p))) (Pv : Nat → L2.St → Hp → Prop) (h0 : Pv 0 σ H) (he : ∀ i σ HX, Pv i σ HX → HX p = some (.tup xs))
    (hs : ∀ i σ HX T y, xs[i]? = some y → Pv i σ HX → HX T = none → g (.ref T) σ (upd HX T (.tup [.int (i : Nat), y])) fun σ2 H2 => tb { D with nx := Pv (i + 1), ct := Pv (i + 1), bk := D.nx } σ2 H2) (hd : ∀ σ HX, Pv xs.length σ HX → D.nx σ HX) :
    tFor (iEnumT K (tCons (tVar n) tNil)) g tb D σ H := by
  refine ⟨_, hv, p, xs, rfl, SqT.of (he _ _ _ h0), for_en (n := xs.length) Pv h0 (fun i σ HX hi h => ⟨xs, xs[i], SqT.of (he _ _ _ h), List.getElem?_eq_getElem hi⟩) (fun σ HX h => ⟨xs, SqT.of (he _ _ _ h), rfl⟩) ?_ hd⟩
  rintro i σ HX x HY hi h ⟨Tt, y, rfl, hT, rfl, hy⟩
  exact hs i σ HX Tt y (hy xs (SqT.of (he _ _ _ h))) h hT
section
variable {P : Program} {w : World} {K : PySem.W.Frag} {mg : Str → Option Value} {base : Heap} {a : Ad}
def AfAt (H : Hp) (l : Addr) (ls : List Addr) (f : Nat → List Nat) : Prop := H l = some (.lst (ls.map V.ref)) ∧ ls.Nodup ∧ l ∉ ls ∧ ∀ (q : Nat) (c : Addr), ls[q]? = some c → H c = some (.lst ((nI (f q)).map V.int))
def spAF : Sp := fun vs H Q _ => ∃ (p : Addr) (bs : List (List Nat)), vs = [.ref p] ∧ ArrT H p bs ∧ BefOk bs ∧ ∀ q H', Evl.Ex H H' → ArrT H' q (afts bs) → Q (.ref q) H'
theorem AfAt.push {H : Hp} {l c : Addr} {ls : List Addr} {f : Nat → List Nat} {q v : Nat} (h : AfAt H l ls f) (hc : ls[q]? = some c) : AfAt (upd H c (.lst ((nI (f q ++ [v])).map V.int))) l ls (fun x => if x = q then f x ++ [v] else f x) := by
  obtain ⟨h1, h2, h3, h4⟩ := h
  have hm := List.mem_of_getElem? hc
  refine ⟨by rw [upd_ne (fun z => h3 (by rw [z]; exact hm))]; exact h1, h2, h3, fun x d hd => ?_⟩
  by_cases e : x = q
  · subst e
    rw [hc] at hd
    cases hd
    show upd H c _ c = some (.lst ((nI (if x = x then f x ++ [v] else f x)).map V.int))
    rw [upd_same, if_pos rfl]
  · show upd H c _ d = some (.lst ((nI (if x = q then f x ++ [v] else f x)).map V.int))
    rw [upd_ne (fun z => ?_), if_neg e]
    · exact h4 x d hd
    · rw [z] at hd
      obtain ⟨i1, j1⟩ := List.getElem?_eq_some_iff.mp hd
      obtain ⟨i2, j2⟩ := List.getElem?_eq_some_iff.mp hc
      exact e ((List.getElem_inj h2).mp (j1.trans j2.symm))
theorem AfAt.same {H : Hp} {l : Addr} {ls : List Addr} {f g : Nat → List Nat} (h : AfAt H l ls f) (e : ∀ q, q < ls.length → f q = g q) : AfAt H l ls g :=
  ⟨h.1, h.2.1, h.2.2.1, fun q c hc => by rw [← e q (List.getElem?_eq_some_iff.mp hc).1]; exact h.2.2.2 q c hc⟩
theorem AfAt.ex {H H' : Hp} {l : Addr} {ls : List Addr} {f : Nat → List Nat} (e : Evl.Ex H H') (h : AfAt H l ls f) : AfAt H' l ls f := ⟨e _ _ h.1, h.2.1, h.2.2.1, fun q c hc => e _ _ (h.2.2.2 q c hc)⟩
def ivA0 (H : Hp) (D : Addr) (i : Nat) (H' : Hp) : Prop := Evl.Ex H H' ∧ ∃ ls, ls.length = i ∧ AfAt H' D ls (fun _ => []) ∧ ∀ c ∈ ls, H c = none
def ivA1 (H : Hp) (p l : Addr) (ls : List Addr) (bs : List (List Nat)) : Nat → L2.St → Hp → Prop := fun i σ H' => ∃ v2 v3 v4 v5, σ = [some (.ref p), some (.ref l), v2, v3, v4, v5] ∧ Evl.Ex H H' ∧ AfAt H' l ls (aftUp bs i)
def ivA2 (H : Hp) (p l q : Addr) (ls : List Addr) (bs : List (List Nat)) (i : Nat) (b : List Nat) : Nat → L2.St → Hp → Prop := fun j σ H' => ∃ v4 v5, σ = [some (.ref p), some (.ref l), some (.int (i : Nat)), some (.ref q), v4, v5] ∧ Evl.Ex H H' ∧ AfAt H' l ls (fun x => aftUp bs i x ++ if x ∈ b.take j then [i] else [])
def ivA3 (H : Hp) (bs : List (List Nat)) (D : Addr) (i : Nat) (H' : Hp) : Prop := Evl.Ex H H' ∧ ∃ xs, H' D = some (.lst xs) ∧ Paired (rowR H') xs ((afts bs).take i)
theorem ok_afters_of (T : Txt K mg a) : FnOk P w K mg base CX0 1 a.f_afters_of a.d_afters_of ["befores"] spAF := by
  refine T.F_afters_of.ok sc_afters_of (fun vs H Q E h => ?_) (fun cdv A outer s H vs Q E hr h => ?_)
  · obtain ⟨_, _, rfl, _⟩ := h
    rfl
  · obtain ⟨p, bs, rfl, ha, hb, k⟩ := h
    obtain ⟨xs, hp, hx⟩ := ha
    have lx := paired_len hx
    refine ⟨_, (pss_cons (ps_setLc (i := 1) (own := [("_", 5)]) (g := gName 5) (tt := tYes) rfl sc_afters_of.nd rfl rfl (sw_true rfl rfl rfl (by decide +kernel)) (pi_tup (pv 0)) (blkOk_by (own := [("_", 5)]) (N := ["befores", "afters", "place", "listed", "before", "_"]) (sc := defScope s_afters_of) (by decide +kernel)) (fun _ _ _ _ _ => pg_name (i := 5) sc_afters_of.nd rfl (Or.inl rfl)) (fun _ _ _ _ _ => pts_nil) (fun _ _ _ _ _ => (pe_lst pa_nil)))
  (pss_cons (ps_for PassesOwn.never rfl (pi_enumT (by rfl) T.z_enumerate (pa_cons (pv 0) pa_nil)) (pg_tup rfl (pgs_cons (pg_name (i := 2) sc_afters_of.nd rfl (by first | exact Or.inl rfl | exact Or.inr rfl)) (pgs_cons (pg_name (i := 3) sc_afters_of.nd rfl (by first | exact Or.inl rfl | exact Or.inr rfl)) pgs_nil))) (pss_one (ps_for PassesOwn.never rfl (pi_tup (pv 3)) (pg_name (i := 4) sc_afters_of.nd rfl (by first | exact Or.inl rfl | exact Or.inr rfl)) (pss_one (ps_expr (pe_bm PySem.F.plainAttrs_list PySem.F.slot_list_append PySem.F.type_list_append mt_append (pe_ix ix_list (pv 1) (pv 4) (fun _ _ => rfl)) (pa_cons (pv 2) pa_nil)))))))
  (pss_one (ps_ret (pe_callTy call_tuple_of (by rfl) T.z_tuple (by decide +kernel) (pa_cons (pe_lc (own := [("listed", 3)]) (g := gName 3) (tt := tYes) rfl sc_afters_of.nd (pi_list (pv 1)) (blkOk_by (own := [("listed", 3)]) (N := ["befores", "afters", "place", "listed", "before", "_"]) (sc := defScope s_afters_of) (by decide +kernel)) (fun _ _ _ _ _ => pg_name (i := 3) sc_afters_of.nd rfl (Or.inl rfl)) (fun _ _ _ _ _ => pts_nil) (fun _ _ _ _ _ => (pe_callTy call_tuple_of_b (by rfl) T.z_tuple (by decide +kernel) (pa_cons (pv 3) pa_nil)))) pa_nil)))))), ?_⟩
    walk_at "sm"
    have x0 : Evl.Ex H H := Evl.Ex.refl _
    refine ⟨⟨_, SqT.of hp⟩, lcg_tup (K := K) (a := p) (xs := xs) (ivA0 H) (fun D hD => ⟨Evl.Ex.new hD, [], rfl, ⟨upd_same, List.nodup_nil, List.not_mem_nil, fun q c h => by simp at h⟩, fun c h => by simp at h⟩) (fun D i HX hD hi h => SqT.of (h.1 _ _ hp)) ?_ ?_⟩
    · rintro D i x HX hD hi ⟨f1, ls, f2, f3, f4⟩
      walk_at "sm"
      have li := (List.getElem?_eq_some_iff.mp hi).1
      have lb := hb.2.1
      refine ⟨Nat.zero_le _, fun c hc => ?_⟩
      have eC := Evl.Ex.new (o := .lst []) hc
      refine ⟨_, eC _ _ f3.1, Nat.lt_of_le_of_lt (show _ ≤ 200 by rw [List.length_map]; omega) (by decide), Evl.Ex.mut (f1.trans eC) hD, ls ++ [c], by rw [List.length_append, f2]; rfl, ?_, ?_⟩
      · have hcc : upd HX c (.lst []) c = some (.lst []) := upd_same
        have nc : ∀ d ∈ ls, d ≠ c := fun d hd z => by
          obtain ⟨q, hq⟩ := List.mem_iff_getElem?.mp hd
          have := f3.2.2.2 q d hq
          rw [z, hc] at this
          cases this
        have nD : D ≠ c := fun z => by rw [← z, f3.1] at hc; cases hc
        refine ⟨by rw [upd_same, List.map_append]; rfl, List.nodup_append.mpr ⟨f3.2.1, List.nodup_cons.mpr ⟨List.not_mem_nil, List.nodup_nil⟩, fun d hd e he => by rw [List.mem_singleton.mp he]; exact nc d hd⟩, fun z => ?_, fun q d hd => ?_⟩
        · rcases List.mem_append.mp z with z | z
          · exact f3.2.2.1 z
          · exact nD (List.mem_singleton.mp z)
        · have hd2 : upd HX c (.lst []) d = some (.lst ((nI []).map V.int)) ∧ d ≠ D := by
            rcases List.getElem?_append (l₁ := ls) (l₂ := [c]) (i := q) ▸ hd with z
            by_cases hq : q < ls.length
            · rw [List.getElem?_append_left hq] at hd
              exact ⟨eC _ _ (f3.2.2.2 q d hd), fun z => f3.2.2.1 (by rw [← z]; exact List.mem_of_getElem? hd)⟩
            · rw [List.getElem?_append_right (by omega)] at hd
              have : d = c := by
                have := List.mem_of_getElem? hd
                exact List.mem_singleton.mp this
              subst this
              exact ⟨hcc, fun z => nD z.symm⟩
          rw [upd_ne hd2.2]
          exact hd2.1
      · intro d hd
        rcases List.mem_append.mp hd with z | z
        · exact f4 d z
        · rw [List.mem_singleton.mp z]
          exact Evl.fresh_back f1 hc
    · rintro D HX hD ⟨f1, ls, f2, f3, f4⟩
      walk_at "sm"
      refine for_tupE (xs := xs) rfl (ivA1 H p D ls bs) ⟨none, none, none, none, rfl, f1, f3⟩ ?_ ?_ ?_
      · rintro i σ HY ⟨_, _, _, _, _, g1, _⟩
        exact g1 _ _ hp
      · rintro i σ HY Tt y hy ⟨v2, v3, v4, v5, rfl, g1, g2⟩ hT
        obtain ⟨b, hb1, q, rfl, hq⟩ := paired_at hx hy
        obtain ⟨c1, c2, c3⟩ := hb.2.2 i b hb1
        have eT := Evl.Ex.new (o := .tup [.int (i : Nat), .ref q]) hT
        have g3 := g2.ex eT
        have g4 := g1.trans eT
        have hlen : ls.length = bs.length := f2.trans lx
        have li := (List.getElem?_eq_some_iff.mp hb1).1
        have lb := hb.2.1
        walk_at "sm"
        refine ⟨_, SqT.of upd_same, rfl, _, _, rfl, _, _, rfl, rfl, ?_⟩
        generalize upd HY Tt (.tup [.int (i : Nat), .ref q]) = HZ at g3 g4 ⊢
        have hqZ := g4 _ _ hq
        refine ⟨_, rfl, q, rfl, ⟨_, SqT.of hqZ⟩, for_tup (K := K) (a := q) (xs := (nI b).map V.int) (ivA2 H p D q ls bs i b) ⟨v4, v5, rfl, g4, g3.same fun x _ => by simp⟩ (fun j σ HW hj ⟨_, _, _, e, _⟩ => SqT.of (e _ _ hq)) ?_ ?_⟩
        · rintro j x σ HW hj ⟨w4, w5, rfl, k1, k2⟩
          obtain ⟨n, hn, rfl⟩ := nat_at hj
          have nb : n < bs.length := (c2 n (List.mem_of_getElem? hn)).1
          obtain ⟨c, hc⟩ : ∃ c, ls[n]? = some c := ⟨_, List.getElem?_eq_getElem (by omega)⟩
          have hcW := k2.2.2.2 n c hc
          have cn : H c = none := f4 c (List.mem_of_getElem? hc)
          walk_at "sm"
          refine ixl (SqL.of k2.1) (atI_nat (by rw [List.getElem?_map, hc]; rfl)) ⟨(show tyV K "list" (.ref c) HW from .inl ⟨rfl, _, SqL.of hcW⟩), c, _, _, rfl, rfl, hcW, ?_, ?_⟩
          · have l1 := aftUp_len bs i n
            refine Nat.lt_of_le_of_lt (show _ ≤ 201 from ?_) (by decide)
            rw [nI_len]
            show (aftUp bs i n ++ if n ∈ List.take j b then [i] else []).length ≤ 201
            rw [List.length_append]
            split <;> (simp only [List.length_cons, List.length_nil]; omega)
          · have kp := k2.push (v := i) hc
            rw [nI_snoc] at kp
            refine ⟨_, _, rfl, Evl.Ex.mut k1 cn, kp.same fun x hx => ?_⟩
            have tk := take_mem hn (x := x)
            by_cases e : x = n
            · subst e
              rw [if_pos rfl, if_neg (take_not hn (c1.imp fun z => Nat.ne_of_lt z)), if_pos (tk.mpr (.inr rfl)), List.append_nil]
            · rw [if_neg e]
              congr 1
              by_cases e2 : x ∈ List.take j b
              · rw [if_pos e2, if_pos (tk.mpr (.inl e2))]
              · rw [if_neg e2, if_neg fun z => (tk.mp z).elim e2 e]
        · rintro σ HW ⟨w4, w5, rfl, k1, k2⟩
          refine ⟨_, _, _, _, rfl, k1, k2.same fun x hx => ?_⟩
          rw [nI_len, List.take_length, aftUp_succ, row_of hb1]
      · rintro σ HY ⟨v2, v3, v4, v5, rfl, g1, g2⟩
        walk_at "sm"
        have hlen : ls.length = bs.length := f2.trans lx
        have lb := hb.2.1
        have fl : ∀ q, (aft bs q).length ≤ 200 := fun q => Nat.le_trans (List.length_filter_le _ _) (by rw [List.length_range]; exact lb)
        rw [lx] at g2
        refine ⟨⟨_, SqL.of g2.1⟩, lcg_list (K := K) (a := D) (xs := ls.map V.ref) (ivA3 HY bs) (fun E0 hE => ⟨Evl.Ex.new hE, [], upd_same, .nil⟩) (fun E0 i HZ hE hi h => SqL.of (h.1 _ _ g2.1)) ?_ ?_⟩
        · rintro E0 i x HZ hE hi ⟨h1, ys, h2, h3⟩
          walk_at "sm"
          obtain ⟨c, hc, rfl⟩ : ∃ c, ls[i]? = some c ∧ x = .ref c := by
            rw [List.getElem?_map] at hi
            cases e : ls[i]? with
            | none => rw [e] at hi; cases hi
            | some c => rw [e] at hi; exact ⟨c, rfl, (Option.some.inj hi).symm⟩
          have li := (List.getElem?_eq_some_iff.mp hc).1
          have hcZ := h1 _ _ (g2.2.2.2 i c hc)
          have ha : (afts bs)[i]? = some (aft bs i) := by
            unfold afts
            rw [List.getElem?_map, List.getElem?_range (by omega)]
            rfl
          refine ⟨c, rfl, _, .inl ⟨SqL.of hcZ, fun l hl => ?_⟩⟩
          have eL := Evl.Ex.new (o := .tup ((nI (aft bs i)).map V.int)) hl
          have hll : upd HZ l (HO.tup ((nI (aft bs i)).map V.int)) l = some (HO.tup ((nI (aft bs i)).map V.int)) := upd_same
          have ly : ys.length ≤ 200 := by rw [paired_len h3, List.length_take]; exact Nat.le_trans (Nat.min_le_left _ _) (by omega)
          have hE2 := eL _ _ h2
          have e1 := h1.trans eL
          have h3' := Paired.mapP h3 fun x c z => z.go (Kp.ex eL)
          show ∃ acc, upd HZ l (HO.tup ((nI (aft bs i)).map V.int)) E0 = some (HO.lst acc) ∧ acc.length < sizeLine ∧ ivA3 HY bs E0 (i + 1) (upd (upd HZ l (HO.tup ((nI (aft bs i)).map V.int))) E0 (HO.lst (acc ++ [V.ref l])))
          generalize upd HZ l (HO.tup ((nI (aft bs i)).map V.int)) = HU at hll hE2 e1 h3' ⊢
          refine ⟨ys, hE2, Nat.lt_of_le_of_lt ly (by decide), Evl.Ex.mut e1 hE, _, upd_same, ?_⟩
          have tk : ∀ d zs, HU d = some (.tup zs) → upd HU E0 (HO.lst (ys ++ [V.ref l])) d = some (.tup zs) := fun d zs h => by
            rw [upd_ne (fun z => by rw [z, hE2] at h; cases h)]
            exact h
          rw [List.take_add_one, ha]
          exact Paired.snoc ⟨l, rfl, tk _ _ hll⟩ (Paired.mapP h3' fun x d ⟨qq, z1, z2⟩ => ⟨qq, z1, tk _ _ z2⟩)
        · rintro E0 HZ hE ⟨h1, ys, h2, h3⟩
          walk_at "sm"
          rw [List.length_map, List.take_of_length_le (by unfold afts; rw [List.length_map, List.length_range]; omega)] at h3
          exact ⟨ys, .inl ⟨SqL.of h2, fun l hl => k l _ ((g1.trans h1).trans (Evl.Ex.new hl)) ⟨ys, upd_same, Paired.mapP h3 fun x c z => z.go (Kp.ex (Evl.Ex.new hl))⟩⟩⟩
end


/-! ### ordered_of -/
theorem lcg_en {J : It} {n : Nat} {g : TG} {tt : TT} {te : TE} {vs : List Nat} {σ : L2.St} {H1 : Hp} {Q : VK} (Pv : Addr → Nat → Hp → Prop) (h0 : ∀ D, H1 D = none → Pv D 0 (upd H1 D (.lst []))) (hgo : ∀ D i H, H1 D = none → i < n → Pv D i H → J.go i H) (hstop : ∀ D H, H1 D = none → Pv D n H → J.stop n H)
    (hs : ∀ D i x H HX, H1 D = none → i < n → Pv D i H → J.yld i H x HX → g x (wipe σ vs) HX fun σ2 H2 => wipe σ2 vs = wipe σ vs ∧ tt σ2 H2 fun b H3 =>
      if b = true then te σ2 H3 fun y H4 => ∃ acc, H4 D = some (.lst acc) ∧ acc.length < sizeLine ∧ Pv D (i + 1) (upd H4 D (.lst (acc ++ [y]))) else Pv D (i + 1) H3) (hd : ∀ D H, H1 D = none → Pv D n H → Q (.ref D) H) : LcG J g tt te vs σ Q H1 := fun D hD => by
  refine ⟨fun i m H => m = n - i ∧ i ≤ n ∧ Pv D i H, ⟨n, rfl, Nat.zero_le _, h0 D hD⟩, ?_⟩
  rintro i m H ⟨rfl, hi, pv⟩
  rcases Nat.lt_or_eq_of_le hi with hl | rfl
  · exact .inr ⟨hgo D i H hD hl pv, Pv D (i + 1), fun HX q => ⟨n - (i + 1), by omega, rfl, hl, q⟩, fun x HX y => hs D i x H HX hD hl pv y⟩
  · exact .inl ⟨hstop D H hD pv, hd D H hD pv⟩
theorem lcg_listE {K : PySem.W.Frag} {n : Nat} {a : Addr} {xs : List V} {g : TG} {tt : TT} {te : TE} {vs : List Nat} {σ : L2.St} {H1 : Hp} {Q : VK} (hv : σ[n]? = some (some (.ref a))) (hq : H1 a = some (.lst xs)) (Pv : Addr → Nat → Hp → Prop) (h0 : ∀ D, H1 D = none → Pv D 0 (upd H1 D (.lst []))) (hl : ∀ D i H, H1 D = none → Pv D i H → Evl.Ex H1 H)
    (hs : ∀ D i H T y, H1 D = none → xs[i]? = some y → Pv D i H → H T = none → g (.ref T) (wipe σ vs) (upd H T (.tup [.int (i : Nat), y])) fun σ2 H2 => wipe σ2 vs = wipe σ vs ∧ tt σ2 H2 fun b H3 =>
      if b = true then te σ2 H3 fun y H4 => ∃ acc, H4 D = some (.lst acc) ∧ acc.length < sizeLine ∧ Pv D (i + 1) (upd H4 D (.lst (acc ++ [y]))) else Pv D (i + 1) H3) (hd : ∀ D H, H1 D = none → Pv D xs.length H → Q (.ref D) H) :
    iEnum K (tCons (tVar n) tNil) σ H1 fun J HX => LcG J g tt te vs σ Q HX := by
  refine ⟨_, hv, a, xs, rfl, SqL.of hq, lcg_en (n := xs.length) Pv h0 (fun D i H hD hi h => ⟨xs, xs[i], SqL.of (hl D i H hD h _ _ hq), List.getElem?_eq_getElem hi⟩) (fun D H hD h => ⟨xs, SqL.of (hl D _ H hD h _ _ hq), Nat.le_refl _⟩) ?_ hd⟩
  rintro D i x H HX hD hi h ⟨Tt, y, rfl, hT, rfl, hy⟩
  exact hs D i H Tt y hD (hy xs (SqL.of (hl D i H hD h _ _ hq))) h hT
/-- how many befores of p are not among those that are done -/
def mis (bs : List (List Nat)) (os : List Nat) (p : Nat) : Nat := ((row bs p).filter fun x => decide (x ∉ os)).length
theorem mis_nil (bs : List (List Nat)) (p : Nat) : mis bs [] p = (row bs p).length := by
  unfold mis
  rw [List.filter_eq_self.mpr fun x _ => by simp]
theorem mis_zero {bs : List (List Nat)} {os : List Nat} {p : Nat} : mis bs os p = 0 ↔ ∀ x ∈ row bs p, x ∈ os := by
  unfold mis
  rw [List.length_eq_zero_iff, List.filter_eq_nil_iff]
  exact ⟨fun h x hx => by have := h x hx; simpa using this, fun h x hx => by simpa using h x hx⟩
theorem row_mem {bs : List (List Nat)} {p x : Nat} (h : x ∈ row bs p) : ∃ b, bs[p]? = some b ∧ x ∈ b := by
  unfold row at h
  cases e : bs[p]? with
  | none => rw [e] at h; simp at h
  | some b => rw [e] at h; exact ⟨b, rfl, h⟩
theorem row_lt {bs : List (List Nat)} (k : BefOk bs) {p x : Nat} (h : x ∈ row bs p) : x < bs.length ∧ x ≠ p := by
  obtain ⟨b, h1, h2⟩ := row_mem h
  exact (k.2.2 p b h1).2.1 x h2
theorem row_nd {bs : List (List Nat)} (k : BefOk bs) (p : Nat) : (row bs p).Nodup := by
  unfold row
  cases e : bs[p]? with
  | none => exact List.nodup_nil
  | some b => exact ((k.2.2 p b e).1).imp fun z => Nat.ne_of_lt z
theorem cnt_step {os : List Nat} {t : Nat} (ht : t ∉ os) : ∀ {l : List Nat}, l.Nodup → (l.filter fun x => decide (x ∉ os)).length = (l.filter fun x => decide (x ∉ os ++ [t])).length + if t ∈ l then 1 else 0
  | [], _ => by simp
  | x :: l, h => by
    obtain ⟨h1, h2⟩ := List.nodup_cons.mp h
    have ih := cnt_step ht h2
    rw [List.filter_cons, List.filter_cons]
    by_cases e : x = t
    · subst e
      rw [if_neg h1] at ih
      rw [if_pos (by simpa using ht), if_neg (by simp), if_pos List.mem_cons_self, List.length_cons, ih]
    · have em : (t ∈ x :: l) ↔ t ∈ l := by rw [List.mem_cons]; exact ⟨fun q => q.resolve_left fun z => e z.symm, .inr⟩
      have tt : (if t ∈ x :: l then 1 else 0) = if t ∈ l then 1 else 0 := by
        by_cases m : t ∈ l
        · rw [if_pos m, if_pos (em.mpr m)]
        · rw [if_neg m, if_neg fun q => m (em.mp q)]
      rw [tt]
      by_cases g : x ∈ os
      · rw [if_neg (by simpa using g), if_neg (by simp [g]), ih]
      · rw [if_pos (by simpa using g), if_pos (by simp [g, e]), List.length_cons, List.length_cons, ih]
        omega
theorem mis_step {bs : List (List Nat)} (k : BefOk bs) {os : List Nat} {t : Nat} (ht : t ∉ os) (p : Nat) : mis bs os p = mis bs (os ++ [t]) p + if t ∈ row bs p then 1 else 0 := cnt_step ht (row_nd k p)
/-- no way back to where one was: a number for each place that falls along the arrows -/
def Acy (bs : List (List Nat)) : Prop := ∃ rk : Nat → Nat, ∀ p, ∀ x ∈ row bs p, rk x < rk p
/-- the lowest place that is not done and whose befores are -/
def nxt (bs : List (List Nat)) (os : List Nat) : Nat := ((List.range bs.length).find? fun p => decide (p ∉ os) && decide (mis bs os p = 0)).getD 0
def kah (bs : List (List Nat)) : Nat → List Nat
  | 0 => []
  | t + 1 => kah bs t ++ [nxt bs (kah bs t)]
theorem kah_len (bs : List (List Nat)) : ∀ t, (kah bs t).length = t
  | 0 => rfl
  | t + 1 => by
    show (kah bs t ++ [_]).length = t + 1
    rw [List.length_append, kah_len bs t]
    rfl
theorem left_one {os : List Nat} {n : Nat} (h : os.length < n) : ∃ p, p < n ∧ p ∉ os := by
  by_cases c : ∃ p, p < n ∧ p ∉ os
  · exact c
  · have sub : List.range n ⊆ os := fun p hp => by
      by_cases q : p ∈ os
      · exact q
      · exact absurd ⟨p, List.mem_range.mp hp, q⟩ c
    have := (List.nodup_range (n := n)).length_le_of_subset sub
    rw [List.length_range] at this
    omega
theorem ready_one {bs : List (List Nat)} (k : BefOk bs) {rk : Nat → Nat} (ac : ∀ p, ∀ x ∈ row bs p, rk x < rk p) {os : List Nat} : ∀ (n p : Nat), rk p ≤ n → p < bs.length → p ∉ os → ∃ q, q < bs.length ∧ q ∉ os ∧ mis bs os q = 0
  | n, p, hn, hp, ho => by
    by_cases c : mis bs os p = 0
    · exact ⟨p, hp, ho, c⟩
    · have : ∃ x, x ∈ row bs p ∧ x ∉ os := by
        by_cases d : ∃ x, x ∈ row bs p ∧ x ∉ os
        · exact d
        · exact absurd (mis_zero.mpr fun x hx => by
            by_cases q : x ∈ os
            · exact q
            · exact absurd ⟨x, hx, q⟩ d) c
      obtain ⟨x, hx, hxo⟩ := this
      have lt := ac p x hx
      cases n with
      | zero => omega
      | succ n => exact ready_one k ac n x (by omega) (row_lt k hx).1 hxo
theorem nxt_ok {bs : List (List Nat)} (k : BefOk bs) (ac : Acy bs) {os : List Nat} (h : os.length < bs.length) : nxt bs os < bs.length ∧ nxt bs os ∉ os ∧ mis bs os (nxt bs os) = 0 ∧ ∀ p, p < nxt bs os → p ∈ os ∨ mis bs os p ≠ 0 := by
  obtain ⟨rk, ac⟩ := ac
  obtain ⟨p, hp, ho⟩ := left_one h
  obtain ⟨q, q1, q2, q3⟩ := ready_one k ac (rk p) p (Nat.le_refl _) hp ho
  unfold nxt
  cases e : (List.range bs.length).find? fun p => decide (p ∉ os) && decide (mis bs os p = 0) with
  | none =>
    have := List.find?_eq_none.mp e q (List.mem_range.mpr q1)
    simp [q2, q3] at this
  | some r =>
    show r < bs.length ∧ r ∉ os ∧ mis bs os r = 0 ∧ ∀ p, p < r → p ∈ os ∨ mis bs os p ≠ 0
    obtain ⟨h1, as, cs, h2, h3⟩ := List.find?_eq_some_iff_append.mp e
    rw [Bool.and_eq_true, decide_eq_true_eq, decide_eq_true_eq] at h1
    have hr : r ∈ List.range bs.length := by rw [h2]; simp
    refine ⟨List.mem_range.mp hr, h1.1, h1.2, fun p hp => ?_⟩
    have hpm : p ∈ as := by
      have hp2 : p ∈ List.range bs.length := List.mem_range.mpr (Nat.lt_trans hp (List.mem_range.mp hr))
      rw [h2] at hp2
      rcases List.mem_append.mp hp2 with g | g
      · exact g
      · rcases List.mem_cons.mp g with g | g
        · omega
        · have asc := range_lt bs.length
          rw [h2] at asc
          have := (List.pairwise_cons.mp (List.pairwise_append.mp asc).2.1).1 p g
          omega
    have := h3 p hpm
    by_cases c : p ∈ os
    · exact .inl c
    · right
      intro z
      simp [c, z] at this
/-- what has been done: no place twice, the befores of each are done -/
structure Kd_ (bs : List (List Nat)) (os : List Nat) : Prop where
  nd : os.Nodup
  lt : ∀ p ∈ os, p < bs.length
  cl : ∀ p ∈ os, ∀ x ∈ row bs p, x ∈ os
theorem kah_ok {bs : List (List Nat)} (k : BefOk bs) (ac : Acy bs) : ∀ t, t ≤ bs.length → Kd_ bs (kah bs t)
  | 0, _ => ⟨List.nodup_nil, fun p h => by simp [kah] at h, fun p h => by simp [kah] at h⟩
  | t + 1, ht => by
    have ih := kah_ok k ac t (by omega)
    obtain ⟨n1, n2, n3, _⟩ := nxt_ok k ac (os := kah bs t) (by rw [kah_len]; omega)
    show Kd_ bs (kah bs t ++ [nxt bs (kah bs t)])
    refine ⟨List.nodup_append.mpr ⟨ih.nd, by simp, fun a ha b hb => by rw [List.mem_singleton.mp hb]; exact fun z => n2 (z ▸ ha)⟩, fun p hp => ?_, fun p hp x hx => ?_⟩
    · rcases List.mem_append.mp hp with g | g
      · exact ih.lt p g
      · rw [List.mem_singleton.mp g]; exact n1
    · rcases List.mem_append.mp hp with g | g
      · exact List.mem_append_left _ (ih.cl p g x hx)
      · rw [List.mem_singleton.mp g] at hx
        exact List.mem_append_left _ (mis_zero.mp n3 x hx)
/-- a number whose lowest bit is t -/
theorem low_form {r t : Nat} (h1 : r.testBit t = true) (h0 : ∀ j, j < t → r.testBit j = false) : ∃ m, r = 2 ^ t * (2 * m + 1) := by
  have e0 : r % 2 ^ t = 0 := Nat.eq_of_testBit_eq fun i => by
    rw [Nat.testBit_mod_two_pow, Nat.zero_testBit]
    by_cases h : i < t
    · rw [h0 i h, Bool.and_false]
    · rw [decide_eq_false h]; rfl
  have e1 : r / 2 ^ t % 2 = 1 := by
    rw [Nat.testBit_eq_decide_div_mod_eq] at h1
    exact of_decide_eq_true h1
  refine ⟨r / 2 ^ t / 2, ?_⟩
  have a := Nat.div_add_mod r (2 ^ t)
  have b := Nat.div_add_mod (r / 2 ^ t) 2
  rw [e0, Nat.add_zero] at a
  rw [e1] at b
  rw [b]
  exact a.symm
theorem aft_mem {bs : List (List Nat)} {t p : Nat} : p ∈ aft bs t ↔ p < bs.length ∧ t ∈ row bs p := by
  unfold aft aftUp
  rw [List.mem_filter, List.mem_range, decide_eq_true_eq]
theorem aft_nd (bs : List (List Nat)) (t : Nat) : (aft bs t).Nodup := ((range_lt _).imp fun z => Nat.ne_of_lt z).filter _
/-- the ready places -/
structure Rdy (bs : List (List Nat)) (os : List Nat) (r : Nat) : Prop where
  bit : ∀ p, r.testBit p = true ↔ p < bs.length ∧ p ∉ os ∧ mis bs os p = 0
theorem Rdy.low {bs : List (List Nat)} {os : List Nat} {r : Nat} (k : BefOk bs) (ac : Acy bs) (h : Rdy bs os r) (ht : os.length < bs.length) : ∃ m, r = 2 ^ nxt bs os * (2 * m + 1) := by
  obtain ⟨n1, n2, n3, n4⟩ := nxt_ok k ac ht
  refine low_form ((h.bit _).mpr ⟨n1, n2, n3⟩) fun j hj => ?_
  cases e : r.testBit j with
  | false => rfl
  | true =>
    obtain ⟨_, a, b⟩ := (h.bit j).mp e
    rcases n4 j hj with z | z
    · exact absurd z a
    · exact absurd b z
theorem Rdy.none {bs : List (List Nat)} {os : List Nat} {r : Nat} (kd : Kd_ bs os) (hl : os.length = bs.length) (h : Rdy bs os r) : r = 0 := Nat.eq_of_testBit_eq fun i => by
  rw [Nat.zero_testBit]
  cases e : r.testBit i with
  | false => rfl
  | true =>
    obtain ⟨h1, h2, _⟩ := (h.bit i).mp e
    have sub : i :: os ⊆ List.range bs.length := fun p hp => by
      rcases List.mem_cons.mp hp with rfl | g
      · exact List.mem_range.mpr h1
      · exact List.mem_range.mpr (kd.lt p g)
    have := (List.nodup_cons.mpr ⟨h2, kd.nd⟩).length_le_of_subset sub
    rw [List.length_cons, List.length_range] at this
    omega
def mj (bs : List (List Nat)) (os : List Nat) (t j p : Nat) : Nat := if p ∈ (aft bs t).take j then mis bs (os ++ [t]) p else mis bs os p
/-- within the walk over the afters of t: the first j of them are told -/
structure Rdj (bs : List (List Nat)) (os : List Nat) (t j r : Nat) : Prop where
  bit : ∀ p, r.testBit p = true ↔ p < bs.length ∧ p ∉ os ++ [t] ∧ mj bs os t j p = 0
theorem mj_zero (bs : List (List Nat)) (os : List Nat) (t p : Nat) : mj bs os t 0 p = mis bs os p := by
  unfold mj
  rw [List.take_zero, if_neg List.not_mem_nil]
theorem Rdy.start {bs : List (List Nat)} {os : List Nat} {t r : Nat} (h : Rdy bs os r) (h1 : t < bs.length) (h2 : t ∉ os) (h3 : mis bs os t = 0) : Rdj bs os t 0 (r ^^^ 2 ^ t) := by
  refine ⟨fun p => ?_⟩
  rw [Nat.testBit_xor, bit_pow, mj_zero]
  by_cases e : p = t
  · subst e
    rw [decide_eq_true rfl, (h.bit p).mpr ⟨h1, h2, h3⟩]
    exact ⟨fun q => absurd q (by decide), fun q => absurd (List.mem_append_right _ (List.mem_singleton.mpr rfl)) q.2.1⟩
  · rw [decide_eq_false e, Bool.xor_false, h.bit p]
    constructor
    · rintro ⟨a, b, c⟩
      exact ⟨a, fun z => (List.mem_append.mp z).elim b fun y => e (List.mem_singleton.mp y), c⟩
    · rintro ⟨a, b, c⟩
      exact ⟨a, fun z => b (List.mem_append_left _ z), c⟩
theorem mj_at {bs : List (List Nat)} (k : BefOk bs) {os : List Nat} {t j c : Nat} (ht : t ∉ os) (hc : (aft bs t)[j]? = some c) : mj bs os t j c = mis bs (os ++ [t]) c + 1 := by
  unfold mj
  rw [if_neg (take_not hc (aft_nd bs t)), mis_step k ht c, if_pos (aft_mem.mp (List.mem_of_getElem? hc)).2]
theorem mj_succ {bs : List (List Nat)} {os : List Nat} {t j c : Nat} (hc : (aft bs t)[j]? = some c) (p : Nat) : mj bs os t (j + 1) p = if p = c then mis bs (os ++ [t]) c else mj bs os t j p := by
  unfold mj
  have tk := take_mem hc (x := p)
  by_cases e : p = c
  · subst e
    rw [if_pos rfl, if_pos (tk.mpr (.inr rfl))]
  · rw [if_neg e]
    by_cases m : p ∈ (aft bs t).take j
    · rw [if_pos m, if_pos (tk.mpr (.inl m))]
    · rw [if_neg m, if_neg fun q => (tk.mp q).elim m e]
theorem mj_done {bs : List (List Nat)} (k : BefOk bs) {os : List Nat} {t p : Nat} (ht : t ∉ os) (hp : p < bs.length) : mj bs os t (aft bs t).length p = mis bs (os ++ [t]) p := by
  unfold mj
  rw [List.take_length]
  by_cases m : p ∈ aft bs t
  · rw [if_pos m]
  · rw [if_neg m, mis_step k ht p, if_neg fun q => m (aft_mem.mpr ⟨hp, q⟩)]
    rfl
theorem Rdj.step {bs : List (List Nat)} (k : BefOk bs) {os : List Nat} {t j r c : Nat} (kd : Kd_ bs os) (ht : t ∉ os) (h : Rdj bs os t j r) (hc : (aft bs t)[j]? = some c) : Rdj bs os t (j + 1) (if mis bs (os ++ [t]) c = 0 then r ||| 2 ^ c else r) := by
  have hb := h.bit
  refine ⟨fun p => ?_⟩
  have cm := aft_mem.mp (List.mem_of_getElem? hc)
  have cn : c ∉ os ++ [t] := fun z => by
    rcases List.mem_append.mp z with g | g
    · exact ht (kd.cl c g t cm.2)
    · exact (row_lt k cm.2).2 (List.mem_singleton.mp g).symm
  have c0 : r.testBit c = false := by
    cases e : r.testBit c with
    | false => rfl
    | true =>
      have := ((hb c).mp e).2.2
      rw [mj_at k ht hc] at this
      omega
  rw [mj_succ hc]
  by_cases e : p = c
  · subst e
    rw [if_pos rfl]
    by_cases z : mis bs (os ++ [t]) p = 0
    · rw [if_pos z, Nat.testBit_or, bit_pow, decide_eq_true rfl, Bool.or_true]
      exact ⟨fun _ => ⟨cm.1, cn, z⟩, fun _ => rfl⟩
    · rw [if_neg z, c0]
      exact ⟨fun q => absurd q (by decide), fun q => absurd q.2.2 z⟩
  · rw [if_neg e, ← hb p]
    by_cases z : mis bs (os ++ [t]) c = 0
    · rw [if_pos z, Nat.testBit_or, bit_pow, decide_eq_false e, Bool.or_false]
    · rw [if_neg z]
theorem Rdj.done {bs : List (List Nat)} (k : BefOk bs) {os : List Nat} {t r : Nat} (ht : t ∉ os) (h : Rdj bs os t (aft bs t).length r) : Rdy bs (os ++ [t]) r := by
  refine ⟨fun p => ?_⟩
  rw [h.bit p]
  constructor
  · rintro ⟨h2, h1, h3⟩
    rw [mj_done k ht h2] at h3
    exact ⟨h2, h1, h3⟩
  · rintro ⟨h2, h1, h3⟩
    exact ⟨h2, h1, by rw [mj_done k ht h2]; exact h3⟩
/-- a row of numbers by place -/
def vL (f : Nat → Nat) (n : Nat) : List V := (List.range n).map fun p => V.int ((f p : Nat) : Int)
theorem vL_len (f : Nat → Nat) (n : Nat) : (vL f n).length = n := by unfold vL; rw [List.length_map, List.length_range]
theorem vL_at {f : Nat → Nat} {n k : Nat} (h : k < n) : (vL f n)[k]? = some (.int ((f k : Nat) : Int)) := by
  unfold vL
  rw [List.getElem?_map, List.getElem?_range h]
  rfl
theorem vL_set {f g : Nat → Nat} {n k v : Nat} (h : k < n) (e : ∀ p, g p = if p = k then v else f p) : (vL f n).set k (.int ((v : Nat) : Int)) = vL g n := by
  refine List.ext_getElem? fun i => ?_
  rw [List.getElem?_set]
  by_cases hi : i < n
  · rw [vL_at hi, vL_at hi, vL_len]
    by_cases ki : k = i
    · subst ki
      rw [if_pos rfl, if_pos h, e, if_pos rfl]
    · rw [if_neg ki, e, if_neg fun z => ki z.symm]
  · rw [if_neg (by omega), List.getElem?_eq_none (by rw [vL_len]; omega), List.getElem?_eq_none (by rw [vL_len]; omega)]
theorem vL_congr {f g : Nat → Nat} {n : Nat} (h : ∀ p, p < n → f p = g p) : vL f n = vL g n := List.map_congr_left fun p hp => by rw [h p (List.mem_range.mp hp)]
theorem vL_succ (f : Nat → Nat) (n : Nat) : vL f (n + 1) = vL f n ++ [.int ((f n : Nat) : Int)] := by
  unfold vL
  rw [List.range_succ, List.map_append]
  rfl
section
variable {P : Program} {w : World} {K : PySem.W.Frag} {mg : Str → Option Value} {base : Heap} {a : Ad}
def spOR : Sp := fun vs H Q _ => ∃ (p q : Addr) (bs : List (List Nat)), vs = [.ref p, .ref q] ∧ ArrT H p bs ∧ ArrT H q (afts bs) ∧ BefOk bs ∧ Acy bs ∧ ∀ t H', Evl.Ex H H' → H' t = some (.tup ((nI (kah bs bs.length)).map V.int)) → Q (.ref t) H'
def ivO0 (H : Hp) (bs : List (List Nat)) (D : Addr) (i : Nat) (H' : Hp) : Prop := Evl.Ex H H' ∧ H' D = some (.lst (vL (fun p => (row bs p).length) i))
def r0 (bs : List (List Nat)) (i : Nat) : List Nat := (List.range i).filter fun p => decide ((row bs p).length = 0)
def ivO1 (H : Hp) (bs : List (List Nat)) (D : Addr) (i : Nat) (H' : Hp) : Prop := Evl.Ex H H' ∧ H' D = some (.lst ((nI (r0 bs i)).map V.int))
def ivO3 (H : Hp) (p q M O : Addr) (bs : List (List Nat)) (m : Nat) (σ : L2.St) (H' : Hp) : Prop := ∃ (t r : Nat) (v5 v6 v7 v8 v9 : Option V), m = bs.length - t ∧ t ≤ bs.length ∧ σ = [some (.ref p), some (.ref q), some (.ref M), some (.int (r : Nat)), some (.ref O), v5, v6, v7, v8, v9] ∧ Evl.Ex H H' ∧
  H' M = some (.lst (vL (mis bs (kah bs t)) bs.length)) ∧ H' O = some (.lst ((nI (kah bs t)).map V.int)) ∧ Rdy bs (kah bs t) r
def ivO4 (H : Hp) (p q M O : Addr) (bs : List (List Nat)) (t u : Nat) : Nat → L2.St → Hp → Prop := fun j σ H' => ∃ (r : Nat) (v5 v6 v7 v8 v9 : Option V), σ = [some (.ref p), some (.ref q), some (.ref M), some (.int (r : Nat)), some (.ref O), v5, v6, v7, v8, v9] ∧ Evl.Ex H H' ∧
  H' M = some (.lst (vL (mj bs (kah bs t) u j) bs.length)) ∧ H' O = some (.lst ((nI (kah bs t ++ [u])).map V.int)) ∧ Rdj bs (kah bs t) u j r
theorem ok_ordered_of (T : Txt K mg a) : FnOk P w K mg base CX0 2 a.f_ordered_of a.d_ordered_of ["befores", "afters"] spOR := by
  refine T.F_ordered_of.ok sc_ordered_of (fun vs H Q E h => ?_) (fun cdv A outer s H vs Q E hr h => ?_)
  · obtain ⟨_, _, _, rfl, _⟩ := h
    rfl
  · obtain ⟨p, q, bs, rfl, ⟨xs, hp, hx⟩, hq, hb, ac, k⟩ := h
    have lx := paired_len hx
    refine ⟨_, (pss_cons (ps_setLc (i := 2) (own := [("listed", 8)]) (g := gName 8) (tt := tYes) rfl sc_ordered_of.nd rfl rfl (sw_true rfl rfl rfl (by decide +kernel)) (pi_tup (pv 0)) (blkOk_by (own := [("listed", 8)]) (N := ["befores", "afters", "missing", "ready", "ordered", "lowest", "place", "after", "listed", "many"]) (sc := defScope s_ordered_of) (by decide +kernel)) (fun _ _ _ _ _ => pg_name (i := 8) sc_ordered_of.nd rfl (Or.inl rfl)) (fun _ _ _ _ _ => pts_nil) (fun _ _ _ _ _ => (pe_callB call_len_seq_b (by rfl) T.z_len (by decide +kernel) (pa_cons (pv 8) pa_nil))))
  (pss_cons (ps_set (i := 3) sc_ordered_of.nd rfl (by first | exact Or.inl rfl | exact Or.inr rfl) (pe_call (ok_mask_of T) (hr.mono (by decide)) rfl T.m_mask_of T.F_mask_of.kp T.b_mask_of .nil pass0 (pa_cons (pe_lc (own := [("place", 6), ("many", 9)]) (g := gTup K 2 (gCons (gName 6) (gCons (gName 9) (gNil))))  rfl sc_ordered_of.nd (pi_enum (by rfl) T.z_enumerate (pa_cons (pv 2) pa_nil)) (blkOk_by (own := [("place", 6), ("many", 9)]) (N := ["befores", "afters", "missing", "ready", "ordered", "lowest", "place", "after", "listed", "many"]) (sc := defScope s_ordered_of) (by decide +kernel)) (fun _ _ _ _ _ => pg_tup rfl (pgs_cons (pg_name (i := 6) sc_ordered_of.nd rfl (Or.inl rfl)) (pgs_cons (pg_name (i := 9) sc_ordered_of.nd rfl (Or.inl rfl)) pgs_nil))) (fun _ _ _ _ _ => (pts_one (pt_cmpR op_eq (pv 9) pe_int (nomark _)))) (fun _ _ _ _ _ => (pv 6))) pa_nil)))
  (pss_cons (ps_set (i := 4) sc_ordered_of.nd rfl (by first | exact Or.inl rfl | exact Or.inr rfl) (pe_lst pa_nil))
  (pss_cons (ps_while (by first | exact passes_of rfl | exact PassesOwn.never) (pt_truth (pv 3) (by intro _; rfl)) (pss_cons (ps_set (i := 5) sc_ordered_of.nd rfl (by first | exact Or.inl rfl | exact Or.inr rfl) (pe_op op_low (pv 3) (pe_un un_neg (pv 3))))
  (pss_cons (ps_set (i := 6) sc_ordered_of.nd rfl (by first | exact Or.inl rfl | exact Or.inr rfl) (pe_op op_sub (pe_bits (pv 5)) pe_int))
  (pss_cons (ps_aug (i := 3) sc_ordered_of.nd rfl (by first | exact Or.inl rfl | exact Or.inr rfl) (pv 5) ip_xorN)
  (pss_cons (ps_expr (pe_bm PySem.F.plainAttrs_list PySem.F.slot_list_append PySem.F.type_list_append mt_append (pv 4) (pa_cons (pv 6) pa_nil)))
  (pss_one (ps_for PassesOwn.never rfl (pi_tup (pe_ix ix_tup (pv 1) (pv 6) (fun _ _ => rfl))) (pg_name (i := 7) sc_ordered_of.nd rfl (by first | exact Or.inl rfl | exact Or.inr rfl)) (pss_cons (ps_augS (pv 2) (pv 7) get_list pe_int ip_sub set_list)
  (pss_one (ps_if (pt_cmpR op_eq (pe_ix ix_list (pv 2) (pv 7) (fun _ _ => rfl)) pe_int (nomark _)) (pss_one (ps_aug (i := 3) sc_ordered_of.nd rfl (by first | exact Or.inl rfl | exact Or.inr rfl) (pe_op op_shlK pe_int (pv 7)) ip_orN))
    pss_nil))))))))))
  (pss_one (ps_ret (pe_callTy call_tuple_of (by rfl) T.z_tuple (by decide +kernel) (pa_cons (pv 4) pa_nil)))))))), ?_⟩
    walk_at "sm"
    refine ⟨⟨_, SqT.of hp⟩, lcg_tup (K := K) (a := p) (xs := xs) (ivO0 H bs) (fun D hD => ⟨Evl.Ex.new hD, upd_same⟩) (fun D i HX hD hi h => SqT.of (h.1 _ _ hp)) ?_ ?_⟩
    · rintro D i x HX hD hi ⟨f1, f2⟩
      obtain ⟨b, hb1, c, rfl, hc⟩ := paired_at hx hi
      walk_at "sm"
      have li := (List.getElem?_eq_some_iff.mp hb1).1
      have lb := hb.2.1
      refine ⟨_, .inr (SqT.of (f1 _ _ hc)), _, f2, Nat.lt_of_le_of_lt (show _ ≤ 200 by rw [vL_len]; omega) (by decide), f1.mut hD, ?_⟩
      rw [upd_same, vL_succ, nI_len, row_of hb1]
    · rintro M HX hM ⟨f1, f2⟩
      walk_at "sm"
      refine lcg_listE (xs := vL (fun p => (row bs p).length) xs.length) rfl f2 (ivO1 HX bs) (fun D hD => ⟨Evl.Ex.new hD, upd_same⟩) (fun D i HY hD h => h.1) ?_ ?_
      · rintro D i HY Tt y hD hy ⟨g1, g2⟩ hT
        have hi2 : i < xs.length := by
          have := (List.getElem?_eq_some_iff.mp hy).1
          rw [vL_len] at this
          exact this
        rw [vL_at hi2] at hy
        obtain rfl := Option.some.inj hy
        have eT := Evl.Ex.new (o := .tup [.int (i : Nat), .int (((row bs i).length : Nat) : Int)]) hT
        have lb := hb.2.1
        have lr : (r0 bs i).length ≤ i := Nat.le_trans (List.length_filter_le _ _) (Nat.le_of_eq (List.length_range ..))
        have rs : r0 bs (i + 1) = r0 bs i ++ if (row bs i).length = 0 then [i] else [] := by
          unfold r0
          rw [List.range_succ, List.filter_append, List.filter_cons, List.filter_nil]
          by_cases z : (row bs i).length = 0
          · rw [if_pos z, if_pos (decide_eq_true z)]
          · rw [if_neg z, if_neg (by rw [decide_eq_false z]; decide)]
        walk_at "sm"
        refine ⟨_, SqT.of upd_same, rfl, _, _, rfl, _, _, rfl, rfl, rfl, ite2 (fun z => ?_) fun z => ?_⟩
        · have z2 : (row bs i).length = 0 := by
            have := V.int.inj z
            omega
          refine ⟨_, eT _ _ g2, Nat.lt_of_le_of_lt (show _ ≤ 200 by rw [nI_len]; omega) (by decide), (g1.trans eT).mut hD, ?_⟩
          rw [upd_same, rs, if_pos z2, nI_snoc]
        · have z2 : ¬ (row bs i).length = 0 := fun h => z (by rw [h]; rfl)
          refine ⟨g1.trans eT, ?_⟩
          rw [rs, if_neg z2, List.append_nil]
          exact eT _ _ g2
      · rintro D HY hD ⟨g1, g2⟩
        walk_at "sm"
        have nM : M ≠ D := fun z => by rw [← z, f2] at hD; cases hD
        rw [vL_len, lx] at g2
        rw [lx] at f2
        have e1 := f1.trans g1
        have mem0 : ∀ i, i ∈ r0 bs bs.length ↔ i < bs.length ∧ (row bs i).length = 0 := fun i => by
          unfold r0
          rw [List.mem_filter, List.mem_range, decide_eq_true_eq]
        refine ⟨D, r0 bs bs.length, rfl, .inr g2, fun x hx => by have := ((mem0 x).mp hx).1; have := hb.2.1; omega, Nat.zero_le _, fun O hO => ?_⟩
        have rdy : Rdy bs [] (msk (r0 bs bs.length)) := ⟨fun x => by
          rw [msk_bit, decide_eq_true_eq, mem0, mis_nil]
          exact ⟨fun z => ⟨z.1, by simp, z.2⟩, fun z => ⟨z.1, z.2.2⟩⟩⟩
        have eO := Evl.Ex.new (o := .lst []) hO
        have nMO : M ≠ O := fun z => by
          have := g1 _ _ f2
          rw [z, hO] at this
          cases this
        have hO0 := Evl.fresh_back e1 hO
        refine ⟨ivO3 H p q M O bs, ⟨_, 0, _, none, none, none, none, none, rfl, Nat.zero_le _, rfl, e1.trans eO, (eO _ _ (g1 _ _ f2)).trans (by rw [show kah bs 0 = [] from rfl, vL_congr fun x _ => (mis_nil bs x).symm]), upd_same, rdy⟩, ?_⟩
        rintro m σ HW ⟨t, r, v5, v6, v7, v8, v9, rfl, ht, rfl, h1, h2, h3, h4⟩
        walk_at "sm"
        refine ⟨_, rfl, ?_⟩
        rcases Nat.lt_or_eq_of_le ht with tl | rfl
        · have kd := kah_ok hb ac t (by omega)
          have kl := kah_len bs t
          obtain ⟨x1, x2, x3, _⟩ := nxt_ok hb ac (os := kah bs t) (by omega)
          obtain ⟨mm, hmm⟩ := h4.low hb ac (by omega)
          have ks : kah bs (t + 1) = kah bs t ++ [nxt bs (kah bs t)] := rfl
          obtain ⟨u, hu⟩ : ∃ u, nxt bs (kah bs t) = u := ⟨_, rfl⟩
          rw [hu] at x1 x2 x3 hmm ks
          have rn : ((r : Int) != 0) = true := by
            have p2 : 0 < 2 ^ u := Nat.pow_pos (by decide)
            have : 0 < r := by rw [hmm]; exact Nat.mul_pos p2 (by omega)
            simp; omega
          rw [rn]
          refine iteT ⟨fun σ1 H1 => ∃ m1, m1 < bs.length - t ∧ ivO3 H p q M O bs m1 σ1 H1, fun σ1 H1 z => z, ?_⟩
          walk_at "sm"
          refine ⟨r, rfl, rfl, u, ⟨mm, hmm⟩, ⟨_, rfl, _, rfl, ?_⟩⟩
          rw [bits_pow]
          have lb := hb.2.1
          have i1 : (((u + 1 : Nat) : Int)) - 1 = (u : Int) := by omega
          refine ⟨_, rfl, r, rfl, 2 ^ u, rfl, (show tyV K "list" (.ref O) HW from .inl ⟨rfl, _, SqL.of h3⟩), O, _, _, rfl, rfl, h3, Nat.lt_of_le_of_lt (show _ ≤ 200 by rw [nI_len, kl]; omega) (by decide), ?_⟩
          rw [i1]
          have h3' : upd HW O (.lst ((nI (kah bs t)).map V.int ++ [.int (u : Nat)])) O = some (.lst ((nI (kah bs t ++ [u])).map V.int)) := by rw [upd_same, nI_snoc]
          have h2' : upd HW O (.lst ((nI (kah bs t)).map V.int ++ [.int (u : Nat)])) M = some (.lst (vL (mj bs (kah bs t) u 0) bs.length)) := by rw [upd_ne nMO, h2, vL_congr fun x _ => (mj_zero bs (kah bs t) u x).symm]
          have h1' := Evl.Ex.mut (o := .lst ((nI (kah bs t)).map V.int ++ [.int (u : Nat)])) h1 hO0
          have h4' := h4.start x1 x2 x3
          generalize upd HW O (.lst ((nI (kah bs t)).map V.int ++ [.int (u : Nat)])) = HV at h1' h2' h3' ⊢
          have ha : (afts bs)[u]? = some (aft bs u) := by
            unfold afts
            rw [List.getElem?_map, List.getElem?_range x1]
            rfl
          obtain ⟨ys, hq1, hq2⟩ := hq
          obtain ⟨y, hy1, c, rfl, hc⟩ := paired_of hq2 ha
          have hcV := h1' _ _ hc
          refine ⟨_, rfl, _, rfl, ixt (h1' _ _ hq1) (atI_nat hy1) ⟨c, rfl, ⟨_, SqT.of hcV⟩, for_tup (K := K) (a := c) (xs := (nI (aft bs u)).map V.int) (ivO4 H p q M O bs t u) ⟨_, _, _, _, _, _, rfl, h1', h2', h3', h4'⟩ (fun j σ HU hj ⟨_, _, _, _, _, _, _, e, _⟩ => SqT.of (e _ _ hc)) ?_ ?_⟩⟩
          · rintro j x σ HU hj ⟨r, v5, v6, v7, v8, v9, rfl, k1, k2, k3, k4⟩
            obtain ⟨d, hd, rfl⟩ := nat_at hj
            have cm := aft_mem.mp (List.mem_of_getElem? hd)
            walk_at "sm"
            have ixd : ixN (vL (mj bs (kah bs t) u j) bs.length).length (d : Int) = some d := by
              unfold ixN
              rw [vL_len, if_pos (Int.natCast_nonneg d), if_pos (by omega)]
              rfl
            have ev : (((mj bs (kah bs t) u j d : Nat) : Int)) - 1 = ((mis bs (kah bs t ++ [u]) d : Nat) : Int) := by
              rw [mj_at hb x2 hd]
              omega
            refine ⟨_, rfl, _, rfl, M, _, d, _, rfl, rfl, k2, vL_at cm.1, _, _, rfl, rfl, M, _, (d : Int), d, rfl, rfl, k2, ixd, ?_⟩
            have hM0 : H M = none := Evl.fresh_back (Evl.Ex.refl H) hM
            dsimp only
            rw [ev, vL_set cm.1 (g := mj bs (kah bs t) u (j + 1)) fun p => mj_succ hd p]
            have k1' := Evl.Ex.mut (o := .lst (vL (mj bs (kah bs t) u (j + 1)) bs.length)) k1 hM0
            have k2' : upd HU M (.lst (vL (mj bs (kah bs t) u (j + 1)) bs.length)) M = some (.lst (vL (mj bs (kah bs t) u (j + 1)) bs.length)) := upd_same
            have k3' : upd HU M (.lst (vL (mj bs (kah bs t) u (j + 1)) bs.length)) O = some (.lst ((nI (kah bs t ++ [u])).map V.int)) := by rw [upd_ne (Ne.symm nMO)]; exact k3
            generalize upd HU M (.lst (vL (mj bs (kah bs t) u (j + 1)) bs.length)) = HU2 at k1' k2' k3' ⊢
            have st := k4.step hb kd x2 hd
            walk_at "sm"
            refine ixl (SqL.of k2') (atI_nat (vL_at cm.1)) ⟨rfl, ?_⟩
            rw [mj_succ hd, if_pos rfl]
            refine ite2 (fun z => ?_) fun z => ?_
            · have z2 : mis bs (kah bs t ++ [u]) d = 0 := by
                have := V.int.inj z
                omega
              rw [if_pos z2] at st
              exact ⟨d, rfl, by have := cm.1; omega, r, rfl, 2 ^ d, rfl, _, _, _, _, _, _, rfl, k1', k2', k3', st⟩
            · have z2 : ¬ mis bs (kah bs t ++ [u]) d = 0 := fun h => z (by rw [h]; rfl)
              rw [if_neg z2] at st
              exact ⟨_, _, _, _, _, _, rfl, k1', k2', k3', st⟩
          · rintro σ HU ⟨r, v5, v6, v7, v8, v9, rfl, k1, k2, k3, k4⟩
            rw [nI_len] at k2 k4
            refine ⟨_, by omega, t + 1, r, v5, v6, v7, v8, v9, rfl, tl, rfl, k1, ?_, ?_, ?_⟩
            · rw [ks]; exact k2.trans (by rw [vL_congr fun x hx => mj_done hb x2 hx])
            · rw [ks]; exact k3
            · rw [ks]; exact k4.done hb x2
        · obtain rfl := h4.none (kah_ok hb ac _ (Nat.le_refl _)) (kah_len _ _)
          exact iteF ⟨_, .inl ⟨SqL.of h3, fun l hl => k l _ (h1.trans (Evl.Ex.new hl)) upd_same⟩⟩
end


/-! ### check_roads, is_place, Bare.__init__ -/
section
variable {P : Program} {w : World} {K : PySem.W.Frag} {mg : Str → Option Value} {base : Heap} {a : Ad}
theorem BefOk.arr {bs : List (List Nat)} (k : BefOk bs) : ArrOk bs := ⟨k.2.1, fun b hb => by
  obtain ⟨i, hi⟩ := List.mem_iff_getElem?.mp hb
  obtain ⟨h1, h2, h3⟩ := k.2.2 i b hi
  have li := (List.getElem?_eq_some_iff.mp hi).1
  exact ⟨by omega, fun q hq => (h2 q hq).1⟩⟩
/-- every place is the end or leads to it -/
def Roads (bs : List (List Nat)) (e : Nat) : Prop := ∀ q, q < bs.length → q = e ∨ Rc bs 0 e q
def spCR : Sp := fun vs H Q _ => ∃ (p : Addr) (bs : List (List Nat)) (e : Nat), vs = [.ref p, .int e] ∧ ArrT H p bs ∧ ArrOk bs ∧ e < bs.length ∧ Roads bs e ∧ ∀ H', Evl.Ex H H' → Q .non H'
def ivCR (p : Addr) (e r : Nat) (H : Hp) : Nat → L2.St → Hp → Prop := fun _ σ H' => ∃ v, σ = [some (.ref p), some (.int e), some (.int (r : Nat)), v] ∧ H' = H
theorem ok_check_roads (T : Txt K mg a) : FnOk P w K mg base (L2.CX P w) 3 a.f_check_roads a.d_check_roads ["befores", "end"] spCR := by
  refine T.F_check_roads.okX sc_check_roads (fun vs H Q E h => ?_) (fun cdv A outer s H vs Q E hr h => ?_)
  · obtain ⟨_, _, _, rfl, _⟩ := h
    rfl
  · obtain ⟨p, bs, e, rfl, ha, hb, he, hrd, k⟩ := h
    refine ⟨_, (pss_cons (ps_set (i := 2) sc_check_roads.nd rfl (by first | exact Or.inl rfl | exact Or.inr rfl) (pe_op op_orN (pe_call (ok_reached_along T) (hr.mono (by decide)) rfl T.m_reached_along T.F_reached_along.kp T.b_reached_along.choose_spec.2 T.b_reached_along.choose_spec.1 pass0 (pa_cons (pv 0) (pa_cons (pv 1) pa_nil))) (pe_op op_shlK pe_int (pv 1))))
  (pss_one (ps_for (passes_of rfl) rfl (pi_range1 (by rfl) T.z_range (pa_cons (pe_callB call_len_seq (by rfl) T.z_len (by decide +kernel) (pa_cons (pv 0) pa_nil)) pa_nil)) (pg_name (i := 3) sc_check_roads.nd rfl (by first | exact Or.inl rfl | exact Or.inr rfl)) (pss_one (ps_if (pt_not (pt_truth (pe_op op_odd (pe_op op_shrK (pv 2) (pv 3)) pe_int) (by intro _; rfl))) (pss_one (ps_raise rfl (takes_of rfl rfl rfl rfl) (pmk_oex T.x_BadBare T.xi_BadBare T.xt_BadBare (ok_BadBare_init T) (hr.mono (by decide)) T.b_BadBare___init__ .nil pass0 rfl T.m_BadBare (pa_cons (pv 3) (pa_cons pe_str pa_nil)))))
    pss_nil))))), ?_⟩
    walk_at "sm"
    refine ⟨p, bs, e, 0, rfl, ha.arr, hb, he, fun r H1 e1 hr1 => ⟨e, rfl, by have := hb.1; omega, r, rfl, 2 ^ e, rfl, ?_⟩⟩
    obtain ⟨xs, hp, hx⟩ := ha
    have lx := paired_len hx
    have hp1 := e1 _ _ hp
    have on : ∀ q, q < bs.length → (r ||| 2 ^ e).testBit q = true := fun q hq => by
      rw [Nat.testBit_or, bit_pow, Bool.or_eq_true, decide_eq_true_eq, hr1]
      exact (hrd q hq).symm
    refine ⟨_, rfl, p, rfl, xs, .inr (SqT.of hp1), _, rfl, by omega, by have := hb.1; omega, for_range (lo := 0) (n := ((xs.length : Nat) : Int).toNat) (ivCR p e (r ||| 2 ^ e) H1) ⟨none, rfl, rfl⟩ ?_ ?_⟩
    · rintro i σ HX hi ⟨v, rfl, rfl⟩
      have hi2 : i < bs.length := by omega
      walk_at "sm"
      refine ⟨r ||| 2 ^ e, rfl, i, by omega, _, rfl, _, rfl, ?_⟩
      rw [tru_bit, on i hi2]
      exact iteF ⟨_, rfl, rfl⟩
    · rintro σ HX ⟨v, rfl, rfl⟩
      exact k _ e1
def spIP (C : Addr) : Sp := fun vs H Q _ => ∃ (x p dx : Addr) (xs : List V) (e : Nat), vs = [.ref x, .int e] ∧ H x = some (.ins C dx [("befores", .ref p)]) ∧ H p = some (.tup xs) ∧ e < xs.length ∧ Q (.bl true) H
theorem ok_is_place (T : Txt K mg a) : FnOk P w K mg base CX0 3 a.f_is_place a.d_is_place ["bare", "thing"] (spIP a.c_Bare) := by
  refine T.F_is_place.ok sc_is_place (fun vs H Q E h => ?_) (fun cdv A outer s H vs Q E hr h => ?_)
  · obtain ⟨_, _, _, _, _, rfl, _⟩ := h
    rfl
  · obtain ⟨x, p, dx, xs, e, rfl, hx, hp, he, k⟩ := h
    refine ⟨_, (pss_one (ps_ret (pe_call (ok_is_within T) (hr.mono (by decide)) rfl T.m_is_within T.F_is_within.kp T.b_is_within .nil pass0 (pa_cons (pv 1) (pa_cons pe_int (pa_cons (pe_op op_sub (pe_callB call_len_seq (by rfl) T.z_len (by decide +kernel) (pa_cons (pe_fld (pv 0) rfl) pa_nil)) pe_int) pa_nil)))))), ?_⟩
    walk_at "sm"
    refine ⟨_, _, _, hx, T.ic_Bare.cl, T.na_Bare_befores, _, rfl, p, rfl, xs, .inr (SqT.of hp), .int e, 0, _, rfl, plain_int, ?_⟩
    rw [show wiB (.int (e : Int)) 0 ((xs.length : Int) - 1) = true from (by show (decide ((0 : Int) ≤ (e : Int)) && decide ((e : Int) ≤ (xs.length : Int) - 1)) = true; rw [decide_eq_true (show (0 : Int) ≤ (e : Int) by omega), decide_eq_true (show (e : Int) ≤ (xs.length : Int) - 1 by omega)]; rfl)]
    exact k
def BareAt (C : Addr) (H : Hp) (x : Addr) (bs : List (List Nat)) (e : Nat) : Prop := ∃ dx p af od nd, H x = some (.ins C dx [("befores", .ref p), ("end", .int e), ("afters", .ref af), ("ordered", .ref od), ("needs", .ref nd)]) ∧ ArrT H p bs ∧ ArrT H af (afts bs) ∧
  H od = some (.tup ((nI (kah bs bs.length)).map V.int)) ∧ H nd = some (.tup ((nI (bs.map msk)).map V.int))
theorem BareAt.go {C : Addr} {H H' : Hp} {x : Addr} {bs : List (List Nat)} {e : Nat} (k : Evl.Ex H H') (h : BareAt C H x bs e) : BareAt C H' x bs e := by
  obtain ⟨dx, p, af, od, nd, h1, h2, h3, h4, h5⟩ := h
  exact ⟨dx, p, af, od, nd, k _ _ h1, h2.go (Kp.ex k), h3.go (Kp.ex k), k _ _ h4, k _ _ h5⟩
/-- check_rings is not asked for -/
def spNo : Sp := fun _ _ _ _ => False
theorem ok_check_rings (T : Txt K mg a) : FnOk P w K mg base (L2.CX P w) 3 a.f_check_rings a.d_check_rings ["befores"] spNo := by
  refine T.F_check_rings.okX sc_check_rings (fun vs H Q E h => h.elim) (fun cdv A outer s H vs Q E hr h => h.elim)
def spBI (a : Ad) : Sp := fun vs H Q _ => ∃ (x dx p : Addr) (b0 : List (List Nat)) (e : Nat), vs = [.ref x, .ref p, .int e] ∧ H x = some (.ins a.c_Bare dx []) ∧ ArrG H p b0 ∧ BefG b0 ∧ Acy (b0.map sb) ∧ e < b0.length ∧ Roads (b0.map sb) e ∧ ∀ H', Fr x H H' → BareAt a.c_Bare H' x (b0.map sb) e → Q .non H'
def ivBM (H : Hp) (bs : List (List Nat)) (D : Addr) (i : Nat) (H' : Hp) : Prop := Evl.Ex H H' ∧ H' D = some (.lst ((nI ((bs.take i).map msk)).map V.int))
theorem ok_Bare_init (T : Txt K mg a) : FnOk P w K mg base (L2.CX P w) 5 a.f_Bare___init__ a.d_Bare___init__ ["self", "befores", "end"] (spBI a) := by
  refine T.F_Bare___init__.okX sc_Bare___init__ (fun vs H Q E h => ?_) (fun cdv A outer s H vs Q E hr h => ?_)
  · obtain ⟨_, _, _, _, _, rfl, _⟩ := h
    rfl
  · obtain ⟨x, dx, p, b0, e, rfl, hx, ha, hb0, hac, he, hrd, k⟩ := h
    have hb := hb0.ok
    refine ⟨_, (pss_cons (ps_fld (pv 0) (pe_call (ok_checked_befores T) (hr.mono (by decide)) rfl T.m_checked_befores T.F_checked_befores.kp T.b_checked_befores .nil (passes_call (takes_of rfl rfl rfl rfl) (fun _ _ _ _ q => q)) (pa_cons (pv 1) pa_nil)) rfl)
  (pss_cons (ps_if (pt_not (pt_val (pe_call (ok_is_place T) (hr.mono (by decide)) rfl T.m_is_place T.F_is_place.kp T.b_is_place .nil pass0 (pa_cons (pv 0) (pa_cons (pv 2) pa_nil))))) (pss_one (ps_raise rfl (takes_of rfl rfl rfl rfl) (pmk_oex T.x_BadBare T.xi_BadBare T.xt_BadBare (ok_BadBare_init T) (hr.mono (by decide)) T.b_BadBare___init__ .nil pass0 rfl T.m_BadBare (pa_cons (pe_un un_neg pe_int) (pa_cons pe_str pa_nil)))))
    pss_nil)
  (pss_cons (ps_fld (pv 0) (pv 2) rfl)
  (pss_cons (ps_fld (pv 0) (pe_call (ok_afters_of T) (hr.mono (by decide)) rfl T.m_afters_of T.F_afters_of.kp T.b_afters_of .nil pass0 (pa_cons (pe_fld (pv 0) rfl) pa_nil)) rfl)
  (pss_cons (ps_fld (pv 0) (pe_call (ok_ordered_of T) (hr.mono (by decide)) rfl T.m_ordered_of T.F_ordered_of.kp T.b_ordered_of .nil pass0 (pa_cons (pe_fld (pv 0) rfl) (pa_cons (pe_fld (pv 0) rfl) pa_nil))) rfl)
  (pss_cons (ps_if (pt_cmpR op_lt (pe_callB call_len_seq (by rfl) T.z_len (by decide +kernel) (pa_cons (pe_fld (pv 0) rfl) pa_nil)) (pe_callB call_len_seq (by rfl) T.z_len (by decide +kernel) (pa_cons (pe_fld (pv 0) rfl) pa_nil)) (nomark _)) (pss_one (ps_expr (pe_call (ok_check_rings T) (hr.mono (by decide)) rfl T.m_check_rings T.F_check_rings.kp T.b_check_rings .nil (passes_call (takes_of rfl rfl rfl rfl) (fun _ _ _ _ q => q)) (pa_cons (pe_fld (pv 0) rfl) pa_nil))))
    pss_nil)
  (pss_cons (ps_expr (pe_call (ok_check_roads T) (hr.mono (by decide)) rfl T.m_check_roads T.F_check_roads.kp T.b_check_roads .nil (passes_call (takes_of rfl rfl rfl rfl) (fun _ _ _ _ q => q)) (pa_cons (pe_fld (pv 0) rfl) (pa_cons (pv 2) pa_nil))))
  (pss_one (ps_fld (pv 0) (pe_callTy call_tuple_of (by rfl) T.z_tuple (by decide +kernel) (pa_cons (pe_lc (own := [("listed", 3)]) (g := gName 3) (tt := tYes) rfl sc_Bare___init__.nd (pi_tup (pe_fld (pv 0) rfl)) (blkOk_by (own := [("listed", 3)]) (N := ["self", "befores", "end", "listed"]) (sc := defScope s_Bare___init__) (by decide +kernel)) (fun _ _ _ _ _ => pg_name (i := 3) sc_Bare___init__.nd rfl (Or.inl rfl)) (fun _ _ _ _ _ => pts_nil) (fun _ _ _ _ _ => (pe_call (ok_mask_of T) (hr.mono (by decide)) rfl T.m_mask_of T.F_mask_of.kp T.b_mask_of .nil pass0 (pa_cons (pv 3) pa_nil)))) pa_nil)) rfl))))))))), ?_⟩
    walk_at "sm"
    refine ⟨p, b0, rfl, ha, hb0, fun p0 H1 e1 h1 => ?_⟩
    replace he : e < (b0.map sb).length := by rw [List.length_map]; exact he
    obtain ⟨bs, hbs⟩ : ∃ bs, b0.map sb = bs := ⟨_, rfl⟩
    rw [hbs] at h1 hb hac he hrd k
    have x1 := e1 _ _ hx
    have fld : ∀ f, f = "befores" ∨ f = "end" ∨ f = "afters" ∨ f = "ordered" ∨ f = "needs" → NoAttr K a.c_Bare f := fun f h => by
      rcases h with rfl | rfl | rfl | rfl | rfl
      · exact T.na_Bare_befores
      · exact T.na_Bare_end
      · exact T.na_Bare_afters
      · exact T.na_Bare_ordered
      · exact T.na_Bare_needs
    refine ⟨_, _, _, x1, T.ic_Bare.cl, T.na_Bare_befores, by decide, ?_⟩
    have k1 := Kp.fr (H' := upd H1 x (.ins a.c_Bare dx (putF "befores" (.ref p0) []))) x1 Fr.upd
    have f1 := (Fr.of (p := x) e1).trans (H2 := upd H1 x (.ins a.c_Bare dx (putF "befores" (.ref p0) []))) Fr.upd
    have x2 : upd H1 x (.ins a.c_Bare dx (putF "befores" (.ref p0) [])) x = some (.ins a.c_Bare dx [("befores", .ref p0)]) := upd_same
    have h2 := h1.go k1
    generalize upd H1 x (.ins a.c_Bare dx (putF "befores" (.ref p0) [])) = H2 at k1 f1 x2 h2 ⊢
    obtain ⟨xs, hp2, hxs⟩ := id h2
    refine ⟨x, p0, dx, xs, e, rfl, x2, hp2, by rw [paired_len hxs]; exact he, _, rfl, iteF ⟨_, _, _, x2, T.ic_Bare.cl, T.na_Bare_end, (by show 1 < 1000; omega), _, _, _, upd_same, T.ic_Bare.cl, T.na_Bare_befores, _, rfl, ?_⟩⟩
    have k2 := Kp.fr (H' := upd H2 x (.ins a.c_Bare dx (putF "end" (.int e) [("befores", .ref p0)]))) x2 Fr.upd
    have f2 := f1.trans (H2 := upd H2 x (.ins a.c_Bare dx (putF "end" (.int e) [("befores", .ref p0)]))) Fr.upd
    have x3 : upd H2 x (.ins a.c_Bare dx (putF "end" (.int e) [("befores", .ref p0)])) x = some (.ins a.c_Bare dx [("befores", .ref p0), ("end", .int e)]) := upd_same
    have h3 := h2.go k2
    generalize upd H2 x (.ins a.c_Bare dx (putF "end" (.int e) [("befores", .ref p0)])) = H3 at k2 f2 x3 h3 ⊢
    refine ⟨p0, bs, rfl, h3, hb, fun af H4 e4 ha4 => ?_⟩
    have x4 := e4 _ _ x3
    have h4 := h3.go (Kp.ex e4)
    have f4 := f2.trans (Fr.of e4)
    refine ⟨_, _, _, x4, T.ic_Bare.cl, T.na_Bare_afters, (by show 2 < 1000; omega), _, _, _, upd_same, T.ic_Bare.cl, T.na_Bare_befores, _, rfl, ?_⟩
    have k5 := Kp.fr (H' := upd H4 x (.ins a.c_Bare dx (putF "afters" (.ref af) [("befores", .ref p0), ("end", .int e)]))) x4 Fr.upd
    have f5 := f4.trans (H2 := upd H4 x (.ins a.c_Bare dx (putF "afters" (.ref af) [("befores", .ref p0), ("end", .int e)]))) Fr.upd
    have x5 : upd H4 x (.ins a.c_Bare dx (putF "afters" (.ref af) [("befores", .ref p0), ("end", .int e)])) x = some (.ins a.c_Bare dx [("befores", .ref p0), ("end", .int e), ("afters", .ref af)]) := upd_same
    have h5 := h4.go k5
    have ha5 := ha4.go k5
    generalize upd H4 x (.ins a.c_Bare dx (putF "afters" (.ref af) [("befores", .ref p0), ("end", .int e)])) = H5 at k5 f5 x5 h5 ha5 ⊢
    walk_at "sm"
    refine ⟨_, _, _, x5, T.ic_Bare.cl, T.na_Bare_afters, _, rfl, p0, af, bs, rfl, h5, ha5, hb, hac, fun od H6 e6 ho6 => ?_⟩
    have x6 := e6 _ _ x5
    have h6 := h5.go (Kp.ex e6)
    have ha6 := ha5.go (Kp.ex e6)
    have f6 := f5.trans (Fr.of e6)
    have x7 : upd H6 x (.ins a.c_Bare dx (putF "ordered" (.ref od) [("befores", .ref p0), ("end", .int e), ("afters", .ref af)])) x = some (.ins a.c_Bare dx [("befores", .ref p0), ("end", .int e), ("afters", .ref af), ("ordered", .ref od)]) := upd_same
    have k7 := Kp.fr (H' := upd H6 x (.ins a.c_Bare dx (putF "ordered" (.ref od) [("befores", .ref p0), ("end", .int e), ("afters", .ref af)]))) x6 Fr.upd
    have f7 := f6.trans (H2 := upd H6 x (.ins a.c_Bare dx (putF "ordered" (.ref od) [("befores", .ref p0), ("end", .int e), ("afters", .ref af)]))) Fr.upd
    have h7 := h6.go k7
    have ha7 := ha6.go k7
    have ho7 := k7.1 _ _ ho6
    refine ⟨_, _, _, x6, T.ic_Bare.cl, T.na_Bare_ordered, (by show 3 < 1000; omega), ?_⟩
    generalize upd H6 x (.ins a.c_Bare dx (putF "ordered" (.ref od) [("befores", .ref p0), ("end", .int e), ("afters", .ref af)])) = H7 at x7 k7 f7 h7 ha7 ho7 ⊢
    obtain ⟨xs7, hp7, hxs7⟩ := id h7
    refine ⟨_, _, _, x7, T.ic_Bare.cl, T.na_Bare_ordered, _, rfl, od, rfl, _, .inr (SqT.of ho7), _, _, _, x7, T.ic_Bare.cl, T.na_Bare_befores, _, rfl, p0, rfl, xs7, .inr (SqT.of hp7), ?_⟩
    have l7 := paired_len hxs7
    refine iteN (by rw [nI_len, kah_len, l7]; omega) ?_
    walk_at "sm"
    refine ⟨_, _, _, x7, T.ic_Bare.cl, T.na_Bare_befores, _, rfl, p0, bs, e, rfl, h7, hb.arr, he, hrd, fun H8 e8 => ?_⟩
    have x8 := e8 _ _ x7
    have h8 := h7.go (Kp.ex e8)
    have ha8 := ha7.go (Kp.ex e8)
    have ho8 := e8 _ _ ho7
    have f8 := f7.trans (Fr.of e8)
    obtain ⟨xs8, hp8, hxs8⟩ := id h8
    have l8 := paired_len hxs8
    refine ⟨_, _, _, x8, T.ic_Bare.cl, T.na_Bare_befores, _, rfl, p0, rfl, ⟨_, SqT.of hp8⟩, lcg_tup (K := K) (a := p0) (xs := xs8) (ivBM H8 bs) (fun D hD => ⟨Evl.Ex.new hD, upd_same⟩) (fun D i HX hD hi h => SqT.of (h.1 _ _ hp8)) ?_ ?_⟩
    · rintro D i y HX hD hi ⟨g1, g2⟩
      obtain ⟨b, hb1, q, rfl, hq⟩ := paired_at hxs8 hi
      obtain ⟨c1, c2, c3⟩ := hb.2.2 i b hb1
      have li := (List.getElem?_eq_some_iff.mp hb1).1
      have lb := hb.2.1
      walk_at "sm"
      refine ⟨q, b, rfl, .inl (g1 _ _ hq), fun n hn => by have := c2 n hn; omega, _, g2, Nat.lt_of_le_of_lt (show _ ≤ 200 by rw [nI_len, List.length_map, List.length_take]; omega) (by decide), g1.mut hD, ?_⟩
      rw [upd_same, List.take_add_one, hb1, List.map_append, nI_app]
      rfl
    · rintro D HX hD ⟨g1, g2⟩
      walk_at "sm"
      rw [l8, List.take_length] at g2
      refine ⟨_, .inl ⟨SqL.of g2, fun l hl => ?_⟩⟩
      have e9 := (e8.trans g1).trans (Evl.Ex.new (o := .tup ((nI (bs.map msk)).map V.int)) hl)
      have g9 := g1.trans (Evl.Ex.new (o := .tup ((nI (bs.map msk)).map V.int)) hl)
      have hl9 : upd HX l (.tup ((nI (bs.map msk)).map V.int)) l = some (.tup ((nI (bs.map msk)).map V.int)) := upd_same
      generalize upd HX l (.tup ((nI (bs.map msk)).map V.int)) = H9 at e9 g9 hl9 ⊢
      have x9 := g9 _ _ x8
      have kz := Kp.fr (H' := upd H9 x (.ins a.c_Bare dx (putF "needs" (.ref l) [("befores", .ref p0), ("end", .int e), ("afters", .ref af), ("ordered", .ref od)]))) x9 Fr.upd
      refine ⟨_, _, _, x9, T.ic_Bare.cl, T.na_Bare_needs, (by show 4 < 1000; omega), k _ ((f8.trans (Fr.of g9)).trans Fr.upd) ?_⟩
      exact ⟨dx, p0, af, od, l, upd_same, (h8.go (Kp.ex g9)).go kz, (ha8.go (Kp.ex g9)).go kz, kz.1 _ _ (g9 _ _ ho8), kz.1 _ _ hl9⟩
end


/-! ### a lambda with one parameter that captures one name, handed to a def -/
open LamX (CodeO TabS Tabs ExtN TabB)
def bsOf (h : Heap) (H : Hp) (l : List Env) : Heap := PySem.W.hideAll (hidT h H) (frs l)
theorem bsOf_get {h : Heap} {H : Hp} {l : List Env} {b : Addr} {o : Obj} (e : h.get? b = some o) (n : H b = none) (nf : b ∉ frs l) : (bsOf h H l).get? b = some o := PySem.W.hideAll_get _ (hidT_get e n) nf
theorem bsOf_of {h : Heap} {H : Hp} {l : List Env} {b : Addr} {o : Obj} (e : (bsOf h H l).get? b = some o) : h.get? b = some o ∧ H b = none := of_hidT (PySem.W.of_hideAll _ e)
theorem bsOf_ff {h base : Heap} {H : Hp} {l0 : List Env} : ∀ {l : List Env}, h.FunFrames base l → (∀ b ∈ frs l, b ∈ frs l0) → h.FunFrames (bsOf h H l0) l
  | [], _, _ => trivial
  | env :: r, ⟨hk, ⟨L, o, hf, hn, ho, hd⟩, hr⟩, hs => ⟨hk, ⟨L, o, hf, PySem.W.hideAll_none _ (hs L (by unfold frs; rw [List.filterMap_cons, hf]; exact List.mem_cons_self)), ho, hd⟩,
      bsOf_ff hr fun b hb => hs b (by
        unfold frs at hb ⊢
        rw [List.filterMap_cons, hf]
        exact List.mem_cons_of_mem _ hb)⟩
theorem env0_keep {P : Program} {w : World} {K : PySem.W.Frag} {mg : Str → Option Value} {base : Heap} {A : Around} {l : List Env} {s : Shared} {H : Hp} (e : Env0 P w K mg base A l s H) : ∀ b o, base.get? b = some o → (bsOf s.heap H l).get? b = some o := fun b o q => by
  obtain ⟨h1, h2⟩ := e.bs b o q
  refine bsOf_get h1 h2 fun z => ?_
  have := (e.funs.mem z).1
  rw [q] at this
  cases this
theorem env0_re {P : Program} {w : World} {K : PySem.W.Frag} {mg : Str → Option Value} {base : Heap} {A : Around} {l : List Env} {s : Shared} {H : Hp} (e : Env0 P w K mg base A l s H) : Env0 P w K mg (bsOf s.heap H l) A l s H := by
  have k := env0_keep e
  obtain ⟨mb, hb1, hb2⟩ := e.mod.blt
  refine ⟨e.frames, ⟨e.mod.kin.keeps k, e.mod.glob.keeps k, ⟨mb, hb1.keeps k, hb2⟩, e.mod.nolimit.keeps k⟩, fun b o q => bsOf_of q, ?_, bsOf_ff e.funs fun _ h => h, e.frf, e.hok, e.bare⟩
  unfold bsOf
  rw [PySem.W.hideAll_size, hidT_size]
  exact Nat.le_refl _
/-- the context of such a lambda's body -/
abbrev lmEnv (q : Str) (scope : Scope) (L f c' : Addr) (y : Str) (c : Addr) : Env := PySem.W.envX q scope L f (.ref c') [(y, c)]
def lmCx (CX : CXT) (P : Program) (w : World) (K : PySem.W.Frag) (mg : Str → Option Value) (base : Heap) (q : Str) (scope : Scope) (f c' : Addr) (p y : Str) (c : Addr) (A : Around) (outer : List Env) (s : Shared) (H : Hp) (E : XK) : Cx where
  prog := P
  w := w
  K := K
  mg := mg
  base := base
  A := A.deeper (lmEnv q scope s.heap.objs.size f c' y c)
  N := [p, y]
  s_0 := s
  H_0 := H
  env := lmEnv q scope s.heap.objs.size f c' y c
  outer := outer
  stack := lmEnv q scope s.heap.objs.size f c' y c :: outer
  ex := []
  fn := fun _ => false
  calm := true
  pn := []
  xe := fun e s' => wpAny (model P w) (A.deeper (lmEnv q scope s.heap.objs.size f c' y c)) (leaving (lmEnv q scope s.heap.objs.size f c' y c) e) (fun _ s'' => CX outer H s E e s'') (fun e' s'' => CX outer H s E e' s'') s'
structure LmS (p y : Str) (scope : Scope) : Prop where
  kind : scope.kind = .function
  co : (scope.isCoroutine) = false
  gen : (scope.isGenerator) = false
  par : scope.names.lookup p = some .local
  cap : scope.names.lookup y = some .free
  nocell : ∀ z ∈ scope.names, z.2 ≠ .cell
  only : ∀ z ∈ scope.names, z.2 = .local → z.1 = p
  free : ∀ z ∈ scope.names, z.2 = .free → z.1 = y
section
variable {P : Program} {w : World} {K : PySem.W.Frag} {mg : Str → Option Value} {base : Heap}
theorem lm_start {CX : CXT} {q : Str} {scope : Scope} {f c' c : Addr} {p y : Str} {A : Around} {outer : List Env} {s : Shared} {H : Hp} {E : XK} {v vb : V} {u ub : Value} {h₁ : Heap} {tk : Nat} (L : LmS p y scope) (e0 : Env0 P w K mg base A outer s H) (hd : A.handled = none)
    (hc : ∃ o, base.get? c = some o ∧ o.data = .cell (some ub)) (rb : RelV vb ub) (r : RelV v u) (py : p ≠ y) (hns : h₁.Ns s.heap.objs.size fun z => ([(p, u)] : List (Str × Value)).reverse.lookup z) (kp : ∀ b o, s.heap.get? b = some o → h₁.get? b = some o) :
    Inv (lmCx CX P w K mg base q scope f c' p y c A outer s H E) [] [some v, some vb] H { s with heap := h₁, toks := tk } := by
  obtain ⟨oc, hoc, hdc⟩ := hc
  have noA : ∀ b : Addr, b ∉ (lmCx CX P w K mg base q scope f c' p y c A outer s H E).ex := fun b z => absurd (show b ∈ ([] : List Addr) from z) (by simp)
  have lk : ∀ {z : Str} {a : Addr}, ([(y, c)] : List (Str × Addr)).lookup z = some a → z = y ∧ a = c := fun {z a} h => by
    rw [List.lookup_cons] at h
    split at h
    · next e => exact ⟨by simpa using e, (Option.some.inj h).symm⟩
    · cases h
  have lky : ([(y, c)] : List (Str × Addr)).lookup y = some c := by
    rw [List.lookup_cons]
    simp
  refine ⟨⟨e0.mod, L.kind, rfl, rfl, Nat.le_refl _, fun z1 z2 a h1 h2 => (lk h1).1.trans (lk h2).1.symm, fun z hz => ?_, fun z a hz _ => ?_, fun _ => hd, Around.frames_deeper e0.frames, .inr ⟨rfl, rfl⟩, fun b z => absurd z (noA b), e0.bs, e0.bsz, fun b _ _ => noA b,
      fun bb z => absurd z (noA bb), e0.funs, e0.frf⟩,
    rfl, e0.bare, Un.kept kp, ⟨_, hns, fun i z x e1 e2 e3 => ?_⟩, fun z a e => ?_, e0.hok.fresh (Nat.le_refl _), fun z a e => ?_, fun b hq => absurd (show b ∈ ([] : List (Addr × Obj)) ++ [] from hq) (by simp), e0.hok.kept kp, rfl⟩
  · have hz : scope.names.lookup z = some .cell ∨ scope.names.lookup z = some .free := hz
    rcases hz with hz | hz
    · exact absurd rfl (L.nocell _ (PySem.mem_of_lookup hz))
    · have := L.free _ (PySem.mem_of_lookup hz) rfl
      rw [show z = y from this]
      exact ⟨c, lky⟩
  · have z : false = true := hz
    cases z
  · match i, e1, e2 with
    | 0, e1, e2 =>
      have hz : p = z := Option.some.inj e1
      have hx : v = x := Option.some.inj (Option.some.inj e2)
      subst hz
      subst hx
      refine ⟨u, r, .inl ⟨L.par, ?_⟩⟩
      show ([(p, u)] : List (Str × Value)).lookup p = some u
      rw [List.lookup_cons]
      simp
    | 1, e1, e2 =>
      have hz : y = z := Option.some.inj e1
      have hx : vb = x := Option.some.inj (Option.some.inj e2)
      subst hz
      subst hx
      exact ⟨ub, rb, .inr ⟨.inr L.cap, c, lky, oc, kp _ _ (e0.bs _ _ hoc).1, hdc⟩⟩
  · obtain ⟨_, rfl⟩ := lk e
    exact ⟨_, oc, kp _ _ (e0.bs _ _ hoc).1, hdc⟩
  · obtain ⟨_, rfl⟩ := lk e
    exact (e0.bs _ _ hoc).2
/-- what the object at f answers, called with one number: a test -/
def TstB (P : Program) (w : World) (K : PySem.W.Frag) (mg : Str → Option Value) (base : Heap) (k : Nat) (f : Addr) (pre : Hp → Prop) (wn : Nat → Bool) : Prop :=
  PySem.W.FnAt f base ∧ ∀ (A : Around) (outer : List Env) (s : Shared) (H : Hp) (m : Nat) (u : Value) (Q : VK) (E : XK), Room (k + 1) A → Env0 P w K mg base A outer s H → RelV (.int m) u → pre H → Q (.bl (wn m)) H → codeAny (model P w) A (.call (.ref f) ⟨[u], []⟩) (CR CX0 outer P w H s Q E) s
theorem lm_call {q : Str} {scope : Scope} {f c' c : Addr} {p y : Str} {vb : V} {ub : Value} {params : Arguments} {body : Expr} {pm ctv : Value} {k : Nat} {t : TE} {pre : Hp → Prop} {wn : Nat → Bool} (L : LmS p y scope) (py : p ≠ y)
    (hf : base.get? f = some (PySem.W.kla_obj "<lambda>" q params body scope [(y, c)] pm c' ctv)) (hc : ∃ o, base.get? c = some o ∧ o.data = .cell (some ub)) (rb : RelV vb ub)
    (hbind : ∀ u : Value, bindArgs (PySem.W.kla_fn "<lambda>" q params body scope [(y, c)] pm (.ref c') ctv) ⟨[u], []⟩ = pure [(p, u)])
    (hpre : ∀ H, pre H → H c' = some (CodeO c' q))
    (hbody : ∀ (A : Around) (outer : List Env) (s : Shared) (H : Hp) (E : XK), Room k A → PE (lmCx CX0 P w K mg base q scope f c' p y c A outer s H E) body t)
    (ht : ∀ (m : Nat) (H : Hp) (Q : VK), pre H → Q (.bl (wn m)) H → t [some (.int m), some vb] H Q) : TstB P w K mg base k f pre wn := by
  refine ⟨⟨_, _, _, _, hf⟩, fun A outer s H m u Q E hr e0 r hp hQ => ?_⟩
  have hfs := (e0.bs _ _ hf).1
  have hcc := hpre H hp
  obtain ⟨⟨oc, vs, tq, hoc, hdc, hvc⟩, _, _⟩ := e0.hok c' _ hcc
  refine PySem.W.kla_callFunE hr.depth hfs rfl L.co L.gen rfl ⟨c', oc, vs, tq, rfl, hoc, hdc, hvc⟩ ?_
  rw [hbind]
  refine wpAny_pure (wpAny_newFunctionEnv (fun z hz => L.nocell z hz) (fun z hz => by rw [List.mem_singleton.mp hz]; exact L.par) (fun h₁ hns hsb => ⟨(e0.mod.nolimit.keeps fun b o e => (e0.bs b o e).1).fresh _ hsb, ?_⟩) L.kind)
  show codeAny _ _ (.expr body (lmEnv q scope s.heap.objs.size f c' y c)) _ _
  have kp : ∀ bb o, s.heap.get? bb = some o → h₁.get? bb = some o := fun b o e => hsb.extBut b o (Nat.ne_of_lt (Heap.lt_size e)) (Heap.get?_push_of_some _ e)
  have J : Inv (lmCx CX0 P w K mg base q scope f c' p y c A outer s H E) [] [some (.int m), some vb] H { s with heap := h₁, toks := s.toks + ([(p, u)] : List (Str × Value)).length } := lm_start L e0 hr.hd hc rb r py hns kp
  refine PySem.W.kla_codeExpr (wpAny_mono ((hbody A outer s H E (hr.mono (by omega))).run [] _ _ H Q J (ht m H Q hp hQ)) (fun v s' hq => ?_) fun e s' hq => hq)
  obtain ⟨wv, HV, JV, rv, q⟩ := hq
  exact ⟨wv, HV, JV.os, JV.bare, JV.base, JV.hok, rv, q⟩
end
/-- a(e): a a local name that holds such an object -/
def tTst (X : Cx) (k i : Nat) (t : TA) : TE := fun σ H Q => ∃ f pre wn, σ[i]? = some (some (.ref f)) ∧ TstB X.prog X.w X.K X.mg X.base k f pre wn ∧ t σ H fun vs H1 => ∃ m : Nat, vs = [.int m] ∧ pre H1 ∧ Q (.bl (wn m)) H1
theorem pe_tst {X : Cx} {k i : Nat} {a : Str} {p1 p2 : Pos} {e : Expr} {t : TA} (hN : X.N[i]? = some a) (hv : Vis X.env.scope a) (hr : Room (k + 1) X.A) (he : PA X [e] t) (hx : Passes CX0 X E0) (hd : (a == ("__debug__" : Str)) = false := by decide) (hcd : (a == ("__classdict__" : Str)) = false := by decide)
    (hs : starEach [e] X.env = (false, eval e X.env) :: starEach [] X.env := by rfl) (hpl : (backTo p2 (starEach [] X.env)).any (·.1) = false := by rfl) : PE X (.Call (.Name a p1) [e] [] p2) (tTst X k i t) := by
  refine ⟨fun pins s σ H Q I h => ?_⟩
  obtain ⟨f, pre, wn, h1, ⟨h2, h3⟩, h4⟩ := h
  refine wpAny_Call_Name_kw (thn ((pe_var (pos := p1) (i := i) hN hv hd hcd).run pins s σ H (fun v H1 => v = .ref f ∧ H1 = H) I ⟨.ref f, h1, rfl, rfl⟩) fun u s1 ⟨v, H1, I1, r1, q1⟩ => ?_)
  obtain ⟨ev, eH⟩ := q1
  subst ev
  rw [eH] at I1
  obtain rfl : u = (Value.ref f) := r1
  have fa : ∀ {σ' : L2.St} {H' : Hp} {s' : Shared}, Inv X pins σ' H' s' → PySem.W.FnAt f s'.heap := fun J => by
    obtain ⟨oc, od, fd, sl, e1⟩ := h2
    exact ⟨oc, od, fd, sl, J.bk _ _ e1⟩
  refine PySem.W.callWith_F (fa I1) (thn (he.run p2 pins s1 σ H _ I1 h4) fun us s2 ⟨vs, H2, I2, r2, m, e2, hp, hQ⟩ => ⟨fa I2, ?_⟩) hs hpl
  subst e2
  cases r2 with
  | cons r2 r3 =>
    cases r3 with
    | nil =>
      refine wpAny_call (codeAny_mono (h3 X.A X.stack s2 H2 m _ Q E0 hr I2.env0 r2 hp hQ) fun rr s' hq => ?_)
      cases rr with
      | error e => exact hx pins σ H2 s2 e s' I2 hq
      | ok fl =>
        cases fl with
        | ret u => exact I2.after hq
        | next => exact False.elim hq
        | brk => exact False.elim hq
        | cont => exact False.elim hq
theorem lk_clo {sc : Scope} {cells : List (Str × Addr)} {y : Str} {c : Addr} (h : cells.lookup y = some c) (hc : ∀ d : List (Str × Addr), cloFrom d sc.names [] = [(y, (d.lookup y).getD 0)]) : cloFrom cells sc.names [] = [(y, c)] := by rw [hc, h]; rfl
/-- x(e, lambda p: body), y captured (a cell of the maker) -/
def tLm (T : List (Addr × Str)) (P : Program) (w : World) (K : PySem.W.Frag) (mg : Str → Option Value) (q : Str) (j k : Nat) (sp : Heap → Sp) (E : XK) (te t : TE) : TE := fun σ H Q => te σ H fun v H1 => ∃ vb, σ[j]? = some (some vb) ∧ Tabs T H1 ∧
  ∀ (base : Heap) (f c' : Addr) (H2 : Hp), ExtN H1 H2 → Tabs T H2 → H2 c' = some (CodeO c' q) → (∀ (pre : Hp → Prop) (wn : Nat → Bool), (∀ H, pre H → H c' = some (CodeO c' q)) → (∀ (m : Nat) (H : Hp) (Q : VK), pre H → Q (.bl (wn m)) H → t [some (.int m), some vb] H Q) → TstB P w K mg base k f pre wn) →
    sp base [v, .ref f] H2 Q E
theorem pe_lmcall {X : Cx} {CX : CXT} {T : List (Addr × Str)} {x p y : Str} {g c P : Addr} {fd : FuncData} {j k n : Nat} {ps : List Str} {sp : Heap → Sp} {E : XK} {e : Expr} {te t : TE} {params : Arguments} {body : Expr} {scope : Scope} {p1 lpos pos : Pos}
    (hg : Gl X x) (hm : X.mg x = some (.ref g)) (hk : PySem.W.keepIn X.K (.ref g) = true) (F : ∀ base : Heap, FnOk X.prog X.w X.K X.mg base CX n g fd ps (sp base)) (hb : Binds X.K fd ps []) (hr : Room n X.A) (hx : Passes CX X E) (he : PE X e te)
    (TB : TabB X.base X.mg c P) (hcode : X.env.code = .ref c) (hmT : (P, X.env.qual ++ "<lambda>") ∈ T) (hu : ∀ p ∈ T, p.1 = P → p.2 = X.env.qual ++ "<lambda>") (L : LmS p y scope) (py : p ≠ y) (hclo : ∀ d : List (Str × Addr), cloFrom d scope.names [] = [(y, (d.lookup y).getD 0)])
    (hdef : defaultsOf params X.env = ([], [])) (hN : X.N[j]? = some y) (hv : X.env.scope.names.lookup y = some .cell) (hfn : X.fn y = true)
    (hbind : ∀ (q : Str) (cl : List (Str × Addr)) (pm cv ctv u : Value), bindArgs (PySem.W.kla_fn "<lambda>" q params body scope cl pm cv ctv) ⟨[u], []⟩ = pure [(p, u)])
    (hbody : ∀ (base : Heap) (A : Around) (outer : List Env) (s : Shared) (H : Hp) (E : XK) (f c' cc : Addr), Room k A → PE (lmCx CX0 X.prog X.w X.K X.mg base (X.env.qual ++ "<lambda>") scope f c' p y cc A outer s H E) body t)
    (hdb : (x == ("__debug__" : Str)) = false := by decide) (hs : starEach [e, .Lambda params body scope lpos] X.env = (false, eval e X.env) :: (false, eval (.Lambda params body scope lpos) X.env) :: starEach [] X.env := by rfl)
    (hpl : (backTo pos (starEach [.Lambda params body scope lpos] X.env)).any (·.1) = false := by rfl) :
    PE X (.Call (.Name x p1) [e, .Lambda params body scope lpos] [] pos) (tLm T X.prog X.w X.K X.mg (X.env.qual ++ "<lambda>") j k sp E te t) := by
  refine ⟨fun pins s σ H Q I h => ?_⟩
  refine wpAny_Call_Name_kw (ld_glob (I) hg hm ?_ hdb)
  refine PySem.W.callWith_K (h₀ := X.base) I.ok.mod.kin hk ?_ hs hpl
  rw [hs]
  show wpAny _ _ (spliced ((false, eval e X.env) :: (false, eval (.Lambda params body scope lpos) X.env) :: backTo pos (starEach [] X.env))) _ _ s
  refine Calls.spliced_cons (thn (he.run pins s σ H _ I h) fun u s1 ⟨v, H1, I1, r1, vb, hj, hT, q1⟩ => ?_)
  have hfree : ∀ z ∈ scope.names, z.2 = .free → ∃ c, X.env.cells.lookup z.1 = some c := fun z hz hz2 => by
    rw [L.free z hz hz2]
    exact I1.ok.has _ (.inl hv)
  refine Calls.spliced_cons (LamX.lam_make2 I1 TB hcode hmT hu hT hdef hfree fun f c' pm ctv H2 s2 I2 eN T2 hf hf0 hfr hco => ?_)
  refine Calls.spliced_nil ⟨I2.kIn, ?_⟩
  -- the cell of the captured name
  obtain ⟨m, hn, hl⟩ := I2.loc
  obtain ⟨ub, rb, lo⟩ := hl j y vb hN hj (.inr (.inl hv))
  have hcell : ∃ cc, X.env.cells.lookup y = some cc ∧ s2.heap.IsCell cc (some ub) := by
    rcases lo with ⟨k1, _⟩ | ⟨_, cc, k2, k3⟩
    · have k1 : X.env.scope.names.lookup y = some .local := k1
      rw [hv] at k1
      cases k1
    · exact ⟨cc, k2, k3⟩
  obtain ⟨cc, hcl, oc, hoc, hdc⟩ := hcell
  have hccn : H2 cc = none := I2.freeC y cc hcl
  have hccf : cc ∉ frs X.stack := fun z => by
    rcases List.mem_cons.mp (I2.stkSub cc z) with e1 | e1
    · obtain ⟨ol, es, ep, hol, hdl, _⟩ := hn
      rw [← e1, hoc] at hol
      cases hol
      rw [hdc] at hdl
      cases hdl
    · obtain ⟨_, o, ho, _⟩ := I2.ok.funs.mem e1
      exact absurd (Heap.lt_size ho) (Nat.not_lt_of_le (I2.ok.cab y cc hfn hcl))
  have cl1 : cloFrom X.env.cells scope.names [] = [(y, cc)] := lk_clo hcl hclo
  rw [cl1] at hf
  have E0' := env0_re I2.env0
  have hfB := bsOf_get hf hf0 hfr
  have hcB := bsOf_get hoc hccn hccf
  have hsp := q1 (bsOf s2.heap H2 X.stack) f c' H2 eN T2 hco fun pre wn hp1 hp2 => lm_call L py hfB ⟨oc, hcB, hdc⟩ rb (fun u => hbind _ _ _ _ _ u) hp1 (fun A outer s H E hr2 => hbody _ A outer s H E f c' cc hr2) hp2
  have r2 : Vals [v, .ref f] [u, .ref f] := .cons r1 (.cons rfl .nil)
  show wpAny _ _ (call (.ref g) [u, .ref f]) _ _ _
  refine wpAny_call (codeAny_mono ((F (bsOf s2.heap H2 X.stack)).run X.A X.stack s2 H2 ⟨[u, .ref f], []⟩ [u, .ref f] [v, .ref f] Q E hr E0' (hb s2 [u, .ref f] I2.kIn (by rw [List.append_nil, ← r2.length]; exact (F _).len _ _ _ _ hsp)) r2 hsp) fun r s' hq => ?_)
  cases r with
  | error e => exact hx pins σ H2 s2 e s' I2 hq
  | ok fl =>
    cases fl with
    | ret u => exact I2.after hq
    | next => exact False.elim hq
    | brk => exact False.elim hq
    | cont => exact False.elim hq


/-! ### the game of hues (pure) -/
/-- reds and blues: some red place has all its befores blue -/
def ov (bs : List (List Nat)) (r b : Nat) : Bool := (List.range bs.length).any fun p => r.testBit p && (row bs p).all fun x => b.testBit x
def up (bs : List (List Nat)) (r b : Nat) : List Nat := (List.range bs.length).filter fun p => !(r ||| b).testBit p
theorem up_mem {bs : List (List Nat)} {r b p : Nat} : p ∈ up bs r b ↔ p < bs.length ∧ r.testBit p = false ∧ b.testBit p = false := by
  unfold up
  rw [List.mem_filter, List.mem_range, Nat.testBit_or, Bool.not_eq_true', Bool.or_eq_false_iff]
theorem up_nd (bs : List (List Nat)) (r b : Nat) : (up bs r b).Nodup := ((range_lt _).imp fun z => Nat.ne_of_lt z).filter _
theorem up_len (bs : List (List Nat)) (r b : Nat) : (up bs r b).length ≤ bs.length := Nat.le_trans (List.length_filter_le _ _) (Nat.le_of_eq (List.length_range ..))
theorem bit_add {r p x : Nat} : (r ||| 2 ^ p).testBit x = (r.testBit x || decide (x = p)) := by rw [Nat.testBit_or, bit_pow]
theorem filt_one {q : Nat} : ∀ {l : List Nat}, l.Nodup → q ∈ l → (l.filter fun p => decide (p ≠ q)).length + 1 = l.length
  | x :: l, h, m => by
    obtain ⟨h1, h2⟩ := List.nodup_cons.mp h
    rw [List.filter_cons]
    by_cases e : x = q
    · subst e
      rw [if_neg (by simp), List.filter_eq_self.mpr fun y hy => by have : y ≠ x := fun z => h1 (z ▸ hy); simpa using this]
      rfl
    · rw [if_pos (by simpa using e), List.length_cons, List.length_cons]
      have := filt_one h2 ((List.mem_cons.mp m).resolve_left fun z => e z.symm)
      omega
theorem up_red {bs : List (List Nat)} {r b p : Nat} (h : p ∈ up bs r b) : (up bs (r ||| 2 ^ p) b).length + 1 = (up bs r b).length := by
  have e : up bs (r ||| 2 ^ p) b = (up bs r b).filter fun x => decide (x ≠ p) := by
    unfold up
    rw [List.filter_filter]
    refine List.filter_congr fun x _ => ?_
    simp only [Nat.testBit_or, bit_pow]
    by_cases c : x = p <;> simp [c]
  rw [e]
  exact filt_one (up_nd bs r b) h
theorem up_blue {bs : List (List Nat)} {r b p : Nat} (h : p ∈ up bs r b) : (up bs r (b ||| 2 ^ p)).length + 1 = (up bs r b).length := by
  have e : up bs r (b ||| 2 ^ p) = (up bs r b).filter fun x => decide (x ≠ p) := by
    unfold up
    rw [List.filter_filter]
    refine List.filter_congr fun x _ => ?_
    simp only [Nat.testBit_or, bit_pow]
    by_cases c : x = p <;> simp [c]
  rw [e]
  exact filt_one (up_nd bs r b) h
def mnL (l : List Nat) : Nat := (l.min?).getD 0
theorem mnL_mem {l : List Nat} (h : l ≠ []) : mnL l ∈ l ∧ ∀ x ∈ l, mnL l ≤ x := by
  cases e : l.min? with
  | none => exact absurd (List.min?_eq_none_iff.mp e) h
  | some m =>
    unfold mnL
    rw [e]
    exact (List.min?_eq_some_iff).mp e
theorem mnL_uniq {l : List Nat} {m : Nat} (h1 : m ∈ l) (h2 : ∀ x ∈ l, m ≤ x) : m = mnL l := by
  obtain ⟨a, b⟩ := mnL_mem (l := l) (fun z => by rw [z] at h1; cases h1)
  have := b m h1
  have := h2 _ a
  omega
/-- how many names are needed behind a painting: at most k places are not painted -/
def nbF (bs : List (List Nat)) : Nat → Nat → Nat → Nat
  | 0, r, b => if ov bs r b = true then 0 else 1
  | k + 1, r, b => if ov bs r b = true then 0 else 1 + mnL ((up bs r b).map fun p => max (nbF bs k (r ||| 2 ^ p) b) (nbF bs k r (b ||| 2 ^ p)))
def nb (bs : List (List Nat)) (r b : Nat) : Nat := nbF bs (up bs r b).length r b
theorem nbF_nb (bs : List (List Nat)) : ∀ (k r b : Nat), (up bs r b).length ≤ k → nbF bs k r b = nb bs r b
  | 0, r, b, h => by
    unfold nb
    rw [Nat.le_zero.mp h]
  | k + 1, r, b, h => by
    have ih := nbF_nb bs k
    unfold nb
    cases e : (up bs r b).length with
    | zero =>
      have : up bs r b = [] := List.length_eq_zero_iff.mp e
      show (if ov bs r b = true then 0 else 1 + mnL ((up bs r b).map _)) = (if ov bs r b = true then 0 else 1)
      rw [this]
      rfl
    | succ l =>
      show (if ov bs r b = true then 0 else 1 + mnL ((up bs r b).map fun p => max (nbF bs k (r ||| 2 ^ p) b) (nbF bs k r (b ||| 2 ^ p)))) = (if ov bs r b = true then 0 else 1 + mnL ((up bs r b).map fun p => max (nbF bs l (r ||| 2 ^ p) b) (nbF bs l r (b ||| 2 ^ p))))
      have : (up bs r b).map (fun p => max (nbF bs k (r ||| 2 ^ p) b) (nbF bs k r (b ||| 2 ^ p))) = (up bs r b).map fun p => max (nbF bs l (r ||| 2 ^ p) b) (nbF bs l r (b ||| 2 ^ p)) := by
        refine List.map_congr_left fun p hp => ?_
        have h1 := up_red hp
        have h2 := up_blue hp
        rw [ih _ _ (by omega), ih _ _ (by omega)]
        unfold nb
        rw [show (up bs (r ||| 2 ^ p) b).length = l by omega, show (up bs r (b ||| 2 ^ p)).length = l by omega]
      rw [this]
def wrs (bs : List (List Nat)) (r b p : Nat) : Nat := max (nb bs (r ||| 2 ^ p) b) (nb bs r (b ||| 2 ^ p))
theorem nb_eq (bs : List (List Nat)) (r b : Nat) : nb bs r b = if ov bs r b = true then 0 else 1 + mnL ((up bs r b).map (wrs bs r b)) := by
  rw [← nbF_nb bs ((up bs r b).length + 1) r b (Nat.le_succ _)]
  show (if ov bs r b = true then 0 else 1 + mnL ((up bs r b).map fun p => max (nbF bs (up bs r b).length (r ||| 2 ^ p) b) (nbF bs (up bs r b).length r (b ||| 2 ^ p)))) = _
  have : (up bs r b).map (fun p => max (nbF bs (up bs r b).length (r ||| 2 ^ p) b) (nbF bs (up bs r b).length r (b ||| 2 ^ p))) = (up bs r b).map (wrs bs r b) := by
    refine List.map_congr_left fun p hp => ?_
    have h1 := up_red hp
    have h2 := up_blue hp
    rw [nbF_nb bs _ _ _ (by omega), nbF_nb bs _ _ _ (by omega)]
    rfl
  rw [this]
/-- a painting that is one: a red place, all painted places are the web's -/
structure Pnt (bs : List (List Nat)) (r b : Nat) : Prop where
  red : ∃ p, p < bs.length ∧ r.testBit p = true
  dis : ∀ p, r.testBit p = true → b.testBit p = false
  low : ∀ p, r.testBit p = true ∨ b.testBit p = true → p < bs.length
theorem Pnt.addR {bs : List (List Nat)} {r b p : Nat} (h : Pnt bs r b) (hp : p ∈ up bs r b) : Pnt bs (r ||| 2 ^ p) b := by
  obtain ⟨h1, h2, h3⟩ := up_mem.mp hp
  refine ⟨⟨p, h1, by rw [bit_add, decide_eq_true rfl, Bool.or_true]⟩, fun x hx => ?_, fun x hx => ?_⟩
  · rw [bit_add, Bool.or_eq_true, decide_eq_true_eq] at hx
    rcases hx with g | rfl
    · exact h.dis x g
    · exact h3
  · rw [bit_add, Bool.or_eq_true, decide_eq_true_eq] at hx
    rcases hx with (g | rfl) | g
    · exact h.low x (.inl g)
    · exact h1
    · exact h.low x (.inr g)
theorem Pnt.addB {bs : List (List Nat)} {r b p : Nat} (h : Pnt bs r b) (hp : p ∈ up bs r b) : Pnt bs r (b ||| 2 ^ p) := by
  obtain ⟨h1, h2, h3⟩ := up_mem.mp hp
  refine ⟨h.red, fun x hx => ?_, fun x hx => ?_⟩
  · rw [bit_add, h.dis x hx, Bool.false_or]
    exact decide_eq_false fun z => by rw [z, h2] at hx; cases hx
  · rw [bit_add, Bool.or_eq_true, decide_eq_true_eq] at hx
    rcases hx with g | g | rfl
    · exact h.low x (.inl g)
    · exact h.low x (.inr g)
    · exact h1
/-- where nothing is over, a place is left to be painted -/
theorem up_some {bs : List (List Nat)} (k : BefOk bs) (ac : Acy bs) {r b : Nat} (h : Pnt bs r b) (ho : ov bs r b = false) : up bs r b ≠ [] := by
  obtain ⟨rk, ac⟩ := ac
  have go : ∀ (n p : Nat), rk p ≤ n → p < bs.length → r.testBit p = true → ∃ q, q ∈ up bs r b := by
    intro n
    induction n with
    | zero =>
      intro p hn hp hr
      have : ¬ ((row bs p).all fun x => b.testBit x) = true := fun z => by
        have : ov bs r b = true := List.any_eq_true.mpr ⟨p, List.mem_range.mpr hp, by rw [hr, z]; rfl⟩
        rw [ho] at this; cases this
      rw [List.all_eq_true] at this
      by_cases c : ∃ x, x ∈ row bs p ∧ b.testBit x = false
      · obtain ⟨x, hx, _⟩ := c
        have := ac p x hx
        omega
      · exact absurd (fun x hx => by
          cases e : b.testBit x with
          | true => rfl
          | false => exact absurd ⟨x, hx, e⟩ c) this
    | succ n ih =>
      intro p hn hp hr
      have : ¬ ((row bs p).all fun x => b.testBit x) = true := fun z => by
        have : ov bs r b = true := List.any_eq_true.mpr ⟨p, List.mem_range.mpr hp, by rw [hr, z]; rfl⟩
        rw [ho] at this; cases this
      rw [List.all_eq_true] at this
      by_cases c : ∃ x, x ∈ row bs p ∧ b.testBit x = false
      · obtain ⟨x, hx, hb⟩ := c
        have lt := ac p x hx
        have xl := (row_lt k hx).1
        cases e : r.testBit x with
        | true => exact ih x (by omega) xl e
        | false => exact ⟨x, up_mem.mpr ⟨xl, e, hb⟩⟩
      · exact absurd (fun x hx => by
          cases e : b.testBit x with
          | true => rfl
          | false => exact absurd ⟨x, hx, e⟩ c) this
  obtain ⟨p, hp, hr⟩ := h.red
  obtain ⟨q, hq⟩ := go (rk p) p (Nat.le_refl _) hp hr
  exact List.ne_nil_of_mem hq
theorem nb_le {bs : List (List Nat)} (k : BefOk bs) (ac : Acy bs) : ∀ (n r b : Nat), (up bs r b).length ≤ n → Pnt bs r b → nb bs r b ≤ (up bs r b).length
  | n, r, b, hn, h => by
    rw [nb_eq]
    cases e : ov bs r b with
    | true => rw [if_pos rfl]; omega
    | false =>
      rw [if_neg (by decide)]
      have ne := up_some k ac h e
      obtain ⟨p, l, hp⟩ := List.exists_cons_of_ne_nil ne
      have pm : p ∈ up bs r b := by rw [hp]; exact List.mem_cons_self
      obtain ⟨_, q2⟩ := mnL_mem (l := (up bs r b).map (wrs bs r b)) (by rw [hp]; simp)
      have q3 := q2 _ (List.mem_map_of_mem pm)
      have h1 := up_red pm
      have h2 := up_blue pm
      cases n with
      | zero => omega
      | succ n =>
        have i1 := nb_le k ac n _ _ (by omega) (h.addR pm)
        have i2 := nb_le k ac n _ _ (by omega) (h.addB pm)
        have : wrs bs r b p ≤ (up bs r b).length - 1 := by unfold wrs; omega
        omega
theorem nb_zero {bs : List (List Nat)} {r b : Nat} : nb bs r b = 0 ↔ ov bs r b = true := by
  rw [nb_eq]
  cases ov bs r b with
  | true => exact ⟨fun _ => rfl, fun _ => rfl⟩
  | false =>
    rw [if_neg (by decide)]
    exact ⟨fun z => by omega, fun z => absurd z (by decide)⟩
/-- plans: a place, what is done if it is red, if it is blue; and what is none -/
inductive Pl | leaf | node (p : Int) (x y : Pl) | bad (d : PyData)
def Pl.D : Pl → PyData
  | .leaf => .tuple []
  | .node p x y => .tuple [.int p, x.D, y.D]
  | .bad d => d
def Pl.nw (bs : List (List Nat)) : Pl → Nat → Nat → Option Str
  | .bad _, _, _ => some "form"
  | .leaf, r, b => if ov bs r b = true then none else some "early"
  | .node p x y, r, b => if ov bs r b = true then some "idle" else if ¬ (0 ≤ p ∧ p < bs.length) ∨ (r ||| b).testBit p.toNat = true then some "place" else
    match x.nw bs (r ||| 2 ^ p.toNat) b with
    | some w => some w
    | none => y.nw bs r (b ||| 2 ^ p.toNat)
def Pl.dep : Pl → Nat
  | .node _ x y => 1 + max x.dep y.dep
  | _ => 0
/-- the plan that is told -/
def npl (bs : List (List Nat)) : Nat → Nat → Nat → Pl
  | 0, _, _ => .leaf
  | k + 1, r, b => if nb bs r b = 0 then .leaf else
    let p := ((up bs r b).find? fun p => decide (wrs bs r b p < nb bs r b)).getD 0
    .node p (npl bs k (r ||| 2 ^ p) b) (npl bs k r (b ||| 2 ^ p))
theorem help_one {bs : List (List Nat)} (k : BefOk bs) (ac : Acy bs) {r b : Nat} (h : Pnt bs r b) (hz : nb bs r b ≠ 0) : ∃ p, (up bs r b).find? (fun p => decide (wrs bs r b p < nb bs r b)) = some p ∧ p ∈ up bs r b ∧ wrs bs r b p + 1 = nb bs r b := by
  have ho : ov bs r b = false := by
    cases e : ov bs r b with
    | false => rfl
    | true => exact absurd (nb_zero.mpr e) hz
  have eq := nb_eq bs r b
  rw [ho, if_neg (by decide)] at eq
  have ne := up_some k ac h ho
  obtain ⟨m1, m2⟩ := mnL_mem (l := (up bs r b).map (wrs bs r b)) (by simpa using ne)
  obtain ⟨q, hq, hq2⟩ := List.mem_map.mp m1
  cases e : (up bs r b).find? fun p => decide (wrs bs r b p < nb bs r b) with
  | none =>
    have := List.find?_eq_none.mp e q hq
    simp only [decide_eq_true_eq] at this
    omega
  | some p =>
    have h1 := List.find?_some e
    have h2 := List.mem_of_find?_eq_some e
    simp only [decide_eq_true_eq] at h1
    have := m2 _ (List.mem_map_of_mem h2)
    exact ⟨p, rfl, h2, by omega⟩
/-- the plan that is told is right, and as deep as the names -/
theorem npl_ok {bs : List (List Nat)} (k : BefOk bs) (ac : Acy bs) : ∀ (n r b : Nat), (up bs r b).length ≤ n → Pnt bs r b → (npl bs n r b).nw bs r b = none ∧ (npl bs n r b).dep = nb bs r b
  | n, r, b, hn, h => by
    by_cases z : nb bs r b = 0
    · have ho := nb_zero.mp z
      have : npl bs n r b = .leaf := by
        cases n with
        | zero => rfl
        | succ n =>
          unfold npl
          rw [if_pos z]
      rw [this, z]
      refine ⟨?_, rfl⟩
      unfold Pl.nw
      rw [if_pos ho]
    · have ho : ov bs r b = false := by
        cases e : ov bs r b with
        | false => rfl
        | true => exact absurd (nb_zero.mpr e) z
      obtain ⟨p, e, pm, w⟩ := help_one k ac h z
      have h1 := up_red pm
      have h2 := up_blue pm
      obtain ⟨u1, u2, u3⟩ := up_mem.mp pm
      cases n with
      | zero => omega
      | succ n =>
        have en : npl bs (n + 1) r b = .node p (npl bs n (r ||| 2 ^ p) b) (npl bs n r (b ||| 2 ^ p)) := by
          show (if nb bs r b = 0 then Pl.leaf else _) = _
          rw [if_neg z, e]
          rfl
        obtain ⟨i1, i2⟩ := npl_ok k ac n _ _ (by omega) (h.addR pm)
        obtain ⟨j1, j2⟩ := npl_ok k ac n _ _ (by omega) (h.addB pm)
        rw [en]
        constructor
        · show (if ov bs r b = true then _ else if ¬ (0 ≤ (p : Int) ∧ (p : Int) < bs.length) ∨ (r ||| b).testBit (p : Int).toNat = true then _ else match Pl.nw bs (npl bs n (r ||| 2 ^ p) b) (r ||| 2 ^ (p : Int).toNat) b with
            | some w => some w
            | none => Pl.nw bs (npl bs n r (b ||| 2 ^ p)) r (b ||| 2 ^ (p : Int).toNat)) = none
          rw [ho, if_neg (by decide), Int.toNat_natCast, if_neg, i1]
          · exact j1
          · rintro (q | q)
            · exact q ⟨by omega, by omega⟩
            · rw [Nat.testBit_or, u2, u3] at q
              cases q
        · show 1 + max (npl bs n (r ||| 2 ^ p) b).dep (npl bs n r (b ||| 2 ^ p)).dep = _
          rw [i2, j2, ← w]
          unfold wrs
          omega


/-! ### errors with one field; len of an own object -/
def spInit1 (C : Addr) (f1 : Str) : Sp := fun vs H Q _ => ∃ (e : Addr) (x : V), vs = [.ref e, x] ∧ H e = some (exo e C none) ∧
  ∀ (d : Addr) (H' : Hp), H d = none → d ≠ e → Fr e H H' → H' e = some (exo e C (some d)) → H' d = some (exd d [(f1, x)]) → Q .non H'
theorem mk1 {C : Addr} {f1 : Str} {x : V} {H1 : Hp} {Q : XK} (k : ∀ (d : Addr) (H' : Hp), Evl.Ex H1 H' → H' d = some (.xd [(f1, x)]) → Q (.ref C) (some d) H') :
    mkO C (spInit1 C f1) [] [x] H1 Q := by
  refine ⟨by show 1 ≤ 1000; omega, fun e he => ⟨e, x, rfl, upd_same, fun d H' hd hne hf h1 h2 => ⟨rfl, d, _, h1, h2, ?_, ?_⟩⟩⟩
  · rw [upd_ne hne] at hd
    exact hd
  · refine k d _ (fun b o hb => ?_) upd_same
    have nbe : b ≠ e := ne_of_none hb he
    rw [upd_ne hne] at hd
    have nbd : b ≠ d := ne_of_none hb hd
    rw [upd_ne nbd, del_ne nbe]
    exact hf b o nbe (by rw [upd_ne nbe]; exact hb)

section
variable {X : Cx} {n : Nat} {CX : CXT} {C f : Addr} {fd : FuncData} {ps : List Str} {sp : Sp} {E : XK} {A : Around} {pins : List (Addr × Obj)} {σ : L2.St} {H : Hp} {s : Shared} {a : Addr} {R : Value → Shared → Prop}
theorem call_one (F : FnOk X.prog X.w X.K X.mg X.base CX n f fd ps sp) (hb : Binds X.K fd ps []) (hx : Passes CX X E) (sb : L2.Sub X n A) (I : Inv X pins σ H s) {Qv : VK} (h : sp [.ref a] H Qv E)
    (q : ∀ v H' s' z, Inv X pins σ H' s' → RelV v z → Qv v H' → R z s') : wpAny (model X.prog X.w) A (call (.ref f) [.ref a]) R X.xe s := by
  have here := I.env0
  have e0 : Env0 X.prog X.w X.K X.mg X.base A X.stack s H := { here with frames := by rw [sb.fr]; exact here.frames }
  have hl := F.len _ _ _ _ h
  have one : Vals [V.ref a] [Value.ref a] := .cons rfl .nil
  have hbd := hb s [.ref a] I.kIn (by simpa using hl)
  refine wpAny_call (codeAny_mono (F.run A X.stack s H ⟨[.ref a], []⟩ [.ref a] [.ref a] Qv E sb.room e0 (by simpa using hbd) one h) fun r s' hq => ?_)
  cases r with
  | error e => exact hx pins σ H s e s' I hq
  | ok fl => cases fl with
    | ret w' =>
      obtain ⟨z, H', I', rz, ez⟩ := I.after hq
      exact q z H' s' w' I' rz ez
    | next => exact False.elim hq
    | brk => exact False.elim hq
    | cont => exact False.elim hq
/-- len(x) of an object with the own __len__ -/
def rLenI (C : Addr) (sp : Sp) (E : XK) : List V → Hp → VK → Prop := fun xs H Q => ∃ a dx fs, xs = [.ref a] ∧ H a = some (.ins C dx fs) ∧ sp [.ref a] H (fun v H' => ∃ n : Nat, v = .int n ∧ n ≤ 1000000 ∧ Q (.int n) H') E
theorem call_lenI (F : FnOk X.prog X.w X.K X.mg X.base CX n f fd ps sp) (hs : PySem.W.findIn X.K (.ref C) "__len__" = some (some (.ref f))) (hf : PySem.W.isFn X.K (.ref f) = true) (hb : Binds X.K fd ps []) (hx : Passes CX X E) (hr : Room (n + 1) X.A) : CallR X (.builtin "len") (rLenI C sp E) := by
  intro pins s σ H xs us Q I r h
  obtain ⟨a, dx, fs, rfl, ha, h⟩ := h
  obtain ⟨u1, rfl, r1⟩ := vals1 r
  obtain rfl : u1 = Value.ref a := r1
  obtain ⟨mA, J, _⟩ := ins_get I.hok ha
  obtain ⟨od, J, _⟩ := J.look
  obtain ⟨m, hF⟩ := I.fr
  have room : Room n X.A.in1 := ⟨hr.hd, by have := hr.dp; show X.A.depth + 3 * n + 5 < recursionLimit; omega, by have := hr.un; show X.A.units + 1 + 16 * n + 200 < cLine; omega⟩
  refine PySem.W.len_K hF I.ok.mod.kin J hs hf ?_
  refine call_one F hb hx ⟨room, rfl⟩ I h fun v H' s' z I' rz ez => ?_
  obtain ⟨k, rfl, hk, q⟩ := ez
  obtain ⟨t, rfl⟩ := rz
  refine ⟨⟨by omega, by omega⟩, .int k, H', I'.kept (t' := _) fun _ _ z => z, ⟨_, rfl⟩, q⟩
end
section
variable {P : Program} {w : World} {K : PySem.W.Frag} {mg : Str → Option Value} {base : Heap} {a : Ad}
theorem ok_TooMany_init (T : Txt K mg a) : FnOk P w K mg base CX0 1 a.f_TooMany___init__ a.d_TooMany___init__ ["self", "most"] (spInit1 a.c_TooMany "most") := by
  refine T.F_TooMany___init__.ok sc_TooMany___init__ (fun vs H Q E h => ?_) (fun cdv A outer s H vs Q E hr h => ?_)
  · obtain ⟨e, x, rfl, _⟩ := h
    rfl
  · obtain ⟨e, x, rfl, he, k⟩ := h
    refine ⟨_, pss_one (ps_asg (pv 1) (pg_ost (pv 0))), ?_⟩
    refine ⟨_, rfl, _, rfl, e, a.c_TooMany, rfl, T.x_TooMany, T.xn_TooMany_most, .inl ⟨he, fun dx hdx hne => ?_⟩⟩
    refine k dx _ hdx hne (fun b o nb hb => ?_) upd_same (by rw [upd_ne hne, upd_same])
    rw [upd_ne nb, upd_ne (ne_of_none hb hdx)]
    exact hb
theorem ok_BadPlaces_init (T : Txt K mg a) : FnOk P w K mg base CX0 1 a.f_BadPlaces___init__ a.d_BadPlaces___init__ ["self", "index"] (spInit1 a.c_BadPlaces "index") := by
  refine T.F_BadPlaces___init__.ok sc_BadPlaces___init__ (fun vs H Q E h => ?_) (fun cdv A outer s H vs Q E hr h => ?_)
  · obtain ⟨e, x, rfl, _⟩ := h
    rfl
  · obtain ⟨e, x, rfl, he, k⟩ := h
    refine ⟨_, pss_one (ps_asg (pv 1) (pg_ost (pv 0))), ?_⟩
    refine ⟨_, rfl, _, rfl, e, a.c_BadPlaces, rfl, T.x_BadPlaces, T.xn_BadPlaces_index, .inl ⟨he, fun dx hdx hne => ?_⟩⟩
    refine k dx _ hdx hne (fun b o nb hb => ?_) upd_same (by rw [upd_ne hne, upd_same])
    rw [upd_ne nb, upd_ne (ne_of_none hb hdx)]
    exact hb
def spBL_ (a : Ad) : Sp := fun vs H Q _ => ∃ (x : Addr) (bs : List (List Nat)) (e : Nat), vs = [.ref x] ∧ BareAt a.c_Bare H x bs e ∧ Q (.int bs.length) H
theorem ok_Bare_len (T : Txt K mg a) : FnOk P w K mg base CX0 1 a.f_Bare___len__ a.d_Bare___len__ ["self"] (spBL_ a) := by
  refine T.F_Bare___len__.ok sc_Bare___len__ (fun vs H Q E h => ?_) (fun cdv A outer s H vs Q E hr h => ?_)
  · obtain ⟨_, _, _, rfl, _⟩ := h
    rfl
  · obtain ⟨x, bs, e, rfl, hB, k⟩ := h
    obtain ⟨dx, p, af, od, nd, h1, ⟨xs, h2, h3⟩, _⟩ := hB
    have lx := paired_len h3
    refine ⟨_, (pss_one (ps_ret (pe_callB call_len_seq (by rfl) T.z_len (by decide +kernel) (pa_cons (pe_fld (pv 0) rfl) pa_nil)))), ?_⟩
    walk_at "sm"
    refine ⟨_, _, _, h1, T.ic_Bare.cl, T.na_Bare_befores, _, rfl, p, rfl, xs, .inr (SqT.of h2), ?_⟩
    rw [lx]
    exact k
def spCS_ (a : Ad) : Sp := fun vs H Q E => ∃ (x : Addr) (bs : List (List Nat)) (e : Nat), vs = [.ref x] ∧ BareAt a.c_Bare H x bs e ∧ bs.length ≤ 200 ∧ (bs.length ≤ 8 → Q (.ref x) H) ∧ (8 < bs.length → ∀ d H', Evl.Ex H H' → H' d = some (.xd [("most", .int 8)]) → E (.ref a.c_TooMany) (some d) H')
theorem ok_check_small (T : Txt K mg a) : FnOk P w K mg base (L2.CX P w) 3 a.f_check_small a.d_check_small ["bare"] (spCS_ a) := by
  refine T.F_check_small.okX sc_check_small (fun vs H Q E h => ?_) (fun cdv A outer s H vs Q E hr h => ?_)
  · obtain ⟨_, _, _, rfl, _⟩ := h
    rfl
  · obtain ⟨x, bs, e, rfl, hB, hl, k1, k2⟩ := h
    refine ⟨_, (pss_cons (ps_if (pt_cmpR op_gt (pe_callB (call_lenI (ok_Bare_len T) T.at_Bare___len__ T.fn_Bare___len__ T.b_Bare___len__ pass0 (hr.mono (by decide))) (by rfl) T.z_len (by decide +kernel) (pa_cons (pv 0) pa_nil)) (pe_glob rfl T.g_MOST_SEARCHED.choose_spec.1 T.g_MOST_SEARCHED.choose_spec.2) (nomark _)) (pss_one (ps_raise rfl (takes_of rfl rfl rfl rfl) (pmk_oex T.x_TooMany T.xi_TooMany T.xt_TooMany (ok_TooMany_init T) (hr.mono (by decide)) T.b_TooMany___init__ .nil pass0 rfl T.m_TooMany (pa_cons (pe_glob rfl T.g_MOST_SEARCHED.choose_spec.1 T.g_MOST_SEARCHED.choose_spec.2) pa_nil))))
    pss_nil)
  (pss_one (ps_ret (pv 0)))), ?_⟩
    have hB' := hB
    obtain ⟨dx, p, af, od, nd, h1, _⟩ := hB'
    walk_at "sm"
    refine ⟨x, dx, _, rfl, h1, x, bs, e, rfl, hB, bs.length, rfl, by omega, ?_⟩
    by_cases c : bs.length ≤ 8
    · exact ⟨_, rfl, iteN (by omega) (k1 c)⟩
    · exact ⟨_, rfl, iteP (by omega) (mk1 (k2 (by omega)))⟩
def spPl (a : Ad) : Sp := fun vs H Q _ => ∃ (x : Addr) (bs : List (List Nat)) (e : Nat) (v : V), vs = [.ref x, v] ∧ BareAt a.c_Bare H x bs e ∧ PlainV H v ∧ Q (.bl (wiB v 0 ((bs.length : Int) - 1))) H
theorem ok_is_placeG (T : Txt K mg a) : FnOk P w K mg base CX0 3 a.f_is_place a.d_is_place ["bare", "thing"] (spPl a) := by
  refine T.F_is_place.ok sc_is_place (fun vs H Q E h => ?_) (fun cdv A outer s H vs Q E hr h => ?_)
  · obtain ⟨_, _, _, _, rfl, _⟩ := h
    rfl
  · obtain ⟨x, bs, e, v, rfl, hB, hv, k⟩ := h
    obtain ⟨dx, p, af, od, nd, h1, ⟨xs, h2, h3⟩, _⟩ := hB
    have lx := paired_len h3
    refine ⟨_, (pss_one (ps_ret (pe_call (ok_is_within T) (hr.mono (by decide)) rfl T.m_is_within T.F_is_within.kp T.b_is_within .nil pass0 (pa_cons (pv 1) (pa_cons pe_int (pa_cons (pe_op op_sub (pe_callB call_len_seq (by rfl) T.z_len (by decide +kernel) (pa_cons (pe_fld (pv 0) rfl) pa_nil)) pe_int) pa_nil)))))), ?_⟩
    walk_at "sm"
    refine ⟨_, _, _, h1, T.ic_Bare.cl, T.na_Bare_befores, _, rfl, p, rfl, xs, .inr (SqT.of h2), v, 0, _, rfl, hv, ?_⟩
    rw [lx]
    exact k
end


/-! ### common rules from elsewhere -/
theorem nI_get {l : List Nat} {i q : Nat} (h : l[i]? = some q) : ((nI l).map V.int)[i]? = some (V.int (q : Nat)) := by
  rw [List.getElem?_map]
  show (((List.map (fun x : Nat => (x : Int)) l)[i]?).map V.int) = _
  rw [List.getElem?_map, h]
  rfl
theorem pt_truth_b {X : Cx} {s : Shared} {H : Hp} {scope : Scope} {env : Env} {fp : List Addr} {a : Expr} {ta : TE} (h : PE (X.blk s H scope env fp) a ta) (h2 : ∀ (whole : Sem Value), PySem.isTrue a (X.blk s H scope env fp).env whole = do
          let v ← whole
          standAt a.pos
          holding [v] (truthy v)) : PT (X.blk s H scope env fp) a fun σ H Q => ta σ H fun x H' => ∃ k, TruV X.K x H' k ∧ Q k H' := pt_truth h h2
theorem op_andNot : OpR X (binaryOp .BitAnd) (fun x y H Q => ∃ n b : Nat, x = .int n ∧ y = .int (Builtin.bitNot (b : Int)) ∧ ∀ k : Nat, (k = 0 ↔ ∀ i, n.testBit i = true → b.testBit i = true) → Q (.int k) H) := by
  intro pins s σ H x y v u Q I r1 r2 h
  obtain ⟨n, b, rfl, rfl, q⟩ := h
  refine op_and pins s σ H _ _ v u Q I r1 r2 ⟨_, _, rfl, rfl, ?_⟩
  have sub : n &&& b ≤ n := Nat.and_le_left
  have e : Builtin.bitAnd (n : Int) (Builtin.bitNot (b : Int)) = ((n - (n &&& b) : Nat) : Int) := by
    unfold Builtin.bitAnd Builtin.bitNot
    rw [decide_eq_true (show (0 : Int) ≤ (n : Int) by omega), decide_eq_false (show ¬ (0 : Int) ≤ -(b : Int) - 1 by omega)]
    show (n : Int) - ((((n : Int).toNat) &&& (-(-(b : Int) - 1) - 1).toNat : Nat) : Int) = _
    rw [show (-(-(b : Int) - 1) - 1).toNat = b by omega, Int.toNat_natCast]
    omega
  show Q (.int (Builtin.bitAnd _ _)) H
  rw [e]
  refine q _ ⟨fun z i hi => ?_, fun z => ?_⟩
  · have : n &&& b = n := by omega
    rw [← this, Nat.testBit_and, Bool.and_eq_true] at hi
    exact hi.2
  · have : n &&& b = n := Nat.eq_of_testBit_eq fun i => by
      rw [Nat.testBit_and]
      cases c : n.testBit i with
      | false => rfl
      | true => rw [z i c]; rfl
    omega
theorem hu1 {n : Nat} (h : n + 64 < cLine) : n + 1 < cLine := by omega
theorem nd_len {α : Type} [DecidableEq α] : ∀ {l m : List α}, l.Nodup → (∀ x ∈ l, x ∈ m) → l.length ≤ m.length
  | [], m, _, _ => Nat.zero_le _
  | x :: l, m, h, s => by
    obtain ⟨h1, h2⟩ := List.nodup_cons.mp h
    have xm := s x List.mem_cons_self
    have := nd_len (m := m.erase x) h2 fun y hy => (List.mem_erase_of_ne fun z => h1 (by rw [← z]; exact hy)).mpr (s y (List.mem_cons_of_mem _ hy))
    rw [List.length_erase_of_mem xm] at this
    have := List.length_pos_of_mem xm
    rw [List.length_cons]
    omega
def isP (n : Nat) (y : V) : Bool := wiB y 0 ((n : Int) - 1)
theorem isP_int {n p : Nat} : isP n (.int p) = decide (p < n) := by
  show (decide ((0 : Int) ≤ (p : Int)) && decide ((p : Int) ≤ (n : Int) - 1)) = _
  rw [decide_eq_true (show (0 : Int) ≤ (p : Int) by omega), Bool.true_and]
  exact decide_eq_decide.mpr ⟨fun h => by omega, fun h => by omega⟩
theorem isP_true {n : Nat} {y : V} (h : isP n y = true) : ∃ p : Nat, y = .int p ∧ p < n := by
  cases y with
  | int i =>
    have : (decide ((0 : Int) ≤ i) && decide (i ≤ (n : Int) - 1)) = true := h
    rw [Bool.and_eq_true, decide_eq_true_eq, decide_eq_true_eq] at this
    exact ⟨i.toNat, by rw [Int.toNat_of_nonneg this.1], by omega⟩
  | _ => cases h
theorem ints_plain' {H : Hp} (ns : List Int) : ∀ z ∈ ns.map V.int, PlainV H z := fun z hz => by
  obtain ⟨n, _, rfl⟩ := List.mem_map.mp hz
  exact plain_int
theorem op_in_seq_b {X : Cx} {s : Shared} {H : Hp} {scope : Scope} {env : Env} {fp : List Addr} : OpR (X.blk s H scope env fp) (compareOp .In) (rIn X.K false) := op_in_seq (X := X.blk s H scope env fp)
theorem Fr.ex {H H' : Hp} {d : Addr} {o : HO} (hd : H d = none) (f : Fr d (L2.upd H d o) H') : Evl.Ex H H' := fun b u h => f b u (ne_of_none h hd) (by rw [upd_ne (ne_of_none h hd)]; exact h)


/-! ### the law's webs -/
theorem hand_lst {H : Hp} {p c : Addr} (h : HandAt H p c) : ∃ xs, H p = some (.lst xs) := by
  obtain ⟨cells, i, g, t, hp, _⟩ := h
  exact ⟨_, hp⟩
theorem Fr.mut2 {p q : Addr} {H H' : Hp} {o : HO} (f : Fr p H H') (hq : H' q = none) (n : q ≠ p) : Fr p H (L2.upd H' q o) := fun b u nb h => by
  have h2 := f b u nb h
  rw [upd_ne (fun z => by rw [z, hq] at h2; cases h2)]
  exact h2
theorem hand_new {H HX : Hp} {p c q : Addr} {o : HO} (f : Fr p H HX) (h : HandAt HX p c) (hq : HX q = none) : Fr p H (upd HX q o) ∧ HandAt (upd HX q o) p c ∧ q ≠ p := by
  obtain ⟨ys, hy⟩ := hand_lst h
  have n : q ≠ p := fun z => by rw [z, hy] at hq; cases hq
  exact ⟨f.mut2 hq n, h.upd (h.lt hq) (h.lc hq), n⟩
theorem seqIx {k n : Nat} (h : k < n) : seqIndex? (k : Int) n = some k := by
  unfold seqIndex?
  have e : (if (k : Int) < 0 then (k : Int) + n else k) = k := if_neg (by omega)
  simp only [e]
  rw [if_pos (by simp; omega)]
  rfl
theorem nI_erase {l : List Nat} {k : Nat} : ((nI l).map V.int).eraseIdx k = (nI (l.eraseIdx k)).map V.int := by
  induction l generalizing k with
  | nil => rfl
  | cons x l ih =>
    cases k with
    | zero => rfl
    | succ k =>
      show V.int (x : Nat) :: ((nI l).map V.int).eraseIdx k = _
      rw [ih]
      rfl
theorem era_perm : ∀ {m : List Nat} {k x : Nat}, m[k]? = some x → (x :: m.eraseIdx k).Perm m
  | [], _, _, h => by simp at h
  | y :: m, 0, x, h => by
    have : y = x := by simpa using h
    subst this
    exact List.Perm.refl _
  | y :: m, k + 1, x, h => by
    have ih := era_perm (m := m) (k := k) (x := x) (by simpa using h)
    show (x :: y :: m.eraseIdx k).Perm (y :: m)
    exact (List.Perm.swap y x _).trans (ih.cons y)
theorem perm_move {l m : List Nat} {k x : Nat} (h : m[k]? = some x) : ((l ++ [x]) ++ m.eraseIdx k).Perm (l ++ m) := by
  rw [List.append_assoc]
  refine List.Perm.append_left l ?_
  exact era_perm h
theorem rg_nat {n : Nat} : rgV 0 n = (nI (List.range n)).map V.int := by
  unfold rgV
  rw [List.map_map, Int.sub_zero, Int.toNat_natCast]
  refine List.map_congr_left fun i _ => ?_
  show V.int (0 + (i : Int)) = V.int (i : Int)
  rw [Int.zero_add]
section
variable {P : Program} {w : World} {K : PySem.W.Frag} {mg : Str → Option Value} {base : Heap} {a : Ad}
def spOrd : Sp := fun vs H Q _ => ∃ (p c : Addr) (n : Nat), vs = [.ref p, .int n] ∧ HandAt H p c ∧ n ≤ 10 ∧ ∀ q (l : List Nat) H', Fr p H H' → HandAt H' p c → H' q = some (.lst ((nI l).map V.int)) → q ≠ p → H q = none → l.Perm (List.range n) → Q (.ref q) H'
def ivOrd (H : Hp) (p c d t : Addr) (n : Nat) : Nat → L2.St → Hp → Prop := fun i σ H' => ∃ (lv lt : List Nat) (v4 : Option V), σ = [some (.ref p), some (.int n), some (.ref d), some (.ref t), v4] ∧ Fr p H H' ∧ HandAt H' p c ∧ H' d = some (.lst ((nI lv).map V.int)) ∧ H' t = some (.lst ((nI lt).map V.int)) ∧ (lt ++ lv).Perm (List.range n) ∧ lt.length = i
theorem ok_law_order (T : Txt K mg a) : FnOk P w K mg base CX0 3 a.f_law_order a.d_law_order ["_law_hand_here", "_law_many"] spOrd := by
  refine T.F_law_order.ok sc_law_order (fun vs H Q E h => ?_) (fun cdv A outer s H vs Q E hr h => ?_)
  · obtain ⟨_, _, _, rfl, _⟩ := h
    rfl
  · obtain ⟨p, c, n, rfl, hh, hn, k⟩ := h
    refine ⟨_, (pss_cons (ps_set (i := 2) sc_law_order.nd rfl (by first | exact Or.inl rfl | exact Or.inr rfl) (pe_listRg (by rfl) (by rfl) T.z_list (prg_1 (by rfl) T.z_range (pv 1))))
  (pss_cons (ps_set (i := 3) sc_law_order.nd rfl (by first | exact Or.inl rfl | exact Or.inr rfl) (pe_lst pa_nil))
  (pss_cons (ps_for PassesOwn.never rfl (pi_range1 (by rfl) T.z_range (pa_cons (pv 1) pa_nil)) (pg_name (i := 4) sc_law_order.nd rfl (by first | exact Or.inl rfl | exact Or.inr rfl)) (pss_one (ps_expr (pe_bm PySem.F.plainAttrs_list PySem.F.slot_list_append PySem.F.type_list_append mt_append (pv 3) (pa_cons (pe_bm PySem.F.plainAttrs_list PySem.F.slot_list_pop PySem.F.type_list_pop mt_popAt (pv 2) (pa_cons (pe_call (ok_law_take T) (hr.mono (by decide)) rfl T.m_law_take T.F_law_take.kp T.b_law_take .nil pass0 (pa_cons (pv 0) (pa_cons (pe_callB call_len_seq (by rfl) T.z_len (by decide +kernel) (pa_cons (pv 2) pa_nil)) pa_nil))) pa_nil)) pa_nil)))))
  (pss_one (ps_ret (pv 3)))))), ?_⟩
    walk_at "sm"
    refine ⟨_, rfl, _, rfl, by unfold RgOk; omega, fun d hd => ⟨sz (by decide), fun t ht => ?_⟩⟩
    obtain ⟨g1, g2, g3⟩ := hand_new (o := .lst (rgV 0 n)) (Fr.refl H) hh hd
    obtain ⟨g4, g5, g6⟩ := hand_new (o := .lst []) g1 g2 ht
    have dt : d ≠ t := fun z => by rw [← z, upd_same] at ht; cases ht
    have ht0 : H t = none := by rw [upd_ne (Ne.symm dt)] at ht; exact ht
    refine ⟨_, rfl, _, rfl, by omega, by omega, for_range (lo := 0) (n := (n : Int).toNat) (ivOrd H p c d t n) ⟨List.range n, [], none, rfl, g4, g5, ?_, upd_same, List.Perm.refl _, rfl⟩ ?_ ?_⟩
    · rw [upd_ne dt, upd_same, rg_nat]
    · rintro i σ HX hi ⟨lv, lt, v4, rfl, f1, f2, f3, f4, f5, f6⟩
      have ll := f5.length_eq
      rw [List.length_append, List.length_range] at ll
      walk_at "sm"
      refine ⟨.inl ⟨rfl, _, SqL.of f4⟩, .inl ⟨rfl, _, SqL.of f3⟩, _, .inl (SqL.of f3), p, c, _, rfl, f2, by rw [nI_len]; omega, by rw [nI_len]; omega, fun r H2 r1 r2 f7 f8 => ?_⟩
      rw [nI_len] at r2
      obtain ⟨e, rfl⟩ : ∃ e : Nat, r = e := ⟨r.toNat, by omega⟩
      have el : e < lv.length := by omega
      have f3' := f7 _ _ g3 f3
      have f4' := f7 _ _ g6 f4
      refine ⟨d, _, (e : Int), e, .int (lv[e] : Nat), rfl, rfl, f3', by omega, by omega, seqIx (by rw [nI_len]; exact el), at_nat (List.getElem?_eq_getElem el), ?_⟩
      have f9 : upd H2 d (.lst (((nI lv).map V.int).eraseIdx e)) t = some (.lst ((nI lt).map V.int)) := by rw [upd_ne (Ne.symm dt)]; exact f4'
      refine ⟨t, _, _, rfl, rfl, f9, by rw [nI_len, sizeLine_eq]; omega, lv.eraseIdx e, lt ++ [lv[e]], _, rfl, ?_, ?_, ?_, ?_, ?_, ?_⟩
      · refine fun b u nb hb => ?_
        have hbd : b ≠ d := ne_of_none hb hd
        have hbt : b ≠ t := ne_of_none hb ht0
        rw [upd_ne hbt, upd_ne hbd]
        exact f7 _ _ nb (f1 b u nb hb)
      · exact (f8.upd g3 (hh.lc hd)).upd g6 (hh.lc ht0)
      · rw [upd_ne dt, upd_same, nI_erase]
      · rw [upd_same, nI_snoc]
      · exact (perm_move (List.getElem?_eq_getElem el)).trans f5
      · rw [List.length_append, f6]
        rfl
    · rintro σ HX ⟨lv, lt, v4, rfl, f1, f2, f3, f4, f5, f6⟩
      have ll := f5.length_eq
      rw [List.length_append, List.length_range] at ll
      have : lv = [] := List.length_eq_zero_iff.mp (by omega)
      subst this
      rw [List.append_nil] at f5
      exact ⟨_, rfl, k t lt HX f1 f2 f4 g6 ht0 f5⟩
end


/-! ### places told anew -/
theorem AfAt.app {HX : Hp} {D c : Addr} {ls : List Addr} {f : Nat → List Nat} {l : List Nat} (h : AfAt HX D ls f) (hc : HX c = none) : AfAt (upd (upd HX c (.lst ((nI l).map V.int))) D (.lst ((ls ++ [c]).map V.ref))) D (ls ++ [c]) (fun x => if x = ls.length then l else f x) := by
  obtain ⟨h1, h2, h3, h4⟩ := h
  have nc : ∀ d ∈ ls, d ≠ c := fun d hd z => by
    obtain ⟨q, hq⟩ := List.mem_iff_getElem?.mp hd
    have := h4 q d hq
    rw [z, hc] at this
    cases this
  have nD : D ≠ c := fun z => by rw [← z, h1] at hc; cases hc
  refine ⟨upd_same, List.nodup_append.mpr ⟨h2, List.nodup_cons.mpr ⟨List.not_mem_nil, List.nodup_nil⟩, fun d hd e he => by rw [List.mem_singleton.mp he]; exact nc d hd⟩, fun z => ?_, fun q d hd => ?_⟩
  · rcases List.mem_append.mp z with z | z
    · exact h3 z
    · exact nD (List.mem_singleton.mp z)
  · by_cases hq : q < ls.length
    · rw [List.getElem?_append_left hq] at hd
      have m := List.mem_of_getElem? hd
      show upd _ D _ d = some (.lst ((nI (if q = ls.length then l else f q)).map V.int))
      rw [upd_ne (fun z => h3 (by rw [← z]; exact m)), upd_ne (nc d m), if_neg (by omega)]
      exact h4 q d hd
    · have ql : q = ls.length := by
        have := (List.getElem?_eq_some_iff.mp hd).1
        rw [List.length_append] at this
        simp at this
        omega
      subst ql
      rw [List.getElem?_append_right (Nat.le_refl _), Nat.sub_self] at hd
      have : c = d := by simpa using hd
      subst this
      show upd _ D _ c = some (.lst ((nI (if ls.length = ls.length then l else f ls.length)).map V.int))
      rw [upd_ne (Ne.symm nD), upd_same, if_pos rfl]
theorem AfAt.put {HX : Hp} {t d : Addr} {ts : List Addr} {g : Nat → List Nat} {l : List Nat} {k : Nat} (h : AfAt HX t ts g) (hk : k < ts.length) (hd : HX d = some (.lst ((nI l).map V.int))) (h1 : d ∉ ts) (h2 : d ≠ t) : AfAt (upd HX t (.lst ((ts.map V.ref).set k (.ref d)))) t (ts.set k d) (fun x => if x = k then l else g x) := by
  obtain ⟨g1, g2, g3, g4⟩ := h
  have sm : ∀ x, x ∈ ts.set k d → x = d ∨ x ∈ ts := fun x hx => by
    rcases List.mem_or_eq_of_mem_set hx with z | z
    · exact .inr z
    · exact .inl z
  refine ⟨by rw [upd_same, List.map_set], ?_, fun z => ?_, fun q c hc => ?_⟩
  · rw [List.nodup_iff_pairwise_ne, List.pairwise_iff_getElem]
    intro i j hi hj ij
    rw [List.length_set] at hi hj
    rw [List.getElem_set, List.getElem_set]
    have nd := List.pairwise_iff_getElem.mp (List.nodup_iff_pairwise_ne.mp g2) i j hi hj ij
    split
    · split
      · omega
      · exact fun z => h1 (by rw [z]; exact List.getElem_mem hj)
    · split
      · exact fun z => h1 (by rw [← z]; exact List.getElem_mem hi)
      · exact nd
  · rcases sm t z with z | z
    · exact h2 z.symm
    · exact g3 z
  · rw [List.getElem?_set] at hc
    show upd HX t _ c = some (.lst ((nI (if q = k then l else g q)).map V.int))
    split at hc
    · next e =>
      rw [if_pos e.symm]
      obtain rfl : d = c := by
        first
          | exact Option.some.inj hc
          | (rw [if_pos hk] at hc; exact Option.some.inj hc)
      rw [upd_ne h2]
      exact hd
    · next e =>
      rw [if_neg (Ne.symm e), upd_ne (fun z => g3 (by rw [← z]; exact List.mem_of_getElem? hc))]
      exact g4 q c hc
/-- a list of lists stands when the hand draws -/
theorem AfAt.fr {H H' : Hp} {p c l : Addr} {ls : List Addr} {f : Nat → List Nat} (fr : Fr p H H') (hh : HandAt H p c) (h : AfAt H l ls f) : AfAt H' l ls f ∧ l ≠ p := by
  obtain ⟨cells, i, g, t, hp, _⟩ := hh
  have n1 : l ≠ p := fun z => by
    have e := h.1
    rw [z, hp] at e
    have e2 := HO.lst.inj (Option.some.inj e)
    match ls, e2 with
    | [], e2 => cases e2
    | [_], e2 => simp at e2
    | _ :: _ :: _, e2 => simp at e2
  have n2 : ∀ (q : Nat) (d : Addr), ls[q]? = some d → d ≠ p := fun q d hd z => by
    have e := h.2.2.2 q d hd
    rw [z, hp] at e
    have e2 := HO.lst.inj (Option.some.inj e)
    match f q, e2 with
    | [], e2 => cases e2
    | _ :: _, e2 => simp at e2
  exact ⟨⟨fr _ _ n1 h.1, h.2.1, h.2.2.1, fun q d hd => fr _ _ (n2 q d hd) (h.2.2.2 q d hd)⟩, n1⟩
def plF (pl : List Nat) (x : Nat) : Nat := (pl[x]?).getD 0
section
variable {P : Program} {w : World} {K : PySem.W.Frag} {mg : Str → Option Value} {base : Heap} {a : Ad}
def spLed : Sp := fun vs H Q _ => ∃ (p q : Addr) (ls : List Addr) (f : Nat → List Nat) (pl : List Nat) (n : Nat), vs = [.ref p, .ref q] ∧ AfAt H p ls f ∧ H q = some (.lst ((nI pl).map V.int)) ∧ pl.Perm (List.range n) ∧ ls.length = n ∧ n ≤ 10 ∧ (∀ i, i < n → (f i).Nodup ∧ ∀ x ∈ f i, x < n) ∧
  ∀ t ts g H', Evl.Ex H H' → AfAt H' t ts g → ts.length = n → (∀ i, i < n → g (plF pl i) = sb ((f i).map (plF pl))) → Q (.ref t) H'
def ivL0 (H : Hp) (D : Addr) (i : Nat) (H' : Hp) : Prop := Evl.Ex H H' ∧ ∃ ls, ls.length = i ∧ AfAt H' D ls (fun _ => []) ∧ ∀ c ∈ ls, H c = none
def ivL1 (H : Hp) (p q t : Addr) (pl : List Nat) (f : Nat → List Nat) (n : Nat) : Nat → L2.St → Hp → Prop := fun i σ H' => ∃ v3 v4 ts g, σ = [some (.ref p), some (.ref q), some (.ref t), v3, v4] ∧ Evl.Ex H H' ∧ AfAt H' t ts g ∧ ts.length = n ∧ (∀ j, j < i → g (plF pl j) = sb ((f j).map (plF pl))) ∧ ∀ c ∈ ts, H c = none
def ivL2 (H : Hp) (pl b : List Nat) (D : Addr) (i : Nat) (H' : Hp) : Prop := Evl.Ex H H' ∧ H' D = some (.lst ((nI ((b.take i).map (plF pl))).map V.int))
theorem ok_law_led (T : Txt K mg a) : FnOk P w K mg base CX0 1 a.f_law_led a.d_law_led ["_law_befores", "_law_places_here"] spLed := by
  refine T.F_law_led.ok sc_law_led (fun vs H Q E h => ?_) (fun cdv A outer s H vs Q E hr h => ?_)
  · obtain ⟨_, _, _, _, _, _, rfl, _⟩ := h
    rfl
  · obtain ⟨p, q, ls, f, pl, n, rfl, ha, hq, hpm, hls, hn, hf, k⟩ := h
    refine ⟨_, (pss_cons (ps_setLc (i := 2) (own := [("_law_place", 3)]) (g := gName 3) (tt := tYes) rfl sc_law_led.nd rfl rfl (sw_true rfl rfl rfl (by decide +kernel)) (pi_list (pv 0)) (blkOk_by (own := [("_law_place", 3)]) (N := ["_law_befores", "_law_places_here", "_law_told", "_law_place", "_law_before"]) (sc := defScope s_law_led) (by decide +kernel)) (fun _ _ _ _ _ => pg_name (i := 3) sc_law_led.nd rfl (Or.inl rfl)) (fun _ _ _ _ _ => pts_nil) (fun _ _ _ _ _ => (pe_lst pa_nil)))
  (pss_cons (ps_for PassesOwn.never rfl (pi_range1 (by rfl) T.z_range (pa_cons (pe_callB call_len_seq (by rfl) T.z_len (by decide +kernel) (pa_cons (pv 0) pa_nil)) pa_nil)) (pg_name (i := 3) sc_law_led.nd rfl (by first | exact Or.inl rfl | exact Or.inr rfl)) (pss_one (ps_asg (pe_callB cr_sortedI (by rfl) T.z_sorted (by decide +kernel) (pa_cons (pe_lc (own := [("_law_before", 4)]) (g := gName 4) (tt := tYes) rfl sc_law_led.nd (pi_list (pe_ix ix_list (pv 0) (pv 3) (fun _ _ => rfl))) (blkOk_by (own := [("_law_before", 4)]) (N := ["_law_befores", "_law_places_here", "_law_told", "_law_place", "_law_before"]) (sc := defScope s_law_led) (by decide +kernel)) (fun _ _ _ _ _ => pg_name (i := 4) sc_law_led.nd rfl (Or.inl rfl)) (fun _ _ _ _ _ => pts_nil) (fun _ _ _ _ _ => (pe_ix ix_list_b (pv 1) (pv 4) (fun _ _ => rfl)))) pa_nil)) (pg_sub (pv 2) (pe_ix ix_list (pv 1) (pv 3) (fun _ _ => rfl)) set_list (by intro _; rfl)))))
  (pss_one (ps_ret (pv 2))))), ?_⟩
    walk_at "sm"
    refine ⟨⟨_, SqL.of ha.1⟩, lcg_list (K := K) (a := p) (xs := ls.map V.ref) (ivL0 H) (fun D hD => ⟨Evl.Ex.new hD, [], rfl, ⟨upd_same, List.nodup_nil, List.not_mem_nil, fun q c h => by simp at h⟩, fun c h => by simp at h⟩) (fun D i HX hD hi h => SqL.of (h.1 _ _ ha.1)) ?_ ?_⟩
    · rintro D i x HX hD hi ⟨f1, us, f2, f3, f4⟩
      walk_at "sm"
      have li := (List.getElem?_eq_some_iff.mp hi).1
      rw [List.length_map] at li
      refine ⟨Nat.zero_le _, fun c hc => ?_⟩
      have eC := Evl.Ex.new (o := .lst []) hc
      refine ⟨_, eC _ _ f3.1, Nat.lt_of_le_of_lt (show _ ≤ 200 by rw [List.length_map]; omega) (by decide), Evl.Ex.mut (f1.trans eC) hD, us ++ [c], by rw [List.length_append, f2]; rfl, ?_, ?_⟩
      · have ap := f3.app (l := []) hc
        rw [List.map_append] at ap
        exact ap.same fun q _ => by split <;> rfl
      · intro d hd
        rcases List.mem_append.mp hd with z | z
        · exact f4 d z
        · rw [List.mem_singleton.mp z]
          exact Evl.fresh_back f1 hc
    · rintro D HX hD ⟨f1, us, f2, f3, f4⟩
      walk_at "sm"
      rw [List.length_map] at f2
      have pl_len : pl.length = n := by rw [hpm.length_eq, List.length_range]
      have pl_lt : ∀ x, x < n → plF pl x < n := fun x hx => by
        have : plF pl x ∈ pl := by
          unfold plF
          rw [List.getElem?_eq_getElem (by omega)]
          exact List.getElem_mem _
        exact List.mem_range.mp (hpm.mem_iff.mp this)
      have pl_nd : pl.Nodup := hpm.nodup_iff.mpr List.nodup_range
      have pl_inj : ∀ x y, x < n → y < n → plF pl x = plF pl y → x = y := fun x y hx hy e => by
        unfold plF at e
        rw [List.getElem?_eq_getElem (by omega), List.getElem?_eq_getElem (by omega)] at e
        exact (List.getElem_inj pl_nd).mp e
      have pl_at : ∀ x, x < n → pl[x]? = some (plF pl x) := fun x hx => by
        unfold plF
        rw [List.getElem?_eq_getElem (by omega)]
        rfl
      refine ⟨_, rfl, p, rfl, ls.map V.ref, .inl (SqL.of (f1 _ _ ha.1)), _, rfl, by omega, by rw [List.length_map]; omega, for_range (lo := 0) (n := (((ls.map V.ref).length : Nat) : Int).toNat) (ivL1 H p q D pl f n) ⟨none, none, us, fun _ => [], rfl, f1, f3, by omega, fun j hj => absurd hj (Nat.not_lt_zero _), f4⟩ ?_ ?_⟩
      · rintro i σ HY hi ⟨v3, v4, ts, g, rfl, g1, g2, g3, g4, g5⟩
        have hi2 : i < n := by rw [List.length_map] at hi; omega
        rw [show (0 : Int) + (i : Int) = ((i : Nat) : Int) by omega]
        obtain ⟨c, hc⟩ : ∃ c, ls[i]? = some c := ⟨_, List.getElem?_eq_getElem (by omega)⟩
        have hcY := g1 _ _ (ha.2.2.2 i c hc)
        have hqY := g1 _ _ hq
        obtain ⟨fn, fl⟩ := hf i hi2
        have flen : (f i).length ≤ n := by
          have := fn.length_le_of_subset (fun x hx => List.mem_range.mpr (fl x hx) : f i ⊆ List.range n)
          rwa [List.length_range] at this
        walk_at "sm"
        refine ixl (SqL.of (g1 _ _ ha.1)) (atI_nat (by rw [List.getElem?_map, hc]; rfl)) ⟨c, rfl, ⟨_, SqL.of hcY⟩, lcg_list (K := K) (a := c) (xs := (nI (f i)).map V.int) (ivL2 HY pl (f i)) (fun E0 hE => ⟨Evl.Ex.new hE, upd_same⟩) (fun E0 j HZ hE hj h => SqL.of (h.1 _ _ hcY)) ?_ ?_⟩
        · rintro E0 j x HZ hE hj ⟨h1, h2⟩
          obtain ⟨b, hb, rfl⟩ := nat_at hj
          have bn := fl b (List.mem_of_getElem? hb)
          have jl := (List.getElem?_eq_some_iff.mp hb).1
          walk_at "sm"
          refine ixl (SqL.of (h1 _ _ hqY)) (atI_nat (nI_get (pl_at b bn))) ⟨_, h2, by rw [nI_len, List.length_map, List.length_take, sizeLine_eq]; omega, h1.mut hE, ?_⟩
          rw [upd_same, List.take_succ, hb, Option.toList_some, List.map_append, nI_app]
          rfl
        · rintro E0 HZ hE ⟨h1, h2⟩
          rw [nI_len, List.take_length] at h2
          have e1 := g1.trans h1
          have lt2 : ∀ x ∈ (f i).map (plF pl), x < 200 := fun x hx => by
            obtain ⟨y, hy, rfl⟩ := List.mem_map.mp hx
            have := pl_lt y (fl y hy)
            omega
          have nd2 : ((f i).map (plF pl)).Nodup := by
            rw [List.Nodup, List.pairwise_map]
            exact fn.imp_of_mem fun hx hy z w => z (pl_inj _ _ (fl _ hx) (fl _ hy) w)
          refine ⟨E0, nI ((f i).map (plF pl)), rfl, SqL.of h2, fun ns d pm pw hd => ?_⟩
          have en := sb_uniq lt2 nd2 pm pw
          subst en
          have e2 := Evl.Ex.new (o := .lst ((nI (sb ((f i).map (plF pl)))).map V.int)) hd
          have e3 := e1.trans e2
          refine ixl (SqL.of (e3 _ _ hq)) (atI_nat (nI_get (pl_at i hi2))) ?_
          have g2' := g2.ex (h1.trans e2)
          have dts : d ∉ ts := fun z => by
            obtain ⟨u, hu⟩ := List.mem_iff_getElem?.mp z
            have := (g2.ex h1).2.2.2 u d hu
            rw [hd] at this
            cases this
          have dD : d ≠ D := fun z => by
            have := (g2.ex h1).1
            rw [← z, hd] at this
            cases this
          have kl : plF pl i < ts.length := by rw [g3]; exact pl_lt i hi2
          have pu := g2'.put kl (l := sb ((f i).map (plF pl))) upd_same dts dD
          refine ⟨D, _, _, plF pl i, rfl, rfl, g2'.1, Evl.ixN_nat (by rw [List.length_map]; exact kl), _, _, ts.set (plF pl i) d, _, rfl, ?_, pu, by rw [List.length_set]; exact g3, fun j hj => ?_, fun x hx => ?_⟩
          · exact Evl.Ex.mut e3 hD
          · show (if plF pl j = plF pl i then _ else g (plF pl j)) = _
            rcases Nat.lt_or_eq_of_le (Nat.le_of_lt_succ hj) with z | rfl
            · rw [if_neg fun w => by have := pl_inj j i (by omega) hi2 w; omega]
              exact g4 j z
            · rw [if_pos rfl]
          · rcases List.mem_or_eq_of_mem_set hx with z | z
            · exact g5 x z
            · rw [z]
              exact Evl.fresh_back e1 hd
      · rintro σ HY ⟨v3, v4, ts, g, rfl, g1, g2, g3, g4, g5⟩
        exact ⟨_, rfl, k D ts g HY g1 g2 g3 fun i hi => g4 i (by rw [List.length_map]; omega)⟩
end


/-! ### numberings -/
structure WebOk (bs : List (List Nat)) (e : Nat) : Prop where
  ok : BefOk bs
  ac : Acy bs
  rd : Roads bs e
  lt : e < bs.length
/-- arrows go forward, each place but the last has an after -/
structure Fwd (n : Nat) (f : Nat → List Nat) : Prop where
  asc : ∀ i, i < n → (f i).Pairwise (· < ·)
  low : ∀ i, i < n → ∀ x ∈ f i, x < i
  aft : ∀ q, q + 1 < n → ∃ i, i < n ∧ q ∈ f i
theorem asc_len {n : Nat} {l : List Nat} (h : l.Pairwise (· < ·)) (hl : ∀ x ∈ l, x < n) : l.length ≤ n := by
  have nd : l.Nodup := h.imp fun z => Nat.ne_of_lt z
  have := nd.length_le_of_subset (fun x hx => List.mem_range.mpr (hl x hx) : l ⊆ List.range n)
  rwa [List.length_range] at this
theorem row_rg {n : Nat} {g : Nat → List Nat} {i : Nat} (h : i < n) : row ((List.range n).map g) i = g i := by
  unfold row
  rw [List.getElem?_map, List.getElem?_range h]
  rfl
theorem get_rg {n : Nat} {g : Nat → List Nat} {i : Nat} (h : i < n) : ((List.range n).map g)[i]? = some (g i) := by
  rw [List.getElem?_map, List.getElem?_range h]
  rfl
theorem web_ok {n : Nat} {f g : Nat → List Nat} {pl : List Nat} (h1 : 1 ≤ n) (h2 : n ≤ 10) (hf : Fwd n f) (hpm : pl.Perm (List.range n)) (hg : ∀ i, i < n → g (plF pl i) = sb ((f i).map (plF pl))) : WebOk ((List.range n).map g) (plF pl (n - 1)) := by
  have pl_len : pl.length = n := by rw [hpm.length_eq, List.length_range]
  have pl_lt : ∀ x, x < n → plF pl x < n := fun x hx => by
    have : plF pl x ∈ pl := by
      unfold plF
      rw [List.getElem?_eq_getElem (by omega)]
      exact List.getElem_mem _
    exact List.mem_range.mp (hpm.mem_iff.mp this)
  have pl_nd : pl.Nodup := hpm.nodup_iff.mpr List.nodup_range
  have pl_inj : ∀ x y, x < n → y < n → plF pl x = plF pl y → x = y := fun x y hx hy e => by
    unfold plF at e
    rw [List.getElem?_eq_getElem (by omega), List.getElem?_eq_getElem (by omega)] at e
    exact (List.getElem_inj pl_nd).mp e
  have pl_sur : ∀ k, k < n → ∃ i, i < n ∧ plF pl i = k := fun k hk => by
    obtain ⟨i, hi⟩ := List.mem_iff_getElem?.mp (hpm.mem_iff.mpr (List.mem_range.mpr hk))
    have li := (List.getElem?_eq_some_iff.mp hi).1
    exact ⟨i, by omega, by unfold plF; rw [hi]; rfl⟩
  have lt2 : ∀ i, i < n → ∀ x ∈ (f i).map (plF pl), x < 200 := fun i hi x hx => by
    obtain ⟨y, hy, rfl⟩ := List.mem_map.mp hx
    have := pl_lt y (Nat.lt_trans (hf.low i hi y hy) hi)
    omega
  have mem : ∀ i, i < n → ∀ k, k ∈ g (plF pl i) ↔ ∃ x, x ∈ f i ∧ plF pl x = k := fun i hi k => by
    rw [hg i hi, sb_mem (lt2 i hi), List.mem_map]
  have rowg : ∀ k, k < n → row ((List.range n).map g) k = g k := fun k hk => row_rg hk
  refine ⟨⟨by rw [List.length_map, List.length_range]; exact h1, by rw [List.length_map, List.length_range]; omega, fun k b hb => ?_⟩, ?_, ?_, by rw [List.length_map, List.length_range]; exact pl_lt _ (by omega)⟩
  · have lk := (List.getElem?_eq_some_iff.mp hb).1
    rw [List.length_map, List.length_range] at lk
    rw [get_rg lk] at hb
    obtain rfl := Option.some.inj hb
    obtain ⟨i, hi, rfl⟩ := pl_sur k lk
    have asc : (g (plF pl i)).Pairwise (· < ·) := by
      rw [hg i hi]
      exact sb_lt _
    have lo : ∀ x ∈ g (plF pl i), x < n ∧ x ≠ plF pl i := fun x hx => by
      obtain ⟨y, hy, rfl⟩ := (mem i hi x).mp hx
      have yi := hf.low i hi y hy
      exact ⟨pl_lt y (by omega), fun z => by have := pl_inj y i (by omega) hi z; omega⟩
    refine ⟨asc, fun x hx => by rw [List.length_map, List.length_range]; exact lo x hx, ?_⟩
    have := asc_len asc fun x hx => (lo x hx).1
    omega
  · refine ⟨fun k => pl.idxOf k, fun k x hx => ?_⟩
    have lk : k < n := by
      by_cases c : k < n
      · exact c
      · unfold row at hx
        rw [List.getElem?_eq_none (by rw [List.length_map, List.length_range]; omega)] at hx
        cases hx
    rw [rowg k lk] at hx
    obtain ⟨i, hi, rfl⟩ := pl_sur k lk
    obtain ⟨y, hy, rfl⟩ := (mem i hi x).mp hx
    have yi := hf.low i hi y hy
    have ix : ∀ j, j < n → pl.idxOf (plF pl j) = j := fun j hj => by
      have : plF pl j = pl[j]'(by omega) := by
        unfold plF
        rw [List.getElem?_eq_getElem (by omega)]
        rfl
      rw [this]
      exact pl_nd.idxOf_getElem _ _
    show pl.idxOf (plF pl y) < pl.idxOf (plF pl i)
    rw [ix y (by omega), ix i hi]
    exact yi
  · have go : ∀ d q, q < n → n - 1 - q ≤ d → q = n - 1 ∨ Rc ((List.range n).map g) 0 (plF pl (n - 1)) (plF pl q) := by
      intro d
      induction d with
      | zero => exact fun q hq hd => .inl (by omega)
      | succ d ih =>
        intro q hq hd
        by_cases c : q = n - 1
        · exact .inl c
        · right
          obtain ⟨i, hi, hqi⟩ := hf.aft q (by omega)
          have qi := hf.low i hi q hqi
          have e1 := get_rg (g := g) (pl_lt i hi)
          have e2 := (mem i hi (plF pl q)).mpr ⟨q, hqi, rfl⟩
          rcases ih i hi (by omega) with z | z
          · subst z
            exact .one e1 e2 (Nat.zero_testBit _)
          · exact .more z e1 e2 (Nat.zero_testBit _)
    intro k hk
    rw [List.length_map, List.length_range] at hk
    obtain ⟨q, hq, rfl⟩ := pl_sur k hk
    rcases go (n - 1 - q) q hq (Nat.le_refl _) with z | z
    · subst z
      exact .inl rfl
    · exact .inr z
theorem plF_rg {n x : Nat} (h : x < n) : plF (List.range n) x = x := by
  unfold plF
  rw [List.getElem?_range h]
  rfl
theorem web_ok0 {n : Nat} {f : Nat → List Nat} (h1 : 1 ≤ n) (h2 : n ≤ 10) (hf : Fwd n f) : WebOk ((List.range n).map f) (n - 1) := by
  have := web_ok (g := f) h1 h2 hf (List.Perm.refl _) fun i hi => by
    rw [plF_rg hi, show (f i).map (plF (List.range n)) = f i from (List.map_congr_left fun x hx => plF_rg (by have := hf.low i hi x hx; omega)).trans (List.map_id _)]
    exact (asc_self (fun x hx => by have := hf.low i hi x hx; omega) (hf.asc i hi)).symm
  rwa [plF_rg (by omega)] at this
/-- a web told as a pair: the lists of befores, the end -/
def LwAt (H : Hp) (v : V) (n : Nat) (bs : List (List Nat)) (e : Nat) : Prop := ∃ t l ls f, v = .ref t ∧ H t = some (.tup [.ref l, .int e]) ∧ AfAt H l ls f ∧ ls.length = n ∧ bs = (List.range n).map f
section
variable {P : Program} {w : World} {K : PySem.W.Frag} {mg : Str → Option Value} {base : Heap} {a : Ad}
def spTr : Sp := fun vs H Q _ => ∃ (p c : Addr) (n : Nat) (b : Bool), vs = [.ref p, .int n, .bl b] ∧ HandAt H p c ∧ 1 ≤ n ∧ n ≤ 8 ∧ ∀ v bs e H', Fr p H H' → HandAt H' p c → LwAt H' v n bs e → WebOk bs e → Q v H'
theorem web_end0 {H HY : Hp} {p c D q : Addr} {n : Nat} {ls : List Addr} {f : Nat → List Nat} {Q : VK} (k : ∀ v bs e H', Fr p H H' → HandAt H' p c → LwAt H' v n bs e → WebOk bs e → Q v H') (m1 : Fr p H HY) (m2 : HandAt HY p c) (m3 : AfAt HY D ls f) (m4 : ls.length = n) (m5 : Fwd n f) (h1 : 1 ≤ n) (h8 : n ≤ 8) (hq : HY q = none) :
    Q (.ref q) (upd HY q (HO.tup [V.ref D, V.int ((n : Int) - 1)])) := by
  obtain ⟨g1, g2, g3⟩ := hand_new (o := HO.tup [V.ref D, V.int ((n : Int) - 1)]) m1 m2 hq
  refine k _ _ (n - 1) _ g1 g2 ⟨q, D, ls, f, rfl, ?_, m3.ex (Evl.Ex.new hq), m4, rfl⟩ (web_ok0 h1 (by omega) m5)
  rw [upd_same, show ((n - 1 : Nat) : Int) = (n : Int) - 1 by omega]
theorem web_end {H HY : Hp} {p c D : Addr} {n : Nat} {ls : List Addr} {f : Nat → List Nat} {Q : VK} (k : ∀ v bs e H', Fr p H H' → HandAt H' p c → LwAt H' v n bs e → WebOk bs e → Q v H') (m1 : Fr p H HY) (m2 : HandAt HY p c) (m3 : AfAt HY D ls f) (m4 : ls.length = n) (m5 : Fwd n f) (h1 : 1 ≤ n) (h8 : n ≤ 8) :
    spOrd [V.ref p, V.int (n : Nat)] HY (fun x H1 => spLed [V.ref D, x] H1 (fun x_1 H1 => rIxL K x (V.int ((n : Int) - 1)) H1 fun x H1 => 0 + 1 + 1 ≤ sizeLine ∧ ∀ (p : Addr), H1 p = none → Q (V.ref p) (upd H1 p (HO.tup [x_1, x]))) E0) E0 := by
  refine ⟨p, c, n, rfl, m2, by omega, fun q pl H1 f1 g1 hq _ _ pm => ?_⟩
  obtain ⟨a1, a2⟩ := m3.fr f1 m2
  have pl_len : pl.length = n := by rw [pm.length_eq, List.length_range]
  refine ⟨D, q, ls, f, pl, n, rfl, a1, hq, pm, m4, by omega, fun i hi => ⟨(m5.asc i hi).imp fun z => Nat.ne_of_lt z, fun x hx => by have := m5.low i hi x hx; omega⟩, fun t ts g H2 e2 at2 l2 hg => ?_⟩
  have wk := web_ok h1 (by omega) m5 pm hg
  refine ixl (SqL.of (e2 _ _ hq)) (v := .int (plF pl (n - 1) : Nat)) (by rw [show (n : Int) - 1 = ((n - 1 : Nat) : Int) by omega]; exact atI_nat (nI_get (by unfold plF; rw [List.getElem?_eq_getElem (by omega)]; rfl))) ⟨sz (by decide), fun z hz => ?_⟩
  obtain ⟨g3, g4, g5⟩ := hand_new (o := HO.tup [V.ref t, V.int (plF pl (n - 1) : Nat)]) ((m1.trans f1).trans (Fr.of e2)) (g1.go e2) hz
  exact k _ _ (plF pl (n - 1)) _ g3 g4 ⟨z, t, ts, g, rfl, upd_same, at2.ex (Evl.Ex.new hz), l2, rfl⟩ wk
def mdT (H : Hp) (p c D : Addr) (n : Nat) (b : Bool) (v5 : Option V) : L2.St → Hp → Prop := fun σ H' => ∃ v4 ls f, σ = [some (.ref p), some (.int n), some (.bl b), some (.ref D), v4, v5] ∧ Fr p H H' ∧ HandAt H' p c ∧ AfAt H' D ls f ∧ ls.length = n ∧ Fwd n f
def ivT1 (H : Hp) (p c D : Addr) (ls : List Addr) (n : Nat) (b : Bool) : Nat → L2.St → Hp → Prop := fun i σ H' => ∃ v4 f, σ = [some (.ref p), some (.int n), some (.bl b), some (.ref D), v4, none] ∧ Fr p H H' ∧ HandAt H' p c ∧ AfAt H' D ls f ∧ (∀ j, j < n → (f j).Pairwise (· < ·) ∧ ∀ x ∈ f j, x < i ∧ x < j) ∧ ∀ q, q < i → ∃ j, j < n ∧ q ∈ f j
theorem ok_law_tree (T : Txt K mg a) : FnOk P w K mg base CX0 4 a.f_law_tree a.d_law_tree ["_law_hand_here", "_law_many", "_law_mixed_here"] spTr := by
  refine T.F_law_tree.ok sc_law_tree (fun vs H Q E h => ?_) (fun cdv A outer s H vs Q E hr h => ?_)
  · obtain ⟨_, _, _, _, rfl, _⟩ := h
    rfl
  · obtain ⟨p, c, n, b, rfl, ha, h1, h8, k⟩ := h
    refine ⟨_, (pss_cons (ps_setLc (i := 3) (own := [("_law_place", 4)]) (g := gName 4) (tt := tYes) rfl sc_law_tree.nd rfl rfl (sw_true rfl rfl rfl (by decide +kernel)) (pi_range1 (by rfl) T.z_range (pa_cons (pv 1) pa_nil)) (blkOk_by (own := [("_law_place", 4)]) (N := ["_law_hand_here", "_law_many", "_law_mixed_here", "_law_befores", "_law_place", "_law_places_here"]) (sc := defScope s_law_tree) (by decide +kernel)) (fun _ _ _ _ _ => pg_name (i := 4) sc_law_tree.nd rfl (Or.inl rfl)) (fun _ _ _ _ _ => pts_nil) (fun _ _ _ _ _ => (pe_lst pa_nil)))
  (Evl.pss_cut (ps_for PassesOwn.never rfl (pi_range1 (by rfl) T.z_range (pa_cons (pe_op op_sub (pv 1) pe_int) pa_nil)) (pg_name (i := 4) sc_law_tree.nd rfl (by first | exact Or.inl rfl | exact Or.inr rfl)) (pss_one (ps_expr (pe_bm PySem.F.plainAttrs_list PySem.F.slot_list_append PySem.F.type_list_append mt_append (pe_ix ix_list (pv 3) (pe_op op_add (pe_op op_add (pv 4) pe_int) (pe_call (ok_law_take T) (hr.mono (by decide)) rfl T.m_law_take T.F_law_take.kp T.b_law_take .nil pass0 (pa_cons (pv 0) (pa_cons (pe_op op_sub (pe_op op_sub (pv 1) pe_int) (pv 4)) pa_nil)))) (fun _ _ => rfl)) (pa_cons (pv 4) pa_nil)))))
  (Evl.pss_cut (ps_if (pt_not (pt_val (pv 2))) (pss_one (ps_ret (pe_tup (pa_cons (pv 3) (pa_cons (pe_op op_sub (pv 1) pe_int) pa_nil)))))
    pss_nil)
  (pss_cons (ps_set (i := 5) sc_law_tree.nd rfl (by first | exact Or.inl rfl | exact Or.inr rfl) (pe_call (ok_law_order T) (hr.mono (by decide)) rfl T.m_law_order T.F_law_order.kp T.b_law_order .nil pass0 (pa_cons (pv 0) (pa_cons (pv 1) pa_nil))))
  (pss_one (ps_ret (pe_tup (pa_cons (pe_call (ok_law_led T) (hr.mono (by decide)) rfl T.m_law_led T.F_law_led.kp T.b_law_led .nil pass0 (pa_cons (pv 3) (pa_cons (pv 5) pa_nil))) (pa_cons (pe_ix ix_list (pv 5) (pe_op op_sub (pv 1) pe_int) (fun _ _ => rfl)) pa_nil))))))))), ?_⟩
    walk_at "sm"
    refine ⟨by omega, by omega, lcg_range (lo := 0) (n := (n : Int).toNat) (ivL0 H) (fun D hD => ⟨Evl.Ex.new hD, [], rfl, ⟨upd_same, List.nodup_nil, List.not_mem_nil, fun q c h => by simp at h⟩, fun c h => by simp at h⟩) ?_ ?_⟩
    · rintro D i HX hD hi ⟨f1, us, f2, f3, f4⟩
      walk_at "sm"
      refine ⟨Nat.zero_le _, fun d hd => ?_⟩
      have eC := Evl.Ex.new (o := .lst []) hd
      refine ⟨_, eC _ _ f3.1, Nat.lt_of_le_of_lt (show _ ≤ 200 by rw [List.length_map]; omega) (by decide), Evl.Ex.mut (f1.trans eC) hD, us ++ [d], by rw [List.length_append, f2]; rfl, ?_, ?_⟩
      · have ap := f3.app (l := []) hd
        rw [List.map_append] at ap
        exact ap.same fun q _ => by split <;> rfl
      · intro x hx
        rcases List.mem_append.mp hx with z | z
        · exact f4 x z
        · rw [List.mem_singleton.mp z]
          exact Evl.fresh_back f1 hd
    · rintro D HX hD ⟨f1, ls, f2, f3, f4⟩
      rw [Int.toNat_natCast] at f2
      refine ⟨mdT H p c D n b none, ?_, fun σ HY ⟨v4, ls, f, e1, m1, m2, m3, m4, m5⟩ => ⟨mdT H p c D n b none, ?_, fun σ HY ⟨v4, ls, f, e1, m1, m2, m3, m4, m5⟩ => ?_⟩⟩
      · refine ⟨_, rfl, _, _, rfl, rfl, _, rfl, by omega, by omega, for_range (lo := 0) (n := ((n : Int) - 1).toNat) (ivT1 H p c D ls n b) ⟨none, _, rfl, Fr.of f1, ha.go f1, f3, fun j hj => ⟨List.Pairwise.nil, fun x hx => nomatch hx⟩, fun q hq => absurd hq (Nat.not_lt_zero _)⟩ ?_ ?_⟩
        · rintro i σ HY hi ⟨v4, f, rfl, g1, g2, g3, g4, g5⟩
          rw [show (0 : Int) + (i : Int) = ((i : Nat) : Int) by omega]
          walk_at "sm"
          have hi2 : i + 1 < n := by omega
          refine ⟨p, c, _, rfl, g2, by omega, by omega, fun r H2 r1 r2 f7 f8 => ⟨_, rfl, ?_⟩⟩
          obtain ⟨j, hj⟩ : ∃ j : Nat, (i : Int) + 1 + r = (j : Int) := ⟨i + 1 + r.toNat, by omega⟩
          rw [hj]
          have jn : j < n := by omega
          have ij : i < j := by omega
          obtain ⟨a1, a2⟩ := g3.fr f7 g2
          obtain ⟨d, hd⟩ : ∃ d, ls[j]? = some d := ⟨_, List.getElem?_eq_getElem (by omega)⟩
          have hd2 := a1.2.2.2 j d hd
          have dn := f4 d (List.mem_of_getElem? hd)
          obtain ⟨as1, as2⟩ := g4 j jn
          have len := asc_len as1 fun x hx => (as2 x hx).2
          refine ixl (SqL.of a1.1) (atI_nat (by rw [List.getElem?_map, hd]; rfl)) ⟨(show tyV K "list" (.ref d) H2 from .inl ⟨rfl, _, SqL.of hd2⟩), d, _, _, rfl, rfl, hd2, by rw [nI_len, sizeLine_eq]; omega, ?_⟩
          have kp := a1.push (v := i) hd
          rw [nI_snoc] at kp
          refine ⟨_, _, rfl, (g1.trans f7).mut dn, f8.upd (ha.lt dn) (ha.lc dn), kp, fun l hl => ?_, fun q hq => ?_⟩
          · obtain ⟨b1, b2⟩ := g4 l hl
            show (if l = j then f l ++ [i] else f l).Pairwise (· < ·) ∧ ∀ x ∈ (if l = j then f l ++ [i] else f l), x < i + 1 ∧ x < l
            by_cases e : l = j
            · rw [if_pos e]
              refine ⟨List.pairwise_append.mpr ⟨b1, List.pairwise_singleton .., fun x hx y hy => ?_⟩, fun x hx => ?_⟩
              · rw [List.mem_singleton.mp hy]
                exact (b2 x hx).1
              · rcases List.mem_append.mp hx with z | z
                · have := b2 x z
                  omega
                · rw [List.mem_singleton.mp z]
                  omega
            · rw [if_neg e]
              exact ⟨b1, fun x hx => by have := b2 x hx; omega⟩
          · rcases Nat.lt_or_eq_of_le (Nat.le_of_lt_succ hq) with z | rfl
            · obtain ⟨l, l1, l2⟩ := g5 q z
              refine ⟨l, l1, ?_⟩
              show q ∈ (if l = j then f l ++ [i] else f l)
              split
              · exact List.mem_append_left _ l2
              · exact l2
            · refine ⟨j, jn, ?_⟩
              show q ∈ (if j = j then f j ++ [q] else f j)
              rw [if_pos rfl]
              exact List.mem_append_right _ List.mem_cons_self
        · rintro σ HY ⟨v4, f, rfl, g1, g2, g3, g4, g5⟩
          exact ⟨_, ls, f, rfl, g1, g2, g3, f2, fun j hj => (g4 j hj).1, fun j hj x hx => ((g4 j hj).2 x hx).2, fun q hq => g5 q (by omega)⟩
      · subst e1
        walk_at "sm"
        cases b with
        | true => exact iteF ⟨v4, ls, f, rfl, m1, m2, m3, m4, m5⟩
        | false => exact iteT ⟨sz (by decide), fun q hq => web_end0 k m1 m2 m3 m4 m5 h1 h8 hq⟩
      · subst e1
        walk_at "sm"
        exact web_end k m1 m2 m3 m4 m5 h1 h8
end


/-! ### webs drawn by share -/
theorem AfAt.app2 {HX : Hp} {D c : Addr} {ls : List Addr} {f : Nat → List Nat} {l : List Nat} (h : AfAt HX D ls f) (hc : HX c = some (.lst ((nI l).map V.int))) (nc : c ∉ ls) (nD : c ≠ D) : AfAt (upd HX D (.lst ((ls ++ [c]).map V.ref))) D (ls ++ [c]) (fun x => if x = ls.length then l else f x) := by
  obtain ⟨h1, h2, h3, h4⟩ := h
  refine ⟨upd_same, List.nodup_append.mpr ⟨h2, List.nodup_cons.mpr ⟨List.not_mem_nil, List.nodup_nil⟩, fun d hd e he => by rw [List.mem_singleton.mp he]; exact fun z => nc (by rw [← z]; exact hd)⟩, fun z => ?_, fun q d hd => ?_⟩
  · rcases List.mem_append.mp z with z | z
    · exact h3 z
    · exact nD (List.mem_singleton.mp z).symm
  · by_cases hq : q < ls.length
    · rw [List.getElem?_append_left hq] at hd
      have m := List.mem_of_getElem? hd
      show upd _ D _ d = some (.lst ((nI (if q = ls.length then l else f q)).map V.int))
      rw [upd_ne (fun z => h3 (by rw [← z]; exact m)), if_neg (by omega)]
      exact h4 q d hd
    · have ql : q = ls.length := by
        have := (List.getElem?_eq_some_iff.mp hd).1
        rw [List.length_append] at this
        simp at this
        omega
      subst ql
      rw [List.getElem?_append_right (Nat.le_refl _), Nat.sub_self] at hd
      have : c = d := by simpa using hd
      subst this
      show upd _ D _ c = some (.lst ((nI (if ls.length = ls.length then l else f ls.length)).map V.int))
      rw [upd_ne nD, if_pos rfl]
      exact hc
theorem inV_mem {n : Nat} {b : List Nat} : inV (.int n) ((nI b).map V.int) = decide (n ∈ b) := by
  by_cases h : n ∈ b
  · rw [decide_eq_true h]
    obtain ⟨i, hi⟩ := List.mem_iff_getElem?.mp h
    exact List.any_eq_true.mpr ⟨.int n, List.mem_of_getElem? (nI_get hi), by simp [eqV]⟩
  · rw [decide_eq_false h]
    exact inV_nat h
theorem AfAt.fresh {HX : Hp} {D c : Addr} {ls : List Addr} {f : Nat → List Nat} (h : AfAt HX D ls f) (hc : HX c = none) : c ∉ ls ∧ c ≠ D := by
  refine ⟨fun z => ?_, fun z => ?_⟩
  · obtain ⟨u, hu⟩ := List.mem_iff_getElem?.mp z
    have := h.2.2.2 u c hu
    rw [hc] at this
    cases this
  · have := h.1
    rw [← z, hc] at this
    cases this
section
variable {P : Program} {w : World} {K : PySem.W.Frag} {mg : Str → Option Value} {base : Heap} {a : Ad}
def spBr : Sp := fun vs H Q _ => ∃ (p c : Addr) (n s : Nat) (b : Bool), vs = [.ref p, .int n, .int s, .bl b] ∧ HandAt H p c ∧ 1 ≤ n ∧ n ≤ 8 ∧ 1 ≤ s ∧ s ≤ 10 ∧ ∀ v bs e H', Fr p H H' → HandAt H' p c → LwAt H' v n bs e → WebOk bs e → Q v H'
def ivD0 (H : Hp) (p c D : Addr) (i : Nat) (H' : Hp) : Prop := Fr p H H' ∧ HandAt H' p c ∧ ∃ ls f, ls.length = i ∧ AfAt H' D ls f ∧ ∀ j, j < i → (f j).Pairwise (· < ·) ∧ ∀ x ∈ f j, x < j
def ivDI (H : Hp) (p c E : Addr) (i : Nat) (H' : Hp) : Prop := Fr p H H' ∧ HandAt H' p c ∧ E ≠ p ∧ ∃ l, H' E = some (.lst ((nI l).map V.int)) ∧ l.Pairwise (· < ·) ∧ ∀ x ∈ l, x < i
def mdD (H : Hp) (p c D : Addr) (n s : Nat) (b : Bool) : L2.St → Hp → Prop := fun σ H' => ∃ v5 v6 ls f, σ = [some (.ref p), some (.int n), some (.int s), some (.bl b), some (.ref D), v5, v6, none, none] ∧ Fr p H H' ∧ HandAt H' p c ∧ AfAt H' D ls f ∧ ls.length = n ∧ Fwd n f
def ivD1 (H : Hp) (p c D : Addr) (n s : Nat) (b : Bool) : Nat → L2.St → Hp → Prop := fun i σ H' => ∃ v5 v6 ls f, σ = [some (.ref p), some (.int n), some (.int s), some (.bl b), some (.ref D), v5, v6, none, none] ∧ Fr p H H' ∧ HandAt H' p c ∧ AfAt H' D ls f ∧ ls.length = n ∧ (∀ j, j < n → (f j).Pairwise (· < ·) ∧ ∀ x ∈ f j, x < j) ∧ ∀ q, q < i → ∃ j, j < n ∧ q ∈ f j
def ivDA (H : Hp) (f : Nat → List Nat) (i : Nat) (E : Addr) (j : Nat) (H' : Hp) : Prop := Evl.Ex H H' ∧ H' E = some (.lst (((List.range j).map fun k => decide (i ∈ f (i + 1 + k))).map V.bl))
theorem ok_law_bare (T : Txt K mg a) : FnOk P w K mg base CX0 4 a.f_law_bare a.d_law_bare ["_law_hand_here", "_law_many", "_law_share", "_law_mixed_here"] spBr := by
  refine T.F_law_bare.ok sc_law_bare (fun vs H Q E h => ?_) (fun cdv A outer s H vs Q E hr h => ?_)
  · obtain ⟨_, _, _, _, _, rfl, _⟩ := h
    rfl
  · obtain ⟨p, c, n, s, b, rfl, ha, h1, h8, s1, s10, k⟩ := h
    refine ⟨_, (pss_cons (ps_set (i := 4) sc_law_bare.nd rfl (by first | exact Or.inl rfl | exact Or.inr rfl) (pe_lc (own := [("_law_place", 5)]) (g := gName 5) (tt := tYes) rfl sc_law_bare.nd (pi_range1 (by rfl) T.z_range (pa_cons (pv 1) pa_nil)) (blkOk_by (own := [("_law_place", 5)]) (N := ["_law_hand_here", "_law_many", "_law_share", "_law_mixed_here", "_law_befores", "_law_place", "_law_later", "_law_places_here", "_law_before"]) (sc := defScope s_law_bare) (by decide +kernel)) (fun _ _ _ _ _ => pg_name (i := 5) sc_law_bare.nd rfl (Or.inl rfl)) (fun _ _ _ _ _ => pts_nil) (fun _ _ _ _ _ => (pe_lc (own := [("_law_before", 8)]) (g := gName 8)  rfl sc_law_bare.nd (pi_range1 (by rfl) T.z_range (pa_cons (pv 5) pa_nil)) (by (show BlkOk ["_law_hand_here", "_law_many", "_law_share", "_law_mixed_here", "_law_befores", "_law_place", "_law_later", "_law_places_here", "_law_before"] ⟨_, _, _, _, _⟩ _ _); exact blkOk_by (by first | rfl | kernel_rfl)) (fun _ _ _ _ _ => pg_name (i := 8) sc_law_bare.nd rfl (Or.inl rfl)) (fun _ _ _ _ _ => (pts_one (pt_cmpR op_eq (pe_call (ok_law_take T) (hr.mono (by decide)) rfl T.m_law_take T.F_law_take.kp T.b_law_take .nil pass0 (pa_cons (pv 0) (pa_cons (pv 2) pa_nil))) pe_int (nomark _)))) (fun _ _ _ _ _ => (pv 8))))) (by first | rfl | kernel_rfl))
  (Evl.pss_cut (ps_for PassesOwn.never rfl (pi_range1 (by rfl) T.z_range (pa_cons (pe_op op_sub (pv 1) pe_int) pa_nil)) (pg_name (i := 5) sc_law_bare.nd rfl (by first | exact Or.inl rfl | exact Or.inr rfl)) (pss_one (ps_if (pt_not (pt_val (pe_callB (cr_any rfl) (by rfl) T.z_any (by decide +kernel) (pa_cons (pe_lc (own := [("_law_later", 6)]) (g := gName 6) (tt := tYes) rfl sc_law_bare.nd (pi_range2 (by rfl) T.z_range (pa_cons (pe_op op_add (pv 5) pe_int) (pa_cons (pv 1) pa_nil))) (blkOk_by (own := [("_law_later", 6)]) (N := ["_law_hand_here", "_law_many", "_law_share", "_law_mixed_here", "_law_befores", "_law_place", "_law_later", "_law_places_here", "_law_before"]) (sc := defScope s_law_bare) (by decide +kernel)) (fun _ _ _ _ _ => pg_name (i := 6) sc_law_bare.nd rfl (Or.inl rfl)) (fun _ _ _ _ _ => pts_nil) (fun _ _ _ _ _ => (pe_cmpR op_in_seq_b (pv 5) (pe_ix ix_list_b (pv 4) (pv 6) (fun _ _ => rfl)) (by rfl)))) pa_nil)))) (pss_cons (ps_set (i := 6) sc_law_bare.nd rfl (by first | exact Or.inl rfl | exact Or.inr rfl) (pe_op op_add (pe_op op_add (pv 5) pe_int) (pe_call (ok_law_take T) (hr.mono (by decide)) rfl T.m_law_take T.F_law_take.kp T.b_law_take .nil pass0 (pa_cons (pv 0) (pa_cons (pe_op op_sub (pe_op op_sub (pv 1) pe_int) (pv 5)) pa_nil)))))
  (pss_one (ps_asg (pe_callB cr_sortedI (by rfl) T.z_sorted (by decide +kernel) (pa_cons (pe_op op_cat (pe_ix ix_list (pv 4) (pv 6) (fun _ _ => rfl)) (pe_lst (pa_cons (pv 5) pa_nil))) pa_nil)) (pg_sub (pv 4) (pv 6) set_list (by intro _; rfl)))))
    pss_nil)))
  (Evl.pss_cut (ps_if (pt_not (pt_val (pv 3))) (pss_one (ps_ret (pe_tup (pa_cons (pv 4) (pa_cons (pe_op op_sub (pv 1) pe_int) pa_nil)))))
    pss_nil)
  (pss_cons (ps_set (i := 7) sc_law_bare.nd rfl (by first | exact Or.inl rfl | exact Or.inr rfl) (pe_call (ok_law_order T) (hr.mono (by decide)) rfl T.m_law_order T.F_law_order.kp T.b_law_order .nil pass0 (pa_cons (pv 0) (pa_cons (pv 1) pa_nil))))
  (pss_one (ps_ret (pe_tup (pa_cons (pe_call (ok_law_led T) (hr.mono (by decide)) rfl T.m_law_led T.F_law_led.kp T.b_law_led .nil pass0 (pa_cons (pv 4) (pa_cons (pv 7) pa_nil))) (pa_cons (pe_ix ix_list (pv 7) (pe_op op_sub (pv 1) pe_int) (fun _ _ => rfl)) pa_nil))))))))), ?_⟩
    walk_at "sm"
    refine ⟨by omega, by omega, lcg_range (lo := 0) (n := (n : Int).toNat) (ivD0 H p c) (fun D hD => ?_) ?_ ?_⟩
    · obtain ⟨g1, g2, g3⟩ := hand_new (o := .lst []) (Fr.refl H) ha hD
      exact ⟨g1, g2, [], fun _ => [], rfl, ⟨upd_same, List.nodup_nil, List.not_mem_nil, fun q c h => by simp at h⟩, fun j hj => absurd hj (Nat.not_lt_zero _)⟩
    · rintro D i HX hD hi ⟨g1, g2, ls, f, g3, g4, g5⟩
      rw [show (0 : Int) + (i : Int) = ((i : Nat) : Int) by omega]
      walk_at "sm"
      refine ⟨by omega, by omega, lcg_range (lo := 0) (n := (i : Int).toNat) (ivDI HX p c) (fun E hE => ?_) ?_ ?_⟩
      · obtain ⟨k1, k2, k3⟩ := hand_new (o := .lst []) (Fr.refl HX) g2 hE
        exact ⟨k1, k2, k3, [], upd_same, .nil, fun x hx => nomatch hx⟩
      · rintro E j HY hE hj ⟨k1, k2, k3, l, k4, k5, k6⟩
        rw [show (0 : Int) + (j : Int) = ((j : Nat) : Int) by omega]
        walk_at "sm"
        refine ⟨p, c, _, rfl, k2, by omega, by omega, fun r H2 r1 r2 f7 f8 => ⟨rfl, ?_⟩⟩
        have k4' := f7 _ _ k3 k4
        have ll := asc_len k5 k6
        by_cases rz : r = 0
        · refine iteP (by rw [rz]) ⟨_, k4', by rw [nI_len, sizeLine_eq]; omega, ?_, ?_, k3, l ++ [j], by rw [upd_same, nI_snoc], ?_, ?_⟩
          · exact (k1.trans f7).mut hE
          · exact f8.upd (g2.lt hE) (g2.lc hE)
          · refine List.pairwise_append.mpr ⟨k5, List.pairwise_singleton .., fun x hx y hy => ?_⟩
            rw [List.mem_singleton.mp hy]
            exact k6 x hx
          · intro x hx
            rcases List.mem_append.mp hx with z | z
            · have := k6 x z
              omega
            · rw [List.mem_singleton.mp z]
              omega
        · exact iteN (fun z => rz (V.int.inj z)) ⟨k1.trans f7, f8, k3, l, k4', k5, fun x hx => by have := k6 x hx; omega⟩
      · rintro E HY hE ⟨k1, k2, k3, l, k4, k5, k6⟩
        rw [Int.toNat_natCast] at k6
        obtain ⟨a1, a2⟩ := g4.fr k1 g2
        obtain ⟨n1, n2⟩ := g4.fresh hE
        have hdD : D ≠ p := a2
        refine ⟨_, a1.1, by rw [List.length_map, sizeLine_eq]; omega, (g1.trans k1).mut hD, k2.upd (ha.lt hD) (ha.lc hD), ls ++ [E], (fun x => if x = ls.length then l else f x), by rw [List.length_append, g3]; rfl, ?_, fun j hj => ?_⟩
        · have ap := a1.app2 k4 n1 n2
          rw [List.map_append] at ap
          exact ap
        · show (if j = ls.length then l else f j).Pairwise (· < ·) ∧ ∀ x ∈ (if j = ls.length then l else f j), x < j
          by_cases e : j = ls.length
          · rw [if_pos e]
            exact ⟨k5, fun x hx => by have := k6 x hx; omega⟩
          · rw [if_neg e]
            exact g5 j (by omega)
    · rintro D HX hD ⟨g1, g2, ls, f, g3, g4, g5⟩
      rw [Int.toNat_natCast] at g3 g5
      refine ⟨mdD H p c D n s b, ?_, fun σ HY ⟨v5, v6, ls, f, e1, m1, m2, m3, m4, m5⟩ => ⟨mdD H p c D n s b, ?_, fun σ HY ⟨v5, v6, ls, f, e1, m1, m2, m3, m4, m5⟩ => ?_⟩⟩
      · refine ⟨_, rfl, _, _, rfl, rfl, _, rfl, by omega, by omega, for_range (lo := 0) (n := ((n : Int) - 1).toNat) (ivD1 H p c D n s b) ⟨none, none, ls, f, rfl, g1, g2, g4, g3, g5, fun q hq => absurd hq (Nat.not_lt_zero _)⟩ ?_ ?_⟩
        · rintro i σ HY hi ⟨v5, v6, ls, f, rfl, u1, u2, u3, u4, u5, u6⟩
          rw [show (0 : Int) + (i : Int) = ((i : Nat) : Int) by omega]
          have hi2 : i + 1 < n := by omega
          walk_at "sm"
          have hn2 : ((n : Int) - ((i : Int) + 1)).toNat = n - (i + 1) := by omega
          refine ⟨by omega, by omega, by omega, by omega, lcg_range (lo := (i : Int) + 1) (n := ((n : Int) - ((i : Int) + 1)).toNat) (ivDA HY f i) (fun E hE => ⟨Evl.Ex.new hE, upd_same⟩) ?_ ?_⟩
          · rintro E j HZ hE hj ⟨q1, q2⟩
            rw [show (i : Int) + 1 + (j : Int) = ((i + 1 + j : Nat) : Int) by omega]
            walk_at "sm"
            obtain ⟨d, hd⟩ : ∃ d, ls[i + 1 + j]? = some d := ⟨_, List.getElem?_eq_getElem (by omega)⟩
            refine ixl (SqL.of (q1 _ _ u3.1)) (atI_nat (by rw [List.getElem?_map, hd]; rfl)) ⟨d, _, rfl, .inl (SqL.of (q1 _ _ (u3.2.2.2 _ d hd))), rfl, flat_nats _, _, q2, by rw [List.length_map, List.length_map, List.length_range, sizeLine_eq]; omega, q1.mut hE, ?_⟩
            rw [if_neg (by decide), inV_mem, upd_same, List.range_succ, List.map_append, List.map_append]
            rfl
          · rintro E HZ hE ⟨q1, q2⟩
            rw [hn2] at q2
            refine ⟨E, _, rfl, SqL.of q2, _, rfl, ?_⟩
            have u1' := u1.trans (Fr.of q1)
            have u2' := u2.go q1
            have u3' := u3.ex q1
            cases any : ((List.range (n - (i + 1))).map fun k => decide (i ∈ f (i + 1 + k))).any id with
            | true =>
              refine iteF ⟨_, _, ls, f, rfl, u1', u2', u3', u4, u5, fun q hq => ?_⟩
              rcases Nat.lt_or_eq_of_le (Nat.le_of_lt_succ hq) with z | rfl
              · exact u6 q z
              · obtain ⟨x, hx, hx2⟩ := List.any_eq_true.mp any
                obtain ⟨kx, hk, rfl⟩ := List.mem_map.mp hx
                have := List.mem_range.mp hk
                exact ⟨q + 1 + kx, by omega, of_decide_eq_true hx2⟩
            | false =>
              refine iteT ⟨p, c, _, rfl, u2', by omega, by omega, fun r H2 r1 r2 f7 f8 => ⟨_, rfl, ?_⟩⟩
              obtain ⟨j, hj⟩ : ∃ j : Nat, (i : Int) + 1 + r = (j : Int) := ⟨i + 1 + r.toNat, by omega⟩
              rw [hj]
              have jn : j < n := by omega
              have ij : i < j := by omega
              have nin : i ∉ f j := fun z => by
                have := List.any_eq_false.mp any (decide (i ∈ f (i + 1 + (j - (i + 1))))) (List.mem_map.mpr ⟨j - (i + 1), List.mem_range.mpr (by omega), rfl⟩)
                rw [show i + 1 + (j - (i + 1)) = j by omega, decide_eq_true z] at this
                exact this rfl
              obtain ⟨a1, a2⟩ := u3'.fr f7 u2'
              obtain ⟨d, hd⟩ : ∃ d, ls[j]? = some d := ⟨_, List.getElem?_eq_getElem (by omega)⟩
              have hd2 := a1.2.2.2 j d hd
              obtain ⟨as1, as2⟩ := u5 j jn
              have len := asc_len as1 as2
              refine ixl (SqL.of a1.1) (atI_nat (by rw [List.getElem?_map, hd]; rfl)) ⟨sz (by decide), fun p5 hp5 => ?_⟩
              have e5 := Evl.Ex.new (o := .lst [.int (i : Nat)]) hp5
              refine ⟨d, p5, _, _, rfl, rfl, e5 _ _ hd2, upd_same, by rw [nI_len, sizeLine_eq]; show (f j).length + 1 ≤ _; omega, fun p6 hp6 => ?_⟩
              have e6 := e5.trans (Evl.Ex.new (o := .lst ((nI (f j)).map V.int ++ [.int (i : Nat)])) hp6)
              have in200 : ∀ x ∈ f j ++ [i], x < 200 := fun x hx => by
                rcases List.mem_append.mp hx with z | z
                · have := as2 x z
                  omega
                · rw [List.mem_singleton.mp z]
                  omega
              have nd : (f j ++ [i]).Nodup := List.nodup_append.mpr ⟨as1.imp fun z => Nat.ne_of_lt z, List.nodup_cons.mpr ⟨List.not_mem_nil, List.nodup_nil⟩, fun x hx y hy => by
                rw [List.mem_singleton.mp hy]
                exact fun z => nin (by rw [← z]; exact hx)⟩
              refine ⟨p6, nI (f j ++ [i]), rfl, SqL.of (by rw [nI_snoc]; exact upd_same), fun ns p7 pm pw hp7 => ?_⟩
              have en := sb_uniq in200 nd pm pw
              subst en
              have e7 := e6.trans (Evl.Ex.new (o := .lst ((nI (sb (f j ++ [i]))).map V.int)) hp7)
              have a7 := a1.ex e7
              have hn7 := Evl.fresh_back e6 hp7
              obtain ⟨n1, n2⟩ := a1.fresh hn7
              have lk : j < ls.length := by omega
              have pu := a7.put lk (l := sb (f j ++ [i])) upd_same n1 n2
              refine ⟨D, _, _, j, rfl, rfl, a7.1, Evl.ixN_nat (by rw [List.length_map]; exact lk), _, _, ls.set j p7, _, rfl, ?_, ?_, pu, by rw [List.length_set]; exact u4, fun x hx => ?_, fun q hq => ?_⟩
              · exact ((u1'.trans f7).trans (Fr.of e7)).mut hD
              · exact (f8.go e7).upd (ha.lt hD) (ha.lc hD)
              · show (if x = j then sb (f j ++ [i]) else f x).Pairwise (· < ·) ∧ ∀ y ∈ (if x = j then sb (f j ++ [i]) else f x), y < x
                by_cases e : x = j
                · subst e
                  rw [if_pos rfl]
                  refine ⟨sb_lt _, fun y hy => ?_⟩
                  rcases List.mem_append.mp ((sb_mem in200).mp hy) with z | z
                  · exact as2 y z
                  · rw [List.mem_singleton.mp z]
                    exact ij
                · rw [if_neg e]
                  exact u5 x hx
              · have base : ∃ j', j' < n ∧ q ∈ (if j' = j then f j' ++ [i] else f j') := by
                  rcases Nat.lt_or_eq_of_le (Nat.le_of_lt_succ hq) with z | rfl
                  · obtain ⟨l, l1, l2⟩ := u6 q z
                    refine ⟨l, l1, ?_⟩
                    split
                    · exact List.mem_append_left _ l2
                    · exact l2
                  · exact ⟨j, jn, by rw [if_pos rfl]; exact List.mem_append_right _ List.mem_cons_self⟩
                obtain ⟨l, l1, l2⟩ := base
                refine ⟨l, l1, ?_⟩
                show q ∈ (if l = j then sb (f j ++ [i]) else f l)
                by_cases e : l = j
                · subst e
                  rw [if_pos rfl] at l2 ⊢
                  exact (sb_mem in200).mpr l2
                · rw [if_neg e] at l2 ⊢
                  exact l2
        · rintro σ HY ⟨v5, v6, ls, f, rfl, u1, u2, u3, u4, u5, u6⟩
          exact ⟨_, _, ls, f, rfl, u1, u2, u3, u4, fun j hj => (u5 j hj).1, fun j hj x hx => (u5 j hj).2 x hx, fun q hq => u6 q (by omega)⟩
      · subst e1
        walk_at "sm"
        cases b with
        | true => exact iteF ⟨v5, v6, ls, f, rfl, m1, m2, m3, m4, m5⟩
        | false => exact iteT ⟨sz (by decide), fun q hq => web_end0 k m1 m2 m3 m4 m5 h1 h8 hq⟩
      · subst e1
        walk_at "sm"
        exact web_end k m1 m2 m3 m4 m5 h1 h8
end


/-! ### the law's masks -/
section
variable {X : Cx}
theorem op_andNN : OpR X (binaryOp .BitAnd) (fun x y H Q => ∃ n b : Nat, x = .int n ∧ y = .int b ∧ Q (.int (n &&& b : Nat)) H) := by
  intro pins s σ H x y v u Q I r1 r2 h
  obtain ⟨n, b, rfl, rfl, q⟩ := h
  refine op_and pins s σ H _ _ v u Q I r1 r2 ⟨_, _, rfl, rfl, ?_⟩
  show Q (.int (Builtin.bitAnd (n : Int) (b : Int))) H
  have : Builtin.bitAnd (n : Int) (b : Int) = ((n &&& b : Nat) : Int) := by
    unfold Builtin.bitAnd
    rw [decide_eq_true (show (0 : Int) ≤ (n : Int) by omega), decide_eq_true (show (0 : Int) ≤ (b : Int) by omega)]
    show ((((n : Int).toNat) &&& ((b : Int).toNat) : Nat) : Int) = _
    rw [Int.toNat_natCast, Int.toNat_natCast]
  rw [this]
  exact q
theorem pi_list_b {X : Cx} {s : Shared} {H : Hp} {scope : Scope} {env : Env} {fp : List Addr} {tg l : Expr} {tl : TE} (hl : PE (X.blk s H scope env fp) l tl) : PI (X.blk s H scope env fp) tg l (iList X.K tl) := pi_list hl
theorem cr_sum_b {X : Cx} {s : Shared} {H : Hp} {scope : Scope} {env : Env} {fp : List Addr} (hc : (X.blk s H scope env fp).calm = true) : CallR (X.blk s H scope env fp) (.builtin "sum") (rSum X.K) := cr_sum hc
theorem sl_list_b {X : Cx} {s : Shared} {H : Hp} {scope : Scope} {env : Env} {fp : List Addr} : SlR (X.blk s H scope env fp) (rSlL X.K) := sl_list
end
theorem or_add : ∀ (p n : Nat), n.testBit p = false → n ||| 2 ^ p = n + 2 ^ p
  | 0, n, h => by
    have h1 : (n ||| 1) / 2 = n / 2 := by rw [Nat.or_div_two]; simp
    have h2 : (n ||| 1).testBit 0 = true := by rw [Nat.testBit_or]; simp
    rw [Nat.testBit_zero, decide_eq_true_eq] at h2
    rw [Nat.testBit_zero, decide_eq_false_iff_not] at h
    show n ||| 1 = n + 1
    omega
  | p + 1, n, h => by
    have h0 : (n / 2).testBit p = false := by rw [← Nat.testBit_succ]; exact h
    have ih := or_add p (n / 2) h0
    have h1 : (n ||| 2 ^ (p + 1)) / 2 = n / 2 ||| 2 ^ p := by
      rw [Nat.or_div_two, Nat.pow_succ, Nat.mul_div_cancel _ (by decide)]
    have h2 : (n ||| 2 ^ (p + 1)).testBit 0 = n.testBit 0 := by
      rw [Nat.testBit_or, bit_pow, decide_eq_false (by omega), Bool.or_false]
    rw [Nat.testBit_zero, Nat.testBit_zero, decide_eq_decide] at h2
    rw [Nat.pow_succ] at h1 h2 ⊢
    omega
theorem msk_app (l m : List Nat) : ∀ x, x ∉ l → msk (l ++ [x]) = msk l + 2 ^ x := fun x hx => by
  rw [msk_snoc]
  exact or_add x _ (by rw [msk_bit]; exact decide_eq_false hx)
theorem msk_sum (l : List Nat) (h : l.Nodup) : ∀ i, i ≤ l.length → ((l.take i).map fun x => 2 ^ x).sum = msk (l.take i)
  | 0, _ => rfl
  | i + 1, hi => by
    have e : l[i]? = some l[i] := List.getElem?_eq_getElem (by omega)
    have tn := take_not e h
    rw [List.take_add_one, e, Option.toList_some, List.map_append, List.sum_append, msk_sum l h i (by omega), msk_app _ [] _ tn]
    simp
theorem cutV_all (xs : List V) : cutV xs none none = xs := by
  unfold cutV
  simp [HT.sIx]
section
variable {P : Program} {w : World} {K : PySem.W.Frag} {mg : Str → Option Value} {base : Heap} {a : Ad}
theorem spTake_imp {vs : List V} {H : Hp} {Q Q' : VK} {E E' : XK} (h : spTake vs H Q E) (i : ∀ (y : Int) H', Q (.int y) H' → Q' (.int y) H') : spTake vs H Q' E' := by
  obtain ⟨p, c, m, h1, h2, h3, h4, k⟩ := h
  exact ⟨p, c, m, h1, h2, h3, h4, fun r H' r1 r2 f g => i r H' (k r H' r1 r2 f g)⟩
def spHeld : Sp := fun vs H Q _ => ∃ (m b : Nat), vs = [.int m, .int b] ∧ ∀ k : Bool, (k = true ↔ ∀ i, b.testBit i = true → m.testBit i = true) → Q (.bl k) H
theorem ok_law_held (T : Txt K mg a) : FnOk P w K mg base CX0 1 a.f_law_held a.d_law_held ["_law_mask", "_law_part"] spHeld := by
  refine T.F_law_held.ok sc_law_held (fun vs H Q E h => ?_) (fun cdv A outer s H vs Q E hr h => ?_)
  · obtain ⟨_, _, rfl, _⟩ := h
    rfl
  · obtain ⟨m, b, rfl, k⟩ := h
    refine ⟨_, (pss_one (ps_ret (pe_cmpR op_eq (pe_op op_andNN (pv 0) (pv 1)) (pv 1) (nomark _)))), ?_⟩
    walk_at "sm"
    refine ⟨m, rfl, b, rfl, ?_⟩
    refine k _ ?_
    rw [decide_eq_true_eq]
    constructor
    · intro z i hi
      have : m &&& b = b := by exact_mod_cast z
      rw [← this, Nat.testBit_and, Bool.and_eq_true] at hi
      exact hi.1
    · intro z
      have : m &&& b = b := Nat.eq_of_testBit_eq fun i => by
        rw [Nat.testBit_and]
        cases c : b.testBit i with
        | false => rw [Bool.and_false]
        | true => rw [z i c]; rfl
      rw [this]
def spMs : Sp := fun vs H Q _ => ∃ (p : Addr) (ls : List Addr) (f : Nat → List Nat) (n : Nat), vs = [.ref p] ∧ AfAt H p ls f ∧ ls.length = n ∧ n ≤ 10 ∧ (∀ i, i < n → (f i).Pairwise (· < ·) ∧ ∀ x ∈ f i, x < n) ∧ ∀ q H', Evl.Ex H H' → H' q = some (.lst ((nI ((List.range n).map fun i => msk (f i))).map V.int)) → Q (.ref q) H'
theorem ok_law_masks (T : Txt K mg a) : FnOk P w K mg base CX0 2 a.f_law_masks a.d_law_masks ["_law_befores"] spMs := by
  refine T.F_law_masks.ok sc_law_masks (fun vs H Q E h => ?_) (fun cdv A outer s H vs Q E hr h => ?_)
  · obtain ⟨_, _, _, _, rfl, _⟩ := h
    rfl
  · obtain ⟨p, ls, f, n, rfl, ha, hl, hn, hf, k⟩ := h
    refine ⟨_, (pss_one (ps_ret (pe_lc (own := [("_law_row", 1)]) (g := gName 1) (tt := tYes) rfl sc_law_masks.nd (pi_list (pv 0)) (blkOk_by (own := [("_law_row", 1)]) (N := ["_law_befores", "_law_row", "_law_before"]) (sc := defScope s_law_masks) (by decide +kernel)) (fun _ _ _ _ _ => pg_name (i := 1) sc_law_masks.nd rfl (Or.inl rfl)) (fun _ _ _ _ _ => pts_nil) (fun _ _ _ _ _ => (pe_callB (cr_sum_b rfl) (by rfl) T.z_sum (by decide +kernel) (pa_cons (pe_lc (own := [("_law_before", 2)]) (g := gName 2) (tt := tYes) rfl sc_law_masks.nd (pi_list_b (pv 1)) (by (show BlkOk ["_law_befores", "_law_row", "_law_before"] ⟨_, _, _, _, _⟩ _ _); exact blkOk_by (by first | rfl | kernel_rfl)) (fun _ _ _ _ _ => pg_name (i := 2) sc_law_masks.nd rfl (Or.inl rfl)) (fun _ _ _ _ _ => pts_nil) (fun _ _ _ _ _ => (pe_call (ok_law_two T) (hr.mono (by decide)) rfl T.m_law_two T.F_law_two.kp T.b_law_two .nil pass0 (pa_cons (pv 2) pa_nil)))) pa_nil)))))), ?_⟩
    walk_at "sm"
    have pc : ∀ l : List Nat, (l.map fun x => (2 : Int) ^ x).sum = (((l.map fun x => 2 ^ x).sum : Nat) : Int) := fun l => by
      induction l with
      | nil => rfl
      | cons x l ih =>
        rw [List.map_cons, List.map_cons, List.sum_cons, List.sum_cons, ih]
        rw [Int.natCast_add, Int.natCast_pow]
        rfl
    refine ⟨⟨_, SqL.of ha.1⟩, lcg_list (K := K) (a := p) (xs := ls.map V.ref) (fun D i H' => Evl.Ex H H' ∧ H' D = some (.lst ((nI ((List.range i).map fun i => msk (f i))).map V.int))) (fun D hD => ⟨Evl.Ex.new hD, upd_same⟩) (fun D i HX hD hi h => SqL.of (h.1 _ _ ha.1)) ?_ ?_⟩
    · rintro D i x HX hD hi ⟨f1, f2⟩
      obtain ⟨d, hd, rfl⟩ : ∃ d, ls[i]? = some d ∧ x = .ref d := by
        rw [List.getElem?_map] at hi
        cases e : ls[i]? with
        | none => rw [e] at hi; cases hi
        | some c => rw [e] at hi; exact ⟨c, rfl, (Option.some.inj hi).symm⟩
      have li := (List.getElem?_eq_some_iff.mp hd).1
      have hdX := f1 _ _ (ha.2.2.2 i d hd)
      obtain ⟨fa, fb⟩ := hf i (by omega)
      have fl := asc_len fa fb
      walk_at "sm"
      refine ⟨⟨_, SqL.of hdX⟩, lcg_list (K := K) (a := d) (xs := (nI (f i)).map V.int) (fun E j H' => Evl.Ex HX H' ∧ H' E = some (.lst ((((f i).take j).map fun x => (2 : Int) ^ x).map V.int))) (fun E hE => ⟨Evl.Ex.new hE, upd_same⟩) (fun E j HY hE hj h => SqL.of (h.1 _ _ hdX)) ?_ ?_⟩
      · rintro E j x HY hE hj ⟨h1, h2⟩
        obtain ⟨b, hb, rfl⟩ := nat_at hj
        have bn := fb b (List.mem_of_getElem? hb)
        have jl := (List.getElem?_eq_some_iff.mp hb).1
        walk_at "sm"
        refine ⟨b, rfl, by omega, _, h2, by rw [List.length_map, List.length_map, List.length_take, sizeLine_eq]; omega, h1.mut hE, ?_⟩
        rw [upd_same, List.take_succ, hb, Option.toList_some, List.map_append, List.map_append]
        rfl
      · rintro E HY hE ⟨h1, h2⟩
        rw [nI_len, List.take_length] at h2
        have e1 := f1.trans h1
        refine ⟨E, _, rfl, SqL.of h2, _, h1 _ _ f2, by rw [nI_len, List.length_map, List.length_range, sizeLine_eq]; rw [hl] at li; omega, e1.mut hD, ?_⟩
        have := msk_sum (f i) (fa.imp fun z => Nat.ne_of_lt z) (f i).length (Nat.le_refl _)
        rw [List.take_length] at this
        rw [pc, this, upd_same, List.range_succ, List.map_append, nI_app]
        rfl
    · rintro D HX hD ⟨f1, f2⟩
      rw [List.length_map, hl] at f2
      exact k D HX f1 f2
theorem bare_fin {HX : Hp} {D x dx : Addr} {bs : List (List Nat)} {e : Nat} {R : VK} {E : XK} (hw : WebOk bs e) (ar : ArrG HX D bs) (hx : HX x = none) (hdx : HX dx = none) (ne : dx ≠ x) (k : ∀ H', Evl.Ex HX H' → BareAt a.c_Bare H' x bs e → R .non H') :
    spBI a [V.ref x, .ref D, V.int (e : Nat)] (upd (upd HX dx (HO.own x)) x (HO.ins a.c_Bare dx [])) R E := by
  obtain ⟨g1, g2⟩ := hw.ok.g
  have e1 := Evl.Ex.new (o := HO.own x) hdx
  have hx1 : upd HX dx (HO.own x) x = none := by rw [upd_ne (Ne.symm ne)]; exact hx
  have e2 := e1.trans (Evl.Ex.new (o := HO.ins a.c_Bare dx []) hx1)
  refine ⟨x, dx, D, bs, e, rfl, upd_same, ar.go (Kp.ex e2), g1, by rw [g2]; exact hw.ac, hw.lt, by rw [g2]; exact hw.rd, fun H' f hB => ?_⟩
  rw [g2] at hB
  exact k H' (e1.trans (Fr.ex hx1 f)) hB
end


/-! ### the game of moves (pure) -/
def tg (m p : Nat) : Nat := m ^^^ 2 ^ p
theorem tg_bit (m p x : Nat) : (tg m p).testBit x = (m.testBit x ^^ decide (x = p)) := by
  unfold tg
  rw [Nat.testBit_xor, bit_pow]
theorem tg_tg (m p : Nat) : tg (tg m p) p = m := Nat.eq_of_testBit_eq fun i => by
  rw [tg_bit, tg_bit]
  cases m.testBit i <;> cases decide (i = p) <;> rfl
theorem tg_add {m p : Nat} (h : m.testBit p = false) : tg m p = m ||| 2 ^ p := Nat.eq_of_testBit_eq fun i => by
  rw [tg_bit, bit_add]
  by_cases e : i = p
  · subst e
    rw [h]
    simp
  · rw [decide_eq_false e]
    cases m.testBit i <;> rfl
theorem tg_lt {m p n : Nat} (h : m < 2 ^ n) (hp : p < n) : tg m p < 2 ^ n := Nat.xor_lt_two_pow h (Nat.pow_lt_pow_right (by decide) hp)
theorem or_up {m p : Nat} (h : m.testBit p = false) : m < m ||| 2 ^ p := by
  refine Nat.lt_of_le_of_ne Nat.left_le_or fun z => ?_
  have : (m ||| 2 ^ p).testBit p = true := by rw [bit_add, decide_eq_true rfl, Bool.or_true]
  rw [← z, h] at this
  cases this
theorem tg_up {m p : Nat} (h : m.testBit p = false) : m < tg m p := by rw [tg_add h]; exact or_up h
theorem tg_dn {m p : Nat} (h : m.testBit p = true) : tg m p < m := by
  have e : (tg m p).testBit p = false := by rw [tg_bit, h, decide_eq_true rfl]; rfl
  have := tg_up e
  rw [tg_tg] at this
  exact this
def hld (bs : List (List Nat)) (m p : Nat) : Bool := (row bs p).all fun x => m.testBit x
def pcs (n m : Nat) : List Nat := (List.range n).filter fun p => m.testBit p
def pc (n m : Nat) : Nat := (pcs n m).length
theorem pcs_nd (n m : Nat) : (pcs n m).Nodup := ((range_lt _).imp fun z => Nat.ne_of_lt z).filter _
theorem pcs_mem {n m p : Nat} : p ∈ pcs n m ↔ p < n ∧ m.testBit p = true := by
  unfold pcs
  rw [List.mem_filter, List.mem_range]
theorem pc_dn {n m p : Nat} (h : m.testBit p = true) (hp : p < n) : pc n (tg m p) + 1 = pc n m := by
  have e : pcs n (tg m p) = (pcs n m).filter fun x => decide (x ≠ p) := by
    unfold pcs
    rw [List.filter_filter]
    refine List.filter_congr fun x _ => ?_
    rw [tg_bit]
    by_cases c : x = p
    · subst c
      rw [h]
      simp
    · simp [c]
  unfold pc
  rw [e]
  exact filt_one (pcs_nd n m) (pcs_mem.mpr ⟨hp, h⟩)
theorem pc_up {n m p : Nat} (h : m.testBit p = false) (hp : p < n) : pc n (tg m p) = pc n m + 1 := by
  have e : (tg m p).testBit p = true := by rw [tg_bit, h, decide_eq_true rfl]; rfl
  have := pc_dn e hp
  rw [tg_tg] at this
  exact this.symm
theorem pc_le (n m : Nat) : pc n m ≤ n := Nat.le_trans (List.length_filter_le _ _) (Nat.le_of_eq (List.length_range ..))
/-- what the program asks of a move is what the law asks -/
theorem mv_ask {n m p room : Nat} (hp : p < n) (hm : pc n m ≤ room) : (decide (tg m p < m) || decide (pc n m < room)) = decide (pc n (tg m p) ≤ room) := by
  cases h : m.testBit p with
  | true =>
    have := pc_dn h hp
    rw [decide_eq_true (tg_dn h), decide_eq_true (show pc n (tg m p) ≤ room by omega), Bool.true_or]
  | false =>
    have := pc_up h hp
    rw [decide_eq_false (Nat.not_lt.mpr (Nat.le_of_lt (tg_up h))), Bool.false_or, this]
    exact decide_eq_decide.mpr Iff.rfl
def mvs (bs : List (List Nat)) (room m : Nat) : List Nat := (List.range bs.length).filter fun p => hld bs m p && decide (pc bs.length (tg m p) ≤ room)
def nbs (bs : List (List Nat)) (room m : Nat) : List Nat := (mvs bs room m).map (tg m)
theorem mvs_mem {bs : List (List Nat)} {room m p : Nat} : p ∈ mvs bs room m ↔ p < bs.length ∧ hld bs m p = true ∧ pc bs.length (tg m p) ≤ room := by
  unfold mvs
  rw [List.mem_filter, List.mem_range, Bool.and_eq_true, decide_eq_true_eq]
theorem nbs_mem {bs : List (List Nat)} {room m x : Nat} : x ∈ nbs bs room m ↔ ∃ p, p ∈ mvs bs room m ∧ x = tg m p := by
  unfold nbs
  rw [List.mem_map]
  exact ⟨fun ⟨p, h, e⟩ => ⟨p, h, e.symm⟩, fun ⟨p, h, e⟩ => ⟨p, h, e.symm⟩⟩
theorem hld_bit {bs : List (List Nat)} {m p : Nat} : hld bs m p = true ↔ ∀ x ∈ row bs p, m.testBit x = true := by
  unfold hld
  rw [List.all_eq_true]
theorem hld_msk {bs : List (List Nat)} {m p : Nat} : (∀ i, (msk (row bs p)).testBit i = true → m.testBit i = true) ↔ hld bs m p = true := by
  rw [hld_bit]
  exact ⟨fun h x hx => h x (by rw [msk_bit]; exact decide_eq_true hx), fun h i hi => h i (by rw [msk_bit] at hi; exact of_decide_eq_true hi)⟩
/-- a move can be taken back -/
theorem mv_back {bs : List (List Nat)} {room m p : Nat} (hs : ∀ q, q ∉ row bs q) (h : p ∈ mvs bs room m) (hm : pc bs.length m ≤ room) : p ∈ mvs bs room (tg m p) := by
  obtain ⟨h1, h2, h3⟩ := mvs_mem.mp h
  refine mvs_mem.mpr ⟨h1, hld_bit.mpr fun x hx => ?_, by rw [tg_tg]; exact hm⟩
  rw [tg_bit, hld_bit.mp h2 x hx, decide_eq_false (fun z => hs p (by rw [z] at hx; exact hx))]
  rfl
/-! the search -/
def ins1 (d : Nat) (q : List (Nat × Nat)) (x : Nat) : List (Nat × Nat) := if x ∈ q.map Prod.fst then q else q ++ [(x, d)]
def insA (d : Nat) (q : List (Nat × Nat)) (xs : List Nat) : List (Nat × Nat) := xs.foldl (ins1 d) q
def rnQ (bs : List (List Nat)) (room s : Nat) : Nat → List (Nat × Nat)
  | 0 => [(s, 0)]
  | k + 1 => match (rnQ bs room s k)[k]? with
    | none => rnQ bs room s k
    | some e => insA (e.2 + 1) (rnQ bs room s k) (nbs bs room e.1)
theorem ins1_pre (d : Nat) (q : List (Nat × Nat)) (x : Nat) : ∃ t, ins1 d q x = q ++ t := by
  unfold ins1
  split
  · exact ⟨[], by simp⟩
  · exact ⟨_, rfl⟩
theorem insA_pre (d : Nat) : ∀ (xs : List Nat) (q : List (Nat × Nat)), ∃ t, insA d q xs = q ++ t
  | [], q => ⟨[], by simp [insA]⟩
  | x :: xs, q => by
    obtain ⟨t1, h1⟩ := ins1_pre d q x
    obtain ⟨t2, h2⟩ := insA_pre d xs (ins1 d q x)
    refine ⟨t1 ++ t2, ?_⟩
    show insA d (ins1 d q x) xs = _
    rw [h2, h1, List.append_assoc]
theorem insA_get {d : Nat} {xs : List Nat} {q : List (Nat × Nat)} {i : Nat} {e : Nat × Nat} (h : q[i]? = some e) : (insA d q xs)[i]? = some e := by
  obtain ⟨t, ht⟩ := insA_pre d xs q
  rw [ht, List.getElem?_append_left (List.getElem?_eq_some_iff.mp h).1]
  exact h
theorem insA_sub {d : Nat} {xs : List Nat} {q : List (Nat × Nat)} {e : Nat × Nat} (h : e ∈ q) : e ∈ insA d q xs := by
  obtain ⟨t, ht⟩ := insA_pre d xs q
  rw [ht]
  exact List.mem_append_left _ h
theorem insA_mem {d : Nat} : ∀ {xs : List Nat} {q : List (Nat × Nat)} {e : Nat × Nat}, e ∈ insA d q xs → e ∈ q ∨ (e.2 = d ∧ e.1 ∈ xs)
  | [], q, e, h => .inl h
  | x :: xs, q, e, h => by
    rcases insA_mem (xs := xs) (q := ins1 d q x) h with h | ⟨h1, h2⟩
    · unfold ins1 at h
      split at h
      · exact .inl h
      · rcases List.mem_append.mp h with h | h
        · exact .inl h
        · rw [List.mem_singleton.mp h]
          exact .inr ⟨rfl, List.mem_cons_self⟩
    · exact .inr ⟨h1, List.mem_cons_of_mem _ h2⟩
theorem insA_has {d : Nat} : ∀ {xs : List Nat} {q : List (Nat × Nat)} {x : Nat}, x ∈ xs → x ∈ (insA d q xs).map Prod.fst
  | y :: xs, q, x, h => by
    rcases List.mem_cons.mp h with e | h
    · subst e
      have : x ∈ (ins1 d q x).map Prod.fst := by
        unfold ins1
        split
        · assumption
        · rw [List.map_append]
          exact List.mem_append_right _ List.mem_cons_self
      obtain ⟨t, ht⟩ := insA_pre d xs (ins1 d q x)
      show x ∈ (insA d (ins1 d q x) xs).map Prod.fst
      rw [ht, List.map_append]
      exact List.mem_append_left _ this
    · exact insA_has (xs := xs) (q := ins1 d q y) h
theorem ins1_nd {d : Nat} {q : List (Nat × Nat)} {x : Nat} (h : (q.map Prod.fst).Nodup) : ((ins1 d q x).map Prod.fst).Nodup := by
  unfold ins1
  split
  · exact h
  · next c =>
    rw [List.map_append]
    exact List.nodup_append.mpr ⟨h, List.nodup_cons.mpr ⟨List.not_mem_nil, List.nodup_nil⟩, fun y hy z hz => by rw [List.mem_singleton.mp hz]; exact fun w => c (by have w : y = x := w; rw [← w]; exact hy)⟩
theorem insA_nd {d : Nat} : ∀ {xs : List Nat} {q : List (Nat × Nat)}, (q.map Prod.fst).Nodup → ((insA d q xs).map Prod.fst).Nodup
  | [], _, h => h
  | _ :: xs, _, h => insA_nd (xs := xs) (ins1_nd h)
structure QI (bs : List (List Nat)) (room s k : Nat) (q : List (Nat × Nat)) : Prop where
  nd : (q.map Prod.fst).Nodup
  h0 : q[0]? = some (s, 0)
  lt : ∀ e ∈ q, e.1 < 2 ^ bs.length
  srt : ∀ (i j : Nat) (e f : Nat × Nat), i ≤ j → q[i]? = some e → q[j]? = some f → e.2 ≤ f.2
  top : ∀ e : Nat × Nat, q[k]? = some e → ∀ f ∈ q, f.2 ≤ e.2 + 1
  cl : ∀ (i : Nat) (e : Nat × Nat), i < k → q[i]? = some e → ∀ x ∈ nbs bs room e.1, ∃ d', (x, d') ∈ q ∧ d' ≤ e.2 + 1
  pr : ∀ e ∈ q, e = (s, 0) ∨ ∃ f ∈ q, e.2 = f.2 + 1 ∧ e.1 ∈ nbs bs room f.1
theorem nbs_lt {bs : List (List Nat)} {room m x : Nat} (hm : m < 2 ^ bs.length) (h : x ∈ nbs bs room m) : x < 2 ^ bs.length := by
  obtain ⟨p, hp, rfl⟩ := nbs_mem.mp h
  exact tg_lt hm (mvs_mem.mp hp).1
theorem rn_qi {bs : List (List Nat)} {room s : Nat} (hs : s < 2 ^ bs.length) : ∀ k, QI bs room s k (rnQ bs room s k)
  | 0 => by
    refine ⟨List.nodup_cons.mpr ⟨List.not_mem_nil, List.nodup_nil⟩, rfl, fun e he => ?_, fun i j e f _ h1 h2 => ?_, fun e h f hf => ?_, fun i e h _ => absurd h (Nat.not_lt_zero _), fun e he => .inl (List.mem_singleton.mp he)⟩
    · rw [List.mem_singleton.mp he]
      exact hs
    · have a1 : e ∈ ([(s, 0)] : List (Nat × Nat)) := List.mem_of_getElem? h1
      rw [List.mem_singleton.mp a1]
      exact Nat.zero_le _
    · rw [List.mem_singleton.mp hf]
      exact Nat.zero_le _
  | k + 1 => by
    have I := rn_qi (room := room) hs k
    unfold rnQ
    cases c : (rnQ bs room s k)[k]? with
    | none =>
      have lk : (rnQ bs room s k).length ≤ k := List.getElem?_eq_none_iff.mp c
      refine ⟨I.nd, I.h0, I.lt, I.srt, fun e h => ?_, fun i e h hi => ?_, I.pr⟩
      · have h : (rnQ bs room s k)[k + 1]? = some e := h
        have := (List.getElem?_eq_some_iff.mp h).1
        omega
      · have hi' : (rnQ bs room s k)[i]? = some e := hi
        have := (List.getElem?_eq_some_iff.mp hi').1
        exact I.cl i e (by omega) hi
    | some a =>
      obtain ⟨m, d⟩ := a
      show QI bs room s (k + 1) (insA (d + 1) (rnQ bs room s k) (nbs bs room m))
      have hmd : (m, d) ∈ rnQ bs room s k := List.mem_of_getElem? c
      have hm := I.lt _ hmd
      have top := I.top _ c
      have all2 : ∀ f ∈ insA (d + 1) (rnQ bs room s k) (nbs bs room m), f.2 ≤ d + 1 := fun f hf => by
        rcases insA_mem hf with h | ⟨h, _⟩
        · exact top f h
        · omega
      obtain ⟨t, ht⟩ := insA_pre (d + 1) (nbs bs room m) (rnQ bs room s k)
      have new : ∀ j f, (rnQ bs room s k).length ≤ j → (insA (d + 1) (rnQ bs room s k) (nbs bs room m))[j]? = some f → f.2 = d + 1 := fun j f hj hf => by
        have nd := insA_nd (d := d + 1) (xs := nbs bs room m) I.nd
        rcases insA_mem (List.mem_of_getElem? hf) with h | ⟨h, _⟩
        · obtain ⟨i, hi⟩ := List.mem_iff_getElem?.mp h
          have li := (List.getElem?_eq_some_iff.mp hi).1
          have hi2 := insA_get (d := d + 1) (xs := nbs bs room m) hi
          have e1 : ((insA (d + 1) (rnQ bs room s k) (nbs bs room m)).map Prod.fst)[i]? = some f.1 := by rw [List.getElem?_map, hi2]; rfl
          have e2 : ((insA (d + 1) (rnQ bs room s k) (nbs bs room m)).map Prod.fst)[j]? = some f.1 := by rw [List.getElem?_map, hf]; rfl
          have := (List.getElem?_inj (List.getElem?_eq_some_iff.mp e1).1 nd).mp (e1.trans e2.symm)
          omega
        · exact h
      refine ⟨insA_nd I.nd, insA_get I.h0, fun e he => ?_, fun i j e f hij h1 h2 => ?_, fun e h f hf => ?_, fun i e h hi x hx => ?_, fun e he => ?_⟩
      · rcases insA_mem he with h | ⟨_, h⟩
        · exact I.lt e h
        · exact nbs_lt hm h
      · by_cases cj : j < (rnQ bs room s k).length
        · rw [ht, List.getElem?_append_left (by omega)] at h1
          rw [ht, List.getElem?_append_left cj] at h2
          exact I.srt i j e f hij h1 h2
        · rw [new j f (by omega) h2]
          exact all2 e (List.mem_of_getElem? h1)
      · have := all2 f hf
        have ge : d ≤ e.2 := by
          by_cases ck : k + 1 < (rnQ bs room s k).length
          · rw [ht, List.getElem?_append_left ck] at h
            exact I.srt k (k + 1) (m, d) e (by omega) c h
          · rw [new (k + 1) e (by omega) h]
            omega
        omega
      · by_cases ci : i < k
        · have li : i < (rnQ bs room s k).length := by
            have := (List.getElem?_eq_some_iff.mp c).1
            omega
          rw [ht, List.getElem?_append_left li] at hi
          obtain ⟨d', h3, h4⟩ := I.cl i e ci hi x hx
          exact ⟨d', insA_sub h3, h4⟩
        · have ei : i = k := by omega
          subst ei
          rw [insA_get c] at hi
          cases hi
          obtain ⟨f, hf, rfl⟩ := List.mem_map.mp (insA_has (d := d + 1) (q := rnQ bs room s i) hx)
          exact ⟨f.2, hf, all2 f hf⟩
      · rcases insA_mem he with h | ⟨h1, h2⟩
        · rcases I.pr e h with h | ⟨f, hf, h⟩
          · exact .inl h
          · exact .inr ⟨f, insA_sub hf, h⟩
        · exact .inr ⟨(m, d), insA_sub hmd, h1, h2⟩
theorem rn_len {bs : List (List Nat)} {room s : Nat} (hs : s < 2 ^ bs.length) (k : Nat) : (rnQ bs room s k).length ≤ 2 ^ bs.length := by
  have I := rn_qi (room := room) hs k
  have := nd_len I.nd (m := List.range (2 ^ bs.length)) fun x hx => by
    obtain ⟨e, he, rfl⟩ := List.mem_map.mp hx
    exact List.mem_range.mpr (I.lt e he)
  rw [List.length_map, List.length_range] at this
  exact this
theorem rn_stop {bs : List (List Nat)} {room s k : Nat} (h : (rnQ bs room s k).length ≤ k) : ∀ j, k ≤ j → rnQ bs room s j = rnQ bs room s k := by
  intro j
  induction j with
  | zero => intro hj; rw [Nat.le_zero.mp hj]
  | succ j ih =>
    intro hj
    by_cases e : k = j + 1
    · rw [e]
    · have := ih (by omega)
      rw [← this]
      show (match (rnQ bs room s j)[j]? with
        | none => rnQ bs room s j
        | some e => insA (e.2 + 1) (rnQ bs room s j) (nbs bs room e.1)) = _
      rw [List.getElem?_eq_none_iff.mpr (by rw [this]; omega)]
/-- what the search finds -/
def fin (bs : List (List Nat)) (room s : Nat) : List (Nat × Nat) := rnQ bs room s (2 ^ bs.length)
theorem fin_of {bs : List (List Nat)} {room s k : Nat} (hs : s < 2 ^ bs.length) (h : (rnQ bs room s k).length ≤ k) : rnQ bs room s k = fin bs room s := by
  unfold fin
  rcases Nat.le_total k (2 ^ bs.length) with c | c
  · exact (rn_stop h _ c).symm
  · exact rn_stop (rn_len hs _) _ c
def dst (q : List (Nat × Nat)) (x : Nat) : Option Nat := (q.find? fun e => decide (e.1 = x)).map Prod.snd
theorem dst_mem : ∀ {q : List (Nat × Nat)} {x d : Nat}, (q.map Prod.fst).Nodup → (dst q x = some d ↔ (x, d) ∈ q)
  | [], x, d, _ => ⟨fun h => (nomatch h), fun h => (nomatch h)⟩
  | e :: q, x, d, h => by
    obtain ⟨h1, h2⟩ := List.nodup_cons.mp h
    have ih := dst_mem (x := x) (d := d) h2
    unfold dst at ih ⊢
    rw [List.find?_cons]
    by_cases c : e.1 = x
    · rw [decide_eq_true c]
      show some e.2 = some d ↔ _
      constructor
      · intro z
        rw [← Option.some.inj z, ← c]
        exact List.mem_cons_self
      · intro z
        rcases List.mem_cons.mp z with z | z
        · rw [← z]
        · exact absurd (List.mem_map.mpr ⟨_, z, c.symm⟩) h1
    · rw [decide_eq_false c]
      show (q.find? fun e => decide (e.1 = x)).map Prod.snd = some d ↔ _
      rw [ih]
      constructor
      · exact List.mem_cons_of_mem _
      · intro z
        rcases List.mem_cons.mp z with z | z
        · rw [← z] at c
          exact absurd rfl c
        · exact z
structure FI (bs : List (List Nat)) (room s : Nat) (q : List (Nat × Nat)) : Prop where
  z : dst q s = some 0
  cl : ∀ m d, dst q m = some d → ∀ p ∈ mvs bs room m, ∃ d', dst q (tg m p) = some d' ∧ d' ≤ d + 1
  pr : ∀ x d, dst q x = some d → (x = s ∧ d = 0) ∨ ∃ m e p, dst q m = some e ∧ d = e + 1 ∧ p ∈ mvs bs room m ∧ x = tg m p
  lt : ∀ x d, dst q x = some d → x < 2 ^ bs.length
theorem fin_fi {bs : List (List Nat)} {room s : Nat} (hs : s < 2 ^ bs.length) : FI bs room s (fin bs room s) := by
  have I := rn_qi (room := room) hs (2 ^ bs.length)
  have l := rn_len (room := room) hs (2 ^ bs.length)
  refine ⟨(dst_mem I.nd).mpr (List.mem_of_getElem? I.h0), fun m d h p hp => ?_, fun x d h => ?_, fun x d h => I.lt _ ((dst_mem I.nd).mp h)⟩
  · obtain ⟨i, hi⟩ := List.mem_iff_getElem?.mp ((dst_mem I.nd).mp h)
    have li := (List.getElem?_eq_some_iff.mp hi).1
    obtain ⟨d', h1, h2⟩ := I.cl i _ (by omega) hi (tg m p) (nbs_mem.mpr ⟨p, hp, rfl⟩)
    exact ⟨d', (dst_mem I.nd).mpr h1, h2⟩
  · rcases I.pr _ ((dst_mem I.nd).mp h) with e | ⟨f, hf, h1, h2⟩
    · cases e
      exact .inl ⟨rfl, rfl⟩
    · obtain ⟨p, hp, hx⟩ := nbs_mem.mp h2
      exact .inr ⟨f.1, f.2, p, (dst_mem I.nd).mpr hf, h1, hp, hx⟩


/-! ### walks (pure) -/
def Wk (bs : List (List Nat)) (room : Nat) : Nat → List Nat → Nat → Prop
  | a, [], b => a = b
  | a, p :: ps, b => p ∈ mvs bs room a ∧ Wk bs room (tg a p) ps b
theorem Wk.app {bs : List (List Nat)} {room : Nat} : ∀ {ps qs : List Nat} {a b c : Nat}, Wk bs room a ps b → Wk bs room b qs c → Wk bs room a (ps ++ qs) c
  | [], _, _, _, _, h, k => by
    have h : _ = _ := h
    rw [h]
    exact k
  | _ :: _, _, _, _, _, ⟨h1, h2⟩, k => ⟨h1, Wk.app h2 k⟩
theorem Wk.pcr {bs : List (List Nat)} {room : Nat} : ∀ {ps : List Nat} {a b : Nat}, Wk bs room a ps b → pc bs.length a ≤ room → pc bs.length b ≤ room
  | [], _, _, h, k => by
    have h : _ = _ := h
    rw [← h]
    exact k
  | _ :: _, _, _, ⟨h1, h2⟩, _ => h2.pcr (mvs_mem.mp h1).2.2
theorem Wk.back {bs : List (List Nat)} {room : Nat} (hs : ∀ q, q ∉ row bs q) : ∀ {ps : List Nat} {a b : Nat}, Wk bs room a ps b → pc bs.length a ≤ room → Wk bs room b ps.reverse a
  | [], _, _, h, _ => by
    have h : _ = _ := h
    exact h.symm
  | p :: ps, a, b, ⟨h1, h2⟩, k => by
    rw [List.reverse_cons]
    refine Wk.app (h2.back hs (mvs_mem.mp h1).2.2) ⟨mv_back hs h1 k, ?_⟩
    rw [tg_tg]
    rfl
theorem Wk.mono {bs : List (List Nat)} {r s : Nat} (h : r ≤ s) : ∀ {ps : List Nat} {a b : Nat}, Wk bs r a ps b → Wk bs s a ps b
  | [], _, _, k => k
  | _ :: _, _, _, ⟨h1, h2⟩ => by
    obtain ⟨z1, z2, z3⟩ := mvs_mem.mp h1
    exact ⟨mvs_mem.mpr ⟨z1, z2, Nat.le_trans z3 h⟩, h2.mono h⟩
theorem wk_fin {bs : List (List Nat)} {room s : Nat} {q : List (Nat × Nat)} (F : FI bs room s q) : ∀ {ps : List Nat} {a b d : Nat}, Wk bs room a ps b → dst q a = some d → ∃ d', dst q b = some d' ∧ d' ≤ d + ps.length
  | [], _, _, d, h, k => by
    have h : _ = _ := h
    rw [← h]
    exact ⟨d, k, Nat.le_refl _⟩
  | p :: ps, a, b, d, ⟨h1, h2⟩, k => by
    obtain ⟨d1, e1, e2⟩ := F.cl a d k p h1
    obtain ⟨d2, e3, e4⟩ := wk_fin F h2 e1
    refine ⟨d2, e3, ?_⟩
    rw [List.length_cons]
    omega
theorem fin_wk {bs : List (List Nat)} {room s : Nat} {q : List (Nat × Nat)} (F : FI bs room s q) : ∀ (d : Nat) {x : Nat}, dst q x = some d → ∃ ps, ps.length = d ∧ Wk bs room s ps x
  | 0, x, h => by
    rcases F.pr x 0 h with ⟨e, _⟩ | ⟨_, _, _, _, e, _⟩
    · exact ⟨[], rfl, e.symm⟩
    · omega
  | d + 1, x, h => by
    rcases F.pr x (d + 1) h with ⟨_, e⟩ | ⟨m, e, p, h1, h2, h3, rfl⟩
    · omega
    · obtain ⟨ps, h4, h5⟩ := fin_wk F d (x := m) (by rw [h1]; congr 1; omega)
      exact ⟨ps ++ [p], by rw [List.length_append, h4]; rfl, h5.app ⟨h3, rfl⟩⟩
theorem fin_pc {bs : List (List Nat)} {room s : Nat} {q : List (Nat × Nat)} (F : FI bs room s q) (hs : pc bs.length s ≤ room) {x d : Nat} (h : dst q x = some d) : pc bs.length x ≤ room := by
  obtain ⟨ps, _, w⟩ := fin_wk F d h
  exact w.pcr hs
/-- the first place that leads nearer -/
def nrr (bs : List (List Nat)) (room : Nat) (q : List (Nat × Nat)) (m d : Nat) : Nat := ((mvs bs room m).find? fun p => decide (dst q (tg m p) = some d)).getD 0
def wyF (bs : List (List Nat)) (room : Nat) (q : List (Nat × Nat)) : Nat → Nat → List Nat
  | 0, _ => []
  | d + 1, m => nrr bs room q m d :: wyF bs room q d (tg m (nrr bs room q m d))
theorem nrr_ok {bs : List (List Nat)} {room s : Nat} {q : List (Nat × Nat)} (hw : ∀ q, q ∉ row bs q) (F : FI bs room s q) (hs : pc bs.length s ≤ room) {m d : Nat} (h : dst q m = some (d + 1)) :
    (mvs bs room m).find? (fun p => decide (dst q (tg m p) = some d)) = some (nrr bs room q m d) ∧ nrr bs room q m d ∈ mvs bs room m ∧ dst q (tg m (nrr bs room q m d)) = some d := by
  have ex : ∃ p, p ∈ mvs bs room m ∧ dst q (tg m p) = some d := by
    rcases F.pr m (d + 1) h with ⟨_, e⟩ | ⟨m', e, p, h1, h2, h3, rfl⟩
    · omega
    · refine ⟨p, mv_back hw h3 (fin_pc F hs h1), ?_⟩
      rw [tg_tg, h1]
      congr 1
      omega
  obtain ⟨p, hp, hd⟩ := ex
  cases c : (mvs bs room m).find? (fun p => decide (dst q (tg m p) = some d)) with
  | none =>
    have := List.find?_eq_none.mp c p hp
    rw [decide_eq_true hd] at this
    exact absurd rfl this
  | some p' =>
    have e : nrr bs room q m d = p' := by
      unfold nrr
      rw [c]
      rfl
    rw [e]
    have := List.find?_some c
    exact ⟨rfl, List.mem_of_find?_eq_some c, of_decide_eq_true this⟩
theorem wyF_len {bs : List (List Nat)} {room : Nat} {q : List (Nat × Nat)} : ∀ (d m : Nat), (wyF bs room q d m).length = d
  | 0, _ => rfl
  | d + 1, m => by
    show (wyF bs room q d (tg m (nrr bs room q m d))).length + 1 = d + 1
    rw [wyF_len]
theorem wyF_wk {bs : List (List Nat)} {room s : Nat} {q : List (Nat × Nat)} (hw : ∀ q, q ∉ row bs q) (F : FI bs room s q) (hs : pc bs.length s ≤ room) : ∀ (d : Nat) {m : Nat}, dst q m = some d → Wk bs room m (wyF bs room q d m) s
  | 0, m, h => by
    rcases F.pr m 0 h with ⟨e, _⟩ | ⟨_, _, _, _, e, _⟩
    · exact e
    · omega
  | d + 1, m, h => by
    obtain ⟨_, h2, h3⟩ := nrr_ok hw F hs h
    exact ⟨h2, wyF_wk hw F hs d h3⟩
/-- the least way from a to b -/
def lwy (bs : List (List Nat)) (room a b : Nat) : Option (List Nat) := if pc bs.length b ≤ room then (dst (fin bs room b) a).map fun d => wyF bs room (fin bs room b) d a else none
theorem lwy_wk {bs : List (List Nat)} {room a b : Nat} {l : List Nat} (hw : ∀ q, q ∉ row bs q) (hb : b < 2 ^ bs.length) (h : lwy bs room a b = some l) : Wk bs room a l b := by
  unfold lwy at h
  split at h
  · next c =>
    obtain ⟨d, hd, rfl⟩ := Option.map_eq_some_iff.mp h
    exact wyF_wk hw (fin_fi hb) c d hd
  · cases h
theorem lwy_least {bs : List (List Nat)} {room a b : Nat} {ps : List Nat} (hw : ∀ q, q ∉ row bs q) (hb : b < 2 ^ bs.length) (ha : pc bs.length a ≤ room) (h : Wk bs room a ps b) : ∃ l, lwy bs room a b = some l ∧ l.length ≤ ps.length := by
  have cb := h.pcr ha
  obtain ⟨d, h1, h2⟩ := wk_fin (fin_fi (room := room) hb) (h.back hw ha) (fin_fi hb).z
  refine ⟨wyF bs room (fin bs room b) d a, ?_, ?_⟩
  · unfold lwy
    rw [if_pos cb, h1]
    rfl
  · rw [wyF_len]
    rw [List.length_reverse] at h2
    omega
theorem dst_iff {bs : List (List Nat)} {room a b : Nat} (hw : ∀ q, q ∉ row bs q) (ha : a < 2 ^ bs.length) (hb : b < 2 ^ bs.length) (pa : pc bs.length a ≤ room) : (dst (fin bs room a) b).isSome = true ↔ (lwy bs room a b).isSome = true := by
  constructor
  · intro h
    obtain ⟨d, hd⟩ := Option.isSome_iff_exists.mp h
    obtain ⟨ps, _, w⟩ := fin_wk (fin_fi ha) d hd
    obtain ⟨l, hl, _⟩ := lwy_least hw hb pa w
    rw [hl]
    rfl
  · intro h
    obtain ⟨l, hl⟩ := Option.isSome_iff_exists.mp h
    obtain ⟨d, hd, _⟩ := wk_fin (fin_fi (room := room) ha) (lwy_wk hw hb hl) (fin_fi ha).z
    rw [hd]
    rfl
/-! how often a place is moved -/
theorem wk_bit {bs : List (List Nat)} {room : Nat} : ∀ {ps : List Nat} {a b : Nat}, Wk bs room a ps b → ∀ x, b.testBit x = (a.testBit x ^^ decide (ps.count x % 2 = 1))
  | [], a, b, h, x => by
    have h : a = b := h
    rw [← h]
    simp
  | p :: ps, a, b, ⟨_, h2⟩, x => by
    rw [wk_bit h2 x, tg_bit, List.count_cons]
    by_cases e : p = x
    · subst e
      rw [if_pos (by simp), decide_eq_true rfl]
      have : decide ((List.count p ps + 1) % 2 = 1) = !decide (List.count p ps % 2 = 1) := by
        by_cases c : List.count p ps % 2 = 1
        · rw [decide_eq_true c, decide_eq_false (by omega)]
          rfl
        · rw [decide_eq_false c, decide_eq_true (by omega)]
          rfl
      rw [this]
      cases a.testBit p <;> cases decide (List.count p ps % 2 = 1) <;> rfl
    · rw [if_neg (by simpa using e), decide_eq_false (fun z => e z.symm), Nat.add_zero, Bool.xor_false]
theorem wk_lt {bs : List (List Nat)} {room : Nat} : ∀ {ps : List Nat} {a b : Nat}, Wk bs room a ps b → ∀ x ∈ ps, x < bs.length
  | p :: ps, a, b, ⟨h1, h2⟩, x, hx => by
    rcases List.mem_cons.mp hx with e | hx
    · rw [e]
      exact (mvs_mem.mp h1).1
    · exact wk_lt h2 x hx
theorem wk_split {bs : List (List Nat)} {room : Nat} : ∀ {ps qs : List Nat} {a c : Nat}, Wk bs room a (ps ++ qs) c → ∃ b, Wk bs room a ps b ∧ Wk bs room b qs c
  | [], _, a, _, h => ⟨a, rfl, h⟩
  | _ :: _, _, _, _, ⟨h1, h2⟩ => by
    obtain ⟨b, h3, h4⟩ := wk_split h2
    exact ⟨b, ⟨h1, h3⟩, h4⟩
theorem sum_count {n : Nat} : ∀ {ps : List Nat}, (∀ x ∈ ps, x < n) → ((List.range n).map fun x => ps.count x).sum = ps.length
  | [], _ => by
    have : ((List.range n).map fun x => ([] : List Nat).count x) = (List.range n).map fun _ => 0 := List.map_congr_left fun _ _ => List.count_nil
    rw [this, List.map_const', List.sum_replicate_nat]
    rfl
  | p :: ps, h => by
    have ih := sum_count (ps := ps) fun x hx => h x (List.mem_cons_of_mem _ hx)
    have hp := h p List.mem_cons_self
    have : ∀ m, ((List.range m).map fun x => (p :: ps).count x).sum = ((List.range m).map fun x => ps.count x).sum + if p < m then 1 else 0 := fun m => by
      induction m with
      | zero => rfl
      | succ m ihm =>
        rw [List.range_succ, List.map_append, List.map_append, List.sum_append, List.sum_append, ihm]
        simp only [List.map_cons, List.map_nil, List.sum_cons, List.sum_nil, List.count_cons, Nat.add_zero]
        by_cases c : p = m
        · subst c
          rw [if_neg (Nat.lt_irrefl _), if_pos (by simp), if_pos (by omega)]
          omega
        · have q : (if (p == m) = true then 1 else 0) = 0 := if_neg (by simpa using c)
          rw [q]
          by_cases c2 : p < m
          · rw [if_pos c2, if_pos (by omega)]
            omega
          · rw [if_neg c2, if_neg (by omega)]
            omega
    rw [this n, ih, if_pos hp, List.length_cons]


/-! ### the curve (pure) -/
theorem zb (x : Nat) : (0 : Nat).testBit x = false := Nat.zero_testBit x
/-- what is moved: with each place its befores -/
theorem wk_down {bs : List (List Nat)} {room b : Nat} {ps : List Nat} (h : Wk bs room 0 ps b) {p x : Nat} (hp : p ∈ ps) (hx : x ∈ row bs p) : x ∈ ps := by
  obtain ⟨u, v, rfl⟩ := List.append_of_mem hp
  obtain ⟨m, h1, h2, _⟩ := wk_split h
  have hb := hld_bit.mp (mvs_mem.mp h2).2.1 x hx
  rw [wk_bit h1 x, zb] at hb
  have : List.count x u % 2 = 1 := by simpa using hb
  exact List.mem_append_left _ (List.count_pos_iff.mp (by omega))
theorem rc_down {bs : List (List Nat)} {room b e : Nat} {ps : List Nat} (h : Wk bs room 0 ps b) (he : e ∈ ps) {q : Nat} (r : Rc bs 0 e q) : q ∈ ps := by
  induction r with
  | one hb hq _ => exact wk_down h he (by unfold row; rw [hb]; exact hq)
  | more _ hb hq _ ih => exact wk_down h ih (by unfold row; rw [hb]; exact hq)
theorem wk_count {bs : List (List Nat)} {room e : Nat} {ps : List Nat} (w : WebOk bs e) (h : Wk bs room 0 ps (2 ^ e)) : ∀ x, x < bs.length → (x = e → ps.count x % 2 = 1) ∧ (x ≠ e → 2 ≤ ps.count x ∧ ps.count x % 2 = 0) := fun x hx => by
  have par : ∀ x, decide (ps.count x % 2 = 1) = decide (x = e) := fun x => by
    have := wk_bit h x
    rw [zb, bit_pow, Bool.false_xor] at this
    exact this.symm
  have he : e ∈ ps := List.count_pos_iff.mp (by
    have := par e
    rw [decide_eq_true rfl, decide_eq_true_eq] at this
    omega)
  constructor
  · intro z
    have := par x
    rw [z, decide_eq_true rfl, decide_eq_true_eq] at this
    rw [z]
    exact this
  · intro z
    have h2 := par x
    rw [decide_eq_false z, decide_eq_false_iff_not] at h2
    have h3 : x ∈ ps := by
      rcases w.rd x hx with c | c
      · exact absurd c z
      · exact rc_down h he c
    have := List.count_pos_iff.mpr h3
    omega
theorem sum_ge {n e : Nat} (he : e < n) {f : Nat → Nat} (h : ∀ x, x < n → (if x = e then 1 else 2) ≤ f x) : 2 * n - 1 ≤ ((List.range n).map f).sum ∧ (((List.range n).map f).sum = 2 * n - 1 → ∀ x, x < n → f x = if x = e then 1 else 2) := by
  have key : ∀ m, m ≤ n → ((List.range m).map fun x => if x = e then 1 else 2).sum ≤ ((List.range m).map f).sum ∧ (((List.range m).map f).sum = ((List.range m).map fun x => if x = e then 1 else 2).sum → ∀ x, x < m → f x = if x = e then 1 else 2) := by
    intro m
    induction m with
    | zero => exact fun _ => ⟨Nat.le_refl _, fun _ x hx => absurd hx (Nat.not_lt_zero _)⟩
    | succ m ih =>
      intro hm
      obtain ⟨i1, i2⟩ := ih (by omega)
      have hf := h m (by omega)
      rw [List.range_succ, List.map_append, List.map_append, List.sum_append, List.sum_append, List.map_cons, List.map_nil, List.map_cons, List.map_nil, List.sum_singleton, List.sum_singleton]
      refine ⟨by omega, fun z x hx => ?_⟩
      by_cases c : x = m
      · rw [c]
        omega
      · exact i2 (by omega) x (by omega)
  have val : ∀ m, ((List.range m).map fun x => if x = e then 1 else 2).sum + (if e < m then 1 else 0) = 2 * m := by
    intro m
    induction m with
    | zero => rfl
    | succ m ih =>
      rw [List.range_succ, List.map_append, List.sum_append, List.map_cons, List.map_nil, List.sum_singleton]
      by_cases c : m = e
      · rw [if_pos c]
        rw [if_neg (by omega)] at ih
        rw [if_pos (by omega)]
        omega
      · rw [if_neg c]
        by_cases c2 : e < m
        · rw [if_pos c2] at ih
          rw [if_pos (by omega)]
          omega
        · rw [if_neg c2] at ih
          rw [if_neg (by omega)]
          omega
  obtain ⟨k1, k2⟩ := key n (Nat.le_refl _)
  have v := val n
  rw [if_pos he] at v
  exact ⟨by omega, fun z => k2 (by omega)⟩
theorem wk_len {bs : List (List Nat)} {room e : Nat} {ps : List Nat} (w : WebOk bs e) (h : Wk bs room 0 ps (2 ^ e)) : 2 * bs.length - 1 ≤ ps.length ∧ (ps.length = 2 * bs.length - 1 → ∀ x, x < bs.length → ps.count x = if x = e then 1 else 2) := by
  have s := sum_count (wk_lt h)
  have g := sum_ge (f := fun x => ps.count x) w.lt fun x hx => by
    obtain ⟨h1, h2⟩ := wk_count w h x hx
    by_cases c : x = e
    · rw [if_pos c]
      have := h1 c
      omega
    · rw [if_neg c]
      exact (h2 c).1
  rw [s] at g
  exact g
theorem wk_odd {bs : List (List Nat)} {room e : Nat} {ps : List Nat} (w : WebOk bs e) (h : Wk bs room 0 ps (2 ^ e)) : ps.length % 2 = 1 := by
  have s := sum_count (wk_lt h)
  rw [← s]
  have key : ∀ m, m ≤ bs.length → ((List.range m).map fun x => ps.count x).sum % 2 = if e < m then 1 else 0 := by
    intro m
    induction m with
    | zero => intro _; rfl
    | succ m ih =>
      intro hm
      have ih := ih (by omega)
      obtain ⟨h1, h2⟩ := wk_count w h m (by omega)
      rw [List.range_succ, List.map_append, List.sum_append, List.map_cons, List.map_nil, List.sum_singleton, Nat.add_mod, ih]
      by_cases c : m = e
      · rw [h1 c, if_neg (by omega), if_pos (by omega)]
      · rw [(h2 c).2]
        by_cases c2 : e < m
        · rw [if_pos c2, if_pos (by omega)]
        · rw [if_neg c2, if_neg (by omega)]
  rw [key bs.length (Nat.le_refl _), if_pos w.lt]
theorem pc_all {n m : Nat} (h : ∀ x, x < n → m.testBit x = true) : pc n m = n := by
  unfold pc pcs
  rw [List.filter_eq_self.mpr fun x hx => h x (List.mem_range.mp hx), List.length_range]
/-- with less room than places it is more -/
theorem wk_more {bs : List (List Nat)} {room e : Nat} {ps : List Nat} (w : WebOk bs e) (h : Wk bs room 0 ps (2 ^ e)) (hr : room < bs.length) : 2 * bs.length - 1 < ps.length := by
  obtain ⟨l1, l2⟩ := wk_len w h
  refine Nat.lt_of_le_of_ne l1 fun z => ?_
  have cnt := l2 z.symm
  have he : e ∈ ps := List.count_pos_iff.mp (by rw [cnt e w.lt, if_pos rfl]; omega)
  obtain ⟨u, v, rfl⟩ := List.append_of_mem he
  obtain ⟨m, h1, h2, h3⟩ := wk_split h
  have bm : ∀ x, m.testBit x = decide (u.count x % 2 = 1) := fun x => by rw [wk_bit h1 x, zb, Bool.false_xor]
  have step : ∀ q x, (q = e ∨ (q < bs.length ∧ q ≠ e ∧ m.testBit q = true)) → x ∈ row bs q → x ≠ e → m.testBit x = true := fun q x hq hx hne => by
    have xl := (row_lt w.ok hx).1
    rcases hq with rfl | ⟨ql, qe, qb⟩
    · exact hld_bit.mp (mvs_mem.mp h2).2.1 x hx
    · have cq := cnt q ql
      have cx := cnt x xl
      rw [if_neg qe, List.count_append, List.count_cons_of_ne (fun z => qe z.symm)] at cq
      rw [if_neg hne, List.count_append, List.count_cons_of_ne (fun z => hne z.symm)] at cx
      rw [bm q, decide_eq_true_eq] at qb
      obtain ⟨a, b, rfl⟩ := List.append_of_mem (List.count_pos_iff.mp (show 0 < List.count q u by omega))
      obtain ⟨c, d, rfl⟩ := List.append_of_mem (List.count_pos_iff.mp (show 0 < List.count q v by omega))
      obtain ⟨m1, g1, g2, _⟩ := wk_split h1
      have b1 := hld_bit.mp (mvs_mem.mp g2).2.1 x hx
      rw [wk_bit g1 x, zb, Bool.false_xor, decide_eq_true_eq] at b1
      obtain ⟨m2, g3, g4, _⟩ := wk_split h3
      have b2 := hld_bit.mp (mvs_mem.mp g4).2.1 x hx
      rw [wk_bit g3 x, tg_bit, decide_eq_false hne, Bool.xor_false, bm x] at b2
      rw [bm x, decide_eq_true_eq]
      by_cases k : (a ++ q :: b).count x % 2 = 1
      · exact k
      · rw [decide_eq_false k, Bool.false_xor, decide_eq_true_eq] at b2
        rw [List.count_append] at k cx
        rw [List.count_append] at cx
        omega
  have all : ∀ x, Rc bs 0 e x → x ≠ e → m.testBit x = true := fun x r => by
    induction r with
    | one hb hq _ => exact fun ne => step e _ (.inl rfl) (by unfold row; rw [hb]; exact hq) ne
    | @more p b q r hb hq _ ih =>
      intro ne
      by_cases c : p = e
      · exact step p q (.inl c) (by unfold row; rw [hb]; exact hq) ne
      · exact step p q (.inr ⟨(List.getElem?_eq_some_iff.mp hb).1, c, ih c⟩) (by unfold row; rw [hb]; exact hq) ne
  have full := pc_all (n := bs.length) (m := tg m e) fun x hx => by
    rw [tg_bit]
    by_cases c : x = e
    · subst c
      have : List.count x u = 0 := by
        have cx := cnt x hx
        rw [if_pos rfl, List.count_append, List.count_cons_self] at cx
        omega
      rw [bm x, this, decide_eq_true rfl]
      rfl
    · rw [decide_eq_false c, Bool.xor_false]
      rcases w.rd x hx with z | z
      · exact absurd z c
      · exact all x z c
  have := (mvs_mem.mp h2).2.2
  omega
/-! with room for all places -/
theorem wk_fill {bs : List (List Nat)} : ∀ {o : List Nat} {a : Nat}, o.Nodup → (∀ x ∈ o, x < bs.length ∧ a.testBit x = false) → (∀ (i p : Nat), o[i]? = some p → ∀ x ∈ row bs p, a.testBit x = true ∨ x ∈ o.take i) → ∃ b, Wk bs bs.length a o b
  | [], a, _, _, _ => ⟨a, rfl⟩
  | p :: o, a, nd, h1, h2 => by
    obtain ⟨n1, n2⟩ := List.nodup_cons.mp nd
    obtain ⟨pl, pf⟩ := h1 p List.mem_cons_self
    have mv : p ∈ mvs bs bs.length a := mvs_mem.mpr ⟨pl, hld_bit.mpr fun x hx => (h2 0 p rfl x hx).resolve_right (by simp), pc_le _ _⟩
    obtain ⟨b, hb⟩ := wk_fill (o := o) (a := tg a p) n2 (fun x hx => by
      obtain ⟨k1, k2⟩ := h1 x (List.mem_cons_of_mem _ hx)
      refine ⟨k1, ?_⟩
      rw [tg_bit, k2, decide_eq_false (fun z => n1 (by rw [← z]; exact hx))]
      rfl) fun i q hq x hx => by
        rw [tg_bit]
        rcases h2 (i + 1) q hq x hx with k | k
        · left
          have : x ≠ p := fun z => by rw [z, pf] at k; cases k
          rw [k, decide_eq_false this]
          rfl
        · rw [List.take_succ_cons] at k
          rcases List.mem_cons.mp k with k | k
          · left
            rw [k, pf, decide_eq_true rfl]
            rfl
          · exact .inr k
    exact ⟨b, mv, hb⟩
theorem kah_take {bs : List (List Nat)} : ∀ (t i : Nat), i ≤ t → (kah bs t).take i = kah bs i
  | 0, i, h => by rw [Nat.le_zero.mp h]; rfl
  | t + 1, i, h => by
    by_cases e : i = t + 1
    · subst e
      exact List.take_of_length_le (Nat.le_of_eq (kah_len bs _))
    · show (kah bs t ++ [nxt bs (kah bs t)]).take i = _
      rw [List.take_append_of_le_length (by rw [kah_len]; omega), kah_take t i (by omega)]
theorem kah_at {bs : List (List Nat)} {t i p : Nat} (h : (kah bs t)[i]? = some p) : p = nxt bs (kah bs i) := by
  have li := (List.getElem?_eq_some_iff.mp h).1
  rw [kah_len] at li
  have := kah_take (bs := bs) t (i + 1) li
  have e : (kah bs (i + 1))[i]? = some p := by
    rw [← this, List.getElem?_take_of_lt (by omega)]
    exact h
  rw [show kah bs (i + 1) = kah bs i ++ [nxt bs (kah bs i)] from rfl, List.getElem?_append_right (by rw [kah_len]; exact Nat.le_refl _), kah_len, Nat.sub_self] at e
  exact (Option.some.inj e).symm
theorem wk_full {bs : List (List Nat)} {e : Nat} (w : WebOk bs e) : ∃ ps, Wk bs bs.length 0 ps (2 ^ e) ∧ ps.length = 2 * bs.length - 1 := by
  obtain ⟨n, hn⟩ : ∃ n, bs.length = n + 1 := ⟨bs.length - 1, by have := w.ok.1; omega⟩
  have K := kah_ok w.ok w.ac n (by omega)
  have bef : ∀ (i p : Nat), (kah bs n)[i]? = some p → ∀ x ∈ row bs p, x ∈ (kah bs n).take i := fun i p h x hx => by
    have li := (List.getElem?_eq_some_iff.mp h).1
    rw [kah_len] at li
    obtain ⟨_, _, h3, _⟩ := nxt_ok w.ok w.ac (os := kah bs i) (by rw [kah_len]; omega)
    rw [kah_take n i (by omega)]
    rw [kah_at h] at hx
    exact mis_zero.mp h3 x hx
  -- the end is not among the first n
  have ne : e ∉ kah bs n := fun z => by
    have all : ∀ x, x < bs.length → x ∈ kah bs n := fun x hx => by
      rcases w.rd x hx with c | c
      · rw [c]; exact z
      · clear hx
        induction c with
        | one hb hq _ => exact K.cl e z _ (by unfold row; rw [hb]; exact hq)
        | more _ hb hq _ ih => exact K.cl _ ih _ (by unfold row; rw [hb]; exact hq)
    have := nd_len (List.nodup_range (n := bs.length)) (m := kah bs n) fun x hx => all x (List.mem_range.mp hx)
    rw [List.length_range, kah_len] at this
    omega
  have al : ∀ x, x < bs.length → x ≠ e → x ∈ kah bs n := fun x hx hne => by
    by_cases c : x ∈ kah bs n
    · exact c
    · have := nd_len (l := x :: e :: kah bs n) (m := List.range bs.length) (List.nodup_cons.mpr ⟨fun z => by
        rcases List.mem_cons.mp z with z | z
        · exact hne z
        · exact c z, List.nodup_cons.mpr ⟨ne, K.nd⟩⟩) fun y hy => by
          rcases List.mem_cons.mp hy with z | hy
          · rw [z]; exact List.mem_range.mpr hx
          · rcases List.mem_cons.mp hy with z | hy
            · rw [z]; exact List.mem_range.mpr w.lt
            · exact List.mem_range.mpr (K.lt y hy)
      rw [List.length_cons, List.length_cons, kah_len, List.length_range] at this
      omega
  obtain ⟨b1, g1⟩ := wk_fill (bs := bs) (o := kah bs n) (a := 0) K.nd (fun x hx => ⟨K.lt x hx, zb x⟩) fun i p h x hx => .inr (bef i p h x hx)
  obtain ⟨b2, g2⟩ := wk_fill (bs := bs) (o := kah bs n) (a := 2 ^ e) K.nd (fun x hx => ⟨K.lt x hx, by rw [bit_pow]; exact decide_eq_false fun z => ne (by rw [← z]; exact hx)⟩) fun i p h x hx => .inr (bef i p h x hx)
  have c1 : ∀ x, (kah bs n).count x = if x ∈ kah bs n then 1 else 0 := fun x => K.nd.count
  have ee : b2 = tg b1 e := Nat.eq_of_testBit_eq fun x => by
    rw [wk_bit g2 x, tg_bit, wk_bit g1 x, zb, bit_pow, Bool.false_xor, Bool.xor_comm]
  have mv : e ∈ mvs bs bs.length b1 := by
    refine mvs_mem.mpr ⟨w.lt, hld_bit.mpr fun x hx => ?_, pc_le _ _⟩
    obtain ⟨xl, xe⟩ := row_lt w.ok hx
    rw [wk_bit g1 x, zb, c1 x, if_pos (al x xl xe)]
    rfl
  refine ⟨kah bs n ++ (e :: (kah bs n).reverse), g1.app ⟨mv, ?_⟩, by rw [List.length_append, List.length_cons, List.length_reverse, kah_len]; omega⟩
  rw [← ee]
  exact g2.back (fun q hq => (row_lt w.ok hq).2 rfl) (pc_le _ _)
/-! rooms and rows -/
def rowR_ (bs : List (List Nat)) (e r : Nat) : Option (List Nat) := lwy bs r 0 (2 ^ e)
theorem pc_zero (n : Nat) : pc n 0 = 0 := by
  unfold pc pcs
  rw [List.filter_eq_nil_iff.mpr fun x _ => by rw [zb]; exact Bool.false_ne_true]
  rfl
theorem pe_lt {bs : List (List Nat)} {e : Nat} (w : WebOk bs e) : 2 ^ e < 2 ^ bs.length := Nat.pow_lt_pow_right (by decide) w.lt
theorem ns {bs : List (List Nat)} {e : Nat} (w : WebOk bs e) : ∀ q, q ∉ row bs q := fun _ hq => (row_lt w.ok hq).2 rfl
theorem row_wk {bs : List (List Nat)} {e r : Nat} {l : List Nat} (w : WebOk bs e) (h : rowR_ bs e r = some l) : Wk bs r 0 l (2 ^ e) := lwy_wk (ns w) (pe_lt w) h
theorem row_mono {bs : List (List Nat)} {e r s : Nat} {l : List Nat} (w : WebOk bs e) (h : rowR_ bs e r = some l) (hs : r ≤ s) : ∃ l', rowR_ bs e s = some l' ∧ l'.length ≤ l.length :=
  lwy_least (ns w) (pe_lt w) (by rw [pc_zero]; exact Nat.zero_le _) ((row_wk w h).mono hs)
theorem row_n {bs : List (List Nat)} {e s : Nat} (w : WebOk bs e) (hs : bs.length ≤ s) : ∃ l, rowR_ bs e s = some l ∧ l.length = 2 * bs.length - 1 := by
  obtain ⟨ps, h1, h2⟩ := wk_full w
  obtain ⟨l, h3, h4⟩ := lwy_least (room := s) (ns w) (pe_lt w) (by rw [pc_zero]; exact Nat.zero_le _) (h1.mono hs)
  have := (wk_len w (row_wk w h3)).1
  exact ⟨l, h3, by omega⟩
theorem mvs_n {bs : List (List Nat)} {s m : Nat} (hs : bs.length ≤ s) : mvs bs s m = mvs bs bs.length m := by
  refine List.filter_congr fun p _ => ?_
  rw [decide_eq_true (Nat.le_trans (pc_le bs.length (tg m p)) hs), decide_eq_true (pc_le bs.length (tg m p))]
theorem rn_n {bs : List (List Nat)} {s a : Nat} (hs : bs.length ≤ s) : ∀ k, rnQ bs s a k = rnQ bs bs.length a k
  | 0 => rfl
  | k + 1 => by
    have ih := rn_n (a := a) hs k
    show (match (rnQ bs s a k)[k]? with
      | none => rnQ bs s a k
      | some e => insA (e.2 + 1) (rnQ bs s a k) (nbs bs s e.1)) = (match (rnQ bs bs.length a k)[k]? with
      | none => rnQ bs bs.length a k
      | some e => insA (e.2 + 1) (rnQ bs bs.length a k) (nbs bs bs.length e.1))
    rw [ih]
    have : ∀ m, nbs bs s m = nbs bs bs.length m := fun m => by unfold nbs; rw [mvs_n hs]
    simp only [this]
theorem wyF_n {bs : List (List Nat)} {s : Nat} {q : List (Nat × Nat)} (hs : bs.length ≤ s) : ∀ (d m : Nat), wyF bs s q d m = wyF bs bs.length q d m
  | 0, _ => rfl
  | d + 1, m => by
    have e : nrr bs s q m d = nrr bs bs.length q m d := by unfold nrr; rw [mvs_n hs]
    show nrr bs s q m d :: wyF bs s q d (tg m (nrr bs s q m d)) = _
    rw [e, wyF_n hs]
    rfl
/-- more room than places changes nothing -/
theorem row_big {bs : List (List Nat)} {e s : Nat} (hs : bs.length ≤ s) : rowR_ bs e s = rowR_ bs e bs.length := by
  have f : fin bs s (2 ^ e) = fin bs bs.length (2 ^ e) := rn_n hs _
  unfold rowR_ lwy
  rw [f, if_pos (Nat.le_trans (pc_le _ _) hs), if_pos (pc_le _ _)]
  congr 1
  funext d
  exact wyF_n hs d 0


/-! ### places_in, moves_at -/
theorem op_xorNN {X : Cx} : OpR X (binaryOp .BitXor) (fun x y H Q => ∃ n b : Nat, x = .int n ∧ y = .int b ∧ Q (.int (n ^^^ b : Nat)) H) := by
  intro pins s σ H x y v u Q I r1 r2 h
  obtain ⟨n, b, rfl, rfl, q⟩ := h
  exact op_xor pins s σ H _ _ v u Q I r1 r2 ⟨_, _, rfl, rfl, by show Q (.int (Builtin.bitXor _ _)) H; rw [Bits.bitXor_pp (Int.natCast_nonneg n) (Int.natCast_nonneg b), Int.toNat_natCast, Int.toNat_natCast]; exact q⟩
theorem bits_lt (m : Nat) : m < 2 ^ Builtin.Int.intBits (m : Int) := by
  have := (PySem.intBits_le_iff (x := (m : Int))).mp (Nat.le_refl _)
  rw [Int.natAbs_natCast] at this
  exact this
theorem bits_le {m n : Nat} (h : m < 2 ^ n) : Builtin.Int.intBits (m : Int) ≤ n := PySem.intBits_le_iff.mpr (by rw [Int.natAbs_natCast]; exact h)
theorem pcs_up {m k : Nat} (h : m < 2 ^ k) : ∀ j, k ≤ j → pcs j m = pcs k m := by
  intro j
  induction j with
  | zero => intro hj; rw [Nat.le_zero.mp hj]
  | succ j ih =>
    intro hj
    by_cases e : k = j + 1
    · rw [e]
    · rw [← ih (by omega)]
      unfold pcs
      rw [List.range_succ, List.filter_append, List.filter_cons, List.filter_nil, Nat.testBit_lt_two_pow (Nat.lt_of_lt_of_le h (Nat.pow_le_pow_right (by decide) (show k ≤ j by omega)))]
      simp
theorem pcs_bits {m n : Nat} (h : m < 2 ^ n) : pcs (Builtin.Int.intBits (m : Int)) m = pcs n m := (pcs_up (bits_lt m) n (bits_le h)).symm
theorem pcs_succ (i m : Nat) : pcs (i + 1) m = pcs i m ++ if m.testBit i = true then [i] else [] := by
  unfold pcs
  rw [List.range_succ, List.filter_append, List.filter_cons, List.filter_nil]
theorem pcs_len (n m : Nat) : (pcs n m).length ≤ n := pc_le n m
section
variable {P : Program} {w : World} {K : PySem.W.Frag} {mg : Str → Option Value} {base : Heap} {a : Ad}
def spPI_ : Sp := fun vs H Q _ => ∃ (n m : Nat), vs = [.int m] ∧ m < 2 ^ n ∧ n ≤ 200 ∧ ∀ q H', Evl.Ex H H' → H' q = some (.tup ((nI (pcs n m)).map V.int)) → Q (.ref q) H'
def ivPI (H : Hp) (m : Nat) (D : Addr) (i : Nat) (H' : Hp) : Prop := Evl.Ex H H' ∧ H' D = some (.lst ((nI (pcs i m)).map V.int))
theorem ok_places_in (T : Txt K mg a) : FnOk P w K mg base CX0 1 a.f_places_in a.d_places_in ["mask"] spPI_ := by
  refine T.F_places_in.ok sc_places_in (fun vs H Q E h => ?_) (fun cdv A outer s H vs Q E hr h => ?_)
  · obtain ⟨_, _, rfl, _⟩ := h
    rfl
  · obtain ⟨n, m, rfl, hm, hn, k⟩ := h
    refine ⟨_, (pss_one (ps_ret (pe_callTy call_tuple_of (by rfl) T.z_tuple (by decide +kernel) (pa_cons (pe_lc (own := [("place", 1)]) (g := gName 1)  rfl sc_places_in.nd (pi_range1 (by rfl) T.z_range (pa_cons (pe_bits (pv 0)) pa_nil)) (blkOk_by (own := [("place", 1)]) (N := ["mask", "place"]) (sc := defScope s_places_in) (by decide +kernel)) (fun _ _ _ _ _ => pg_name (i := 1) sc_places_in.nd rfl (Or.inl rfl)) (fun _ _ _ _ _ => (pts_one (pt_truth_b (pe_op op_odd (pe_op op_shrK (pv 0) (pv 1)) pe_int) (by intro _; rfl)))) (fun _ _ _ _ _ => (pv 1))) pa_nil)))), ?_⟩
    walk_at "sm"
    have bl := bits_le hm
    refine ⟨_, rfl, _, rfl, _, rfl, by omega, by omega, lcg_range (lo := 0) (n := ((Builtin.Int.intBits (m : Int) : Nat) : Int).toNat) (ivPI H m) (fun D hD => ⟨Evl.Ex.new hD, upd_same⟩) (fun D i HX hD hi hv => ?_) fun D HX hD hv => ?_⟩
    · obtain ⟨f1, f2⟩ := hv
      rw [show (0 : Int) + (i : Int) = ((i : Nat) : Int) by omega]
      walk_at "sm"
      refine ⟨m, rfl, i, rfl, _, rfl, _, rfl, ?_⟩
      rw [tru_bit]
      have li := pcs_len i m
      have rs := pcs_succ i m
      have hi' : i < Builtin.Int.intBits (m : Int) := by rw [Int.toNat_natCast] at hi; exact hi
      cases c : m.testBit i with
      | false =>
        rw [c, if_neg (by decide), List.append_nil] at rs
        refine iteF ⟨f1, ?_⟩
        rw [rs]
        exact f2
      | true =>
        rw [c, if_pos rfl] at rs
        refine iteT ⟨_, f2, Nat.lt_of_le_of_lt (show _ ≤ 200 by rw [nI_len]; omega) (by decide), f1.mut hD, ?_⟩
        rw [upd_same, rs, nI_snoc]
    · obtain ⟨f1, f2⟩ := hv
      rw [Int.toNat_natCast, pcs_bits hm] at f2
      exact ⟨_, rfl, _, .inl ⟨SqL.of f2, fun l hl => k l _ (f1.trans (Evl.Ex.new hl)) upd_same⟩⟩
/-- the moves and where they lead -/
def MvAt (H : Hp) (D : Addr) (m : Nat) (ps : List Nat) : Prop := ∃ ts : List Addr, H D = some (.lst (ts.map V.ref)) ∧ Paired (fun t p => H t = some (.tup [.int (p : Nat), .int (tg m p : Nat)])) ts ps
def spMA (a : Ad) : Sp := fun vs H Q _ => ∃ (x : Addr) (bs : List (List Nat)) (e m room : Nat), vs = [.ref x, .int m, .int (pc bs.length m : Nat), .int room] ∧ BareAt a.c_Bare H x bs e ∧ bs.length ≤ 8 ∧ pc bs.length m ≤ room ∧ ∀ D H', Evl.Ex H H' → H D = none → MvAt H' D m (mvs bs room m) → Q (.ref D) H'
def mvI (bs : List (List Nat)) (room m i : Nat) : List Nat := (List.range i).filter fun p => hld bs m p && decide (pc bs.length (tg m p) ≤ room)
theorem mvI_succ (bs : List (List Nat)) (room m i : Nat) : mvI bs room m (i + 1) = mvI bs room m i ++ if (hld bs m i && decide (pc bs.length (tg m i) ≤ room)) = true then [i] else [] := by
  unfold mvI
  rw [List.range_succ, List.filter_append, List.filter_cons, List.filter_nil]
theorem mvI_len (bs : List (List Nat)) (room m i : Nat) : (mvI bs room m i).length ≤ i := Nat.le_trans (List.length_filter_le _ _) (Nat.le_of_eq (List.length_range ..))
def ivMA (H : Hp) (x D : Addr) (bs : List (List Nat)) (m room : Nat) : Nat → L2.St → Hp → Prop := fun i σ H' => ∃ v5 v6 v7, σ = [some (.ref x), some (.int (m : Nat)), some (.int (pc bs.length m : Nat)), some (.int (room : Nat)), some (.ref D), v5, v6, v7] ∧ Evl.Ex H H' ∧ MvAt H' D m (mvI bs room m i)
theorem ok_moves_at (T : Txt K mg a) : FnOk P w K mg base CX0 1 a.f_moves_at a.d_moves_at ["bare", "standing", "many", "room"] (spMA a) := by
  refine T.F_moves_at.ok sc_moves_at (fun vs H Q E h => ?_) (fun cdv A outer s H vs Q E hr h => ?_)
  · obtain ⟨_, _, _, _, _, rfl, _⟩ := h
    rfl
  · obtain ⟨x, bs, e, m, room, rfl, hB, hn, hm, k⟩ := h
    obtain ⟨dx, p, af, od, nd, h1, h2, h3, h4, h5⟩ := hB
    refine ⟨_, (pss_cons (ps_set (i := 4) sc_moves_at.nd rfl (by first | exact Or.inl rfl | exact Or.inr rfl) (pe_lst pa_nil))
  (pss_cons (ps_for PassesOwn.never rfl (pi_enumT (by rfl) T.z_enumerate (pa_cons (pe_fld (pv 0) rfl) pa_nil)) (pg_tup rfl (pgs_cons (pg_name (i := 5) sc_moves_at.nd rfl (by first | exact Or.inl rfl | exact Or.inr rfl)) (pgs_cons (pg_name (i := 6) sc_moves_at.nd rfl (by first | exact Or.inl rfl | exact Or.inr rfl)) pgs_nil))) (pss_cons (ps_set (i := 7) sc_moves_at.nd rfl (by first | exact Or.inl rfl | exact Or.inr rfl) (pe_op op_xorNN (pv 1) (pe_op op_shlK pe_int (pv 5))))
  (pss_one (ps_if (PW.pt (pw_and (pt_not (pt_truth (pe_op op_andNot (pv 6) (pe_un un_inv (pv 1))) (by intro _; rfl))) (pw_and1 (PW.pt (pw_or (pt_cmpR op_lt (pv 7) (pv 1) (nomark _)) (pw_or1 (pt_cmpR op_lt (pv 2) (pv 3) (nomark _)))))))) (pss_one (ps_expr (pe_bm PySem.F.plainAttrs_list PySem.F.slot_list_append PySem.F.type_list_append mt_append (pv 4) (pa_cons (pe_tup (pa_cons (pv 5) (pa_cons (pv 7) pa_nil))) pa_nil))))
    pss_nil))))
  (pss_one (ps_ret (pv 4))))), ?_⟩
    walk_at "sm"
    refine ⟨sz (by decide), fun D hD => ?_⟩
    have lm : ((nI (bs.map msk)).map V.int).length = bs.length := by rw [nI_len, List.length_map]
    have e0 := Evl.Ex.new (o := .lst []) hD
    refine ⟨_, rfl, x, _, _, _, _, rfl, e0 _ _ h1, T.ic_Bare.cl, T.na_Bare_needs, rfl, nd, _, rfl, SqT.of (e0 _ _ h5), for_en (n := bs.length) (ivMA H x D bs m room) ⟨none, none, none, rfl, e0, [], upd_same, .nil⟩ (fun i σ HX hi ⟨_, _, _, _, f, _⟩ => ⟨_, _, SqT.of (f _ _ h5), List.getElem?_eq_getElem (by rw [lm]; exact hi)⟩) (fun σ HX ⟨_, _, _, _, f, _⟩ => ⟨_, SqT.of (f _ _ h5), lm⟩) ?_ ?_⟩
    · rintro i σ HX y HY hi ⟨v5, v6, v7, rfl, f1, ts, g1, g2⟩ ⟨Tt, z, rfl, hT, rfl, hz⟩
      have hz2 := hz _ (SqT.of (f1 _ _ h5))
      obtain ⟨nn, hn2, rfl⟩ := nat_at hz2
      rw [List.getElem?_map] at hn2
      obtain ⟨bb, hb⟩ : ∃ bb, bs[i]? = some bb := ⟨_, List.getElem?_eq_getElem hi⟩
      rw [hb] at hn2
      obtain rfl := Option.some.inj hn2
      have eT := Evl.Ex.new (o := .tup [.int (i : Nat), .int (msk bb : Nat)]) hT
      have f2 := f1.trans eT
      walk_at "sm"
      refine ⟨_, SqT.of upd_same, rfl, _, _, rfl, _, _, rfl, rfl, ?_⟩
      generalize upd HX Tt (.tup [.int (i : Nat), .int (msk bb : Nat)]) = H2 at f2 eT ⊢
      walk_at "sm"
      refine ⟨i, rfl, by omega, m, rfl, 2 ^ i, rfl, msk bb, rfl, m, rfl, fun kk hk => ⟨_, rfl, ?_⟩⟩
      have rowb := row_of hb
      have kh : kk = 0 ↔ hld bs m i = true := by
        rw [hk, ← hld_msk, rowb]
      have g1' := eT _ _ g1
      have g2' := Paired.mapP g2 fun t p ht => eT _ _ ht
      have ask := mv_ask (m := m) hi hm
      have rs := mvI_succ bs room m i
      have li := mvI_len bs room m i
      have lts := paired_len g2
      have add : (hld bs m i && decide (pc bs.length (tg m i) ≤ room)) = true → tyV K "list" (V.ref D) H2 ∧ 0 + 1 + 1 ≤ sizeLine ∧ ∀ p : Addr, H2 p = none → rAppend (V.ref D) [V.ref p] (upd H2 p (HO.tup [V.int (i : Nat), V.int ((m ^^^ 2 ^ i : Nat) : Int)])) fun _ H1 =>
          ivMA H x D bs m room (i + 1) [some (V.ref x), some (V.int (m : Nat)), some (V.int (pc bs.length m : Nat)), some (V.int (room : Nat)), some (V.ref D), some (V.int (i : Nat)), some (V.int (msk bb : Nat)), some (V.int ((m ^^^ 2 ^ i : Nat) : Int))] H1 := fun c => by
        refine ⟨.inl ⟨rfl, _, SqL.of g1'⟩, sz (by decide), fun t ht => ?_⟩
        have ne : D ≠ t := fun z => by rw [← z, g1'] at ht; cases ht
        have e3 := Evl.Ex.new (o := .tup [V.int (i : Nat), V.int ((m ^^^ 2 ^ i : Nat) : Int)]) ht
        refine ⟨D, _, _, rfl, rfl, e3 _ _ g1', Nat.lt_of_le_of_lt (show _ ≤ 200 by rw [List.length_map]; omega) (by decide), ?_⟩
        rw [c, if_pos rfl] at rs
        refine ⟨_, _, _, rfl, (f2.trans e3).mut hD, ts ++ [t], by rw [upd_same, List.map_append]; rfl, ?_⟩
        rw [rs]
        refine Paired.snoc (by rw [upd_ne (Ne.symm ne), upd_same]; rfl) (Paired.mapP g2' fun u p hu => ?_)
        rw [upd_ne (fun z => by rw [z, g1'] at hu; cases hu)]
        exact e3 _ _ hu
      have skip : (hld bs m i && decide (pc bs.length (tg m i) ≤ room)) = false → ivMA H x D bs m room (i + 1) [some (V.ref x), some (V.int (m : Nat)), some (V.int (pc bs.length m : Nat)), some (V.int (room : Nat)), some (V.ref D), some (V.int (i : Nat)), some (V.int (msk bb : Nat)), some (V.int ((m ^^^ 2 ^ i : Nat) : Int))] H2 := fun c => by
        rw [c, if_neg (by decide), List.append_nil] at rs
        exact ⟨_, _, _, rfl, f2, ts, g1', by rw [rs]; exact g2'⟩
      by_cases c : kk = 0
      · have hh := kh.mp c
        rw [hh, Bool.true_and] at add skip
        subst c
        refine iteP rfl ?_
        rw [← ask] at add skip
        by_cases c1 : tg m i < m
        · refine iteP (by exact_mod_cast c1) (add ?_)
          rw [decide_eq_true c1]
          rfl
        · refine iteN (by exact_mod_cast c1) ?_
          rw [decide_eq_false c1, Bool.false_or] at add skip
          by_cases c2 : pc bs.length m < room
          · exact iteP (by exact_mod_cast c2) (add (decide_eq_true c2))
          · exact iteN (by exact_mod_cast c2) (skip (decide_eq_false c2))
      · refine iteN ?_ (skip ?_)
        · intro z
          have z2 : ((kk : Int) != 0) = false := by simpa using z
          have : (kk : Int) = 0 := by simpa using z2
          exact c (by omega)
        · cases d : hld bs m i with
          | false => rfl
          | true => exact absurd (kh.mpr d) c
    · rintro σ HX ⟨v5, v6, v7, rfl, f1, g⟩
      walk_at "sm"
      exact k D HX f1 hD g
end

local macro_rules | `(tactic| walk_at "sm") => `(tactic| try simp only [tDisp, tPairs, tDGet, tDNotIn, tDIn, tDNewK, gSub, rSetD, tPar, sFld, tFld, tMake, tMakeS, tSeq, tAsg, tRet, tRetN, tDrop, tOp, tUn, tVar, tC, tCB, tCons, tNil, tLst, tTup, tTest, tB, tAnd, tOr, tNot, tAndV, tOrV, tNotV, tIf, tIfS, tNext, tCont, tBreak, tCall, tCallS, WE, tXf, rI0, rI, rU, gName, gNil, gCons, gTup, gSub, tAug, tBM, tBM0, tM1, rNewStrs, tLc_eq, iRng1, iRng2, iList, iTup, tYes, wipe, List.foldl_cons, List.foldl_nil, rEq, rNe, scal, rIxS, rSlS, tSl, tPart, tNoPart, tChain, ipI, str1, tMkO_eq, L2.start, List.map_cons, List.map_nil, List.append_nil, List.cons_append, List.nil_append, List.length_cons, List.length_nil, List.drop, List.replicate, List.getElem?_cons_zero, List.getElem?_cons_succ, List.set_cons_zero, List.set_cons_succ, Option.some.injEq, V.int.injEq, V.str.injEq, V.ref.injEq, V.bl.injEq, List.cons.injEq, reduceCtorEq, false_and, and_false, exists_false, or_false, false_or, exists_eq_left', exists_eq_left, and_assoc, cx_K, exists_and_left, exists_and_right, and_true, true_and, decide_eq_true_eq, if_true, if_false, Bool.false_eq_true])

/-! ### distances_from -/
def kvQ (f : Nat × Nat → Nat) (q : List (Nat × Nat)) : List (L2.Key × V) := q.map fun e => (.inl (e.1 : Int), V.int (f e : Nat))
theorem kvQ_val (f : Nat × Nat → Nat) (x : Nat) : ∀ q : List (Nat × Nat), valV (kvQ f q) (.inl (x : Int)) = (q.find? fun e => decide (e.1 = x)).map fun e => V.int (f e : Nat)
  | [] => rfl
  | e :: q => by
    have ih := kvQ_val f x q
    unfold valV kvQ at ih ⊢
    rw [List.map_cons, List.find?_cons, List.find?_cons]
    by_cases c : e.1 = x
    · rw [decide_eq_true (show (Sum.inl (e.1 : Int) : L2.Key) = .inl (x : Int) by rw [c]), decide_eq_true c]
      rfl
    · rw [decide_eq_false (show ¬ (Sum.inl (e.1 : Int) : L2.Key) = .inl (x : Int) from fun z => c (by exact_mod_cast Sum.inl.inj z)), decide_eq_false c]
      exact ih
theorem kvQ_dst (q : List (Nat × Nat)) (x : Nat) : valV (kvQ Prod.snd q) (.inl (x : Int)) = (dst q x).map fun d => V.int (d : Nat) := by
  rw [kvQ_val]
  unfold dst
  rw [Option.map_map]
  rfl
theorem find_mem {q : List (Nat × Nat)} {x : Nat} : (q.find? fun e => decide (e.1 = x)).isSome = decide (x ∈ q.map Prod.fst) := by
  by_cases c : x ∈ q.map Prod.fst
  · rw [decide_eq_true c, List.find?_isSome]
    obtain ⟨e, he, rfl⟩ := List.mem_map.mp c
    exact ⟨e, he, decide_eq_true rfl⟩
  · rw [decide_eq_false c]
    cases d : q.find? fun e => decide (e.1 = x) with
    | none => rfl
    | some e =>
      have := List.find?_some d
      exact absurd (List.mem_map.mpr ⟨e, List.mem_of_find?_eq_some d, of_decide_eq_true this⟩) c
theorem kvQ_put (f : Nat × Nat → Nat) {q : List (Nat × Nat)} {e : Nat × Nat} (h : e.1 ∉ q.map Prod.fst) : putK (kvQ f q) (.inl (e.1 : Int)) (V.int (f e : Nat)) = kvQ f (q ++ [e]) := by
  unfold putK
  rw [valV_any, kvQ_val, Option.isSome_map, find_mem, decide_eq_false h, if_neg (by decide)]
  unfold kvQ
  rw [List.map_append]
  rfl
theorem kvQ_len (f : Nat × Nat → Nat) (q : List (Nat × Nat)) : (kvQ f q).length = q.length := by unfold kvQ; rw [List.length_map]
theorem kvQ_has {f : Nat × Nat → Nat} {q : List (Nat × Nat)} {m c : Nat} (h : m ∈ q.map Prod.fst) (hf : ∀ e ∈ q, e.1 = m → f e = c) : valV (kvQ f q) (.inl (m : Int)) = some (V.int (c : Nat)) := by
  have s := find_mem (q := q) (x := m)
  rw [decide_eq_true h] at s
  obtain ⟨e, he⟩ := Option.isSome_iff_exists.mp s
  rw [kvQ_val, he]
  have h1 := List.find?_some he
  rw [Option.map_some, hf e (List.mem_of_find?_eq_some he) (of_decide_eq_true h1)]
theorem kvQ_in {f : Nat × Nat → Nat} {q : List (Nat × Nat)} {m : Nat} : (valV (kvQ f q) (.inl (m : Int))).isSome = decide (m ∈ q.map Prod.fst) := by
  rw [kvQ_val, Option.isSome_map, find_mem]
/-- the search's queue, its two dicts -/
structure QuAt (H : Hp) (n : Nat) (c d w : Addr) (q : List (Nat × Nat)) : Prop where
  cn : H c = some (.dK (kvQ (fun e => pc n e.1) q))
  ds : H d = some (.dK (kvQ Prod.snd q))
  ws : H w = some (.lst ((nI (q.map Prod.fst)).map V.int))
  ne : c ≠ d
theorem QuAt.go {H H' : Hp} {n : Nat} {c d w : Addr} {q : List (Nat × Nat)} (e : Evl.Ex H H') (h : QuAt H n c d w q) : QuAt H' n c d w q := ⟨e _ _ h.cn, e _ _ h.ds, e _ _ h.ws, h.ne⟩
theorem MvAt.go {H H' : Hp} {D : Addr} {m : Nat} {ps : List Nat} (e : Evl.Ex H H') (h : MvAt H D m ps) : MvAt H' D m ps := by
  obtain ⟨ts, h1, h2⟩ := h
  exact ⟨ts, e _ _ h1, Paired.mapP h2 fun t p ht => e _ _ ht⟩
theorem MvAt.upd {H : Hp} {D b : Addr} {m : Nat} {ps : List Nat} {o : HO} (h : MvAt H D m ps) (n : D ≠ b) (nt : ∀ xs, H b ≠ some (.tup xs)) : MvAt (L2.upd H b o) D m ps := by
  obtain ⟨ts, h1, h2⟩ := h
  refine ⟨ts, by rw [upd_ne n]; exact h1, Paired.mapP h2 fun t p ht => ?_⟩
  rw [upd_ne (fun z => nt _ (by rw [← z]; exact ht))]
  exact ht
theorem rn_pc {bs : List (List Nat)} {room s k : Nat} {e : Nat × Nat} (hs : s < 2 ^ bs.length) (hr : pc bs.length s ≤ room) (h : e ∈ rnQ bs room s k) : pc bs.length e.1 ≤ room := by
  rcases (rn_qi hs k).pr e h with rfl | ⟨f, _, _, h2⟩
  · exact hr
  · obtain ⟨p, hp, h3⟩ := nbs_mem.mp h2
    rw [h3]
    exact (mvs_mem.mp hp).2.2
theorem rn_big {bs : List (List Nat)} {q : List (Nat × Nat)} (h : (q.map Prod.fst).Nodup) (lt : ∀ e ∈ q, e.1 < 2 ^ bs.length) (hn : bs.length ≤ 8) : q.length ≤ 256 := by
  have := nd_len h (m := List.range (2 ^ bs.length)) fun x hx => by
    obtain ⟨e, he, rfl⟩ := List.mem_map.mp hx
    exact List.mem_range.mpr (lt e he)
  rw [List.length_map, List.length_range] at this
  exact Nat.le_trans this (show 2 ^ bs.length ≤ 2 ^ 8 from Nat.pow_le_pow_right (by decide) hn)
section
variable {P : Program} {w : World} {K : PySem.W.Frag} {mg : Str → Option Value} {base : Heap} {a : Ad}
def spDF (a : Ad) : Sp := fun vs H Q _ => ∃ (x : Addr) (bs : List (List Nat)) (e room s : Nat), vs = [.ref x, .int room, .int s] ∧ BareAt a.c_Bare H x bs e ∧ bs.length ≤ 8 ∧ s < 2 ^ bs.length ∧ ∀ d H', Evl.Ex H H' → H d = none → H' d = some (.dK (kvQ Prod.snd (if pc bs.length s ≤ room then fin bs room s else []))) → Q (.ref d) H'
def ivDF (H : Hp) (x c d w : Addr) (bs : List (List Nat)) (room s : Nat) (m : Nat) (σ : L2.St) (H' : Hp) : Prop := ∃ k v7 v8 v9, m = 2 ^ bs.length - k ∧ k ≤ 2 ^ bs.length ∧ σ = [some (.ref x), some (.int (room : Nat)), some (.int (s : Nat)), some (.ref c), some (.ref d), some (.ref w), some (.int (k : Nat)), v7, v8, v9] ∧ Evl.Ex H H' ∧ QuAt H' bs.length c d w (rnQ bs room s k)
def ivDI_ (H : Hp) (x c d w D : Addr) (bs : List (List Nat)) (room s k m dm : Nat) (q : List (Nat × Nat)) (ps : List Nat) : Nat → L2.St → Hp → Prop := fun j σ H' => ∃ v8 v9, σ = [some (.ref x), some (.int (room : Nat)), some (.int (s : Nat)), some (.ref c), some (.ref d), some (.ref w), some (.int (k : Nat)), some (.int (m : Nat)), v8, v9] ∧ Evl.Ex H H' ∧ QuAt H' bs.length c d w (insA (dm + 1) q ((ps.take j).map (tg m))) ∧ MvAt H' D m ps
theorem ok_distances_from (T : Txt K mg a) : FnOk P w K mg base CX0 2 a.f_distances_from a.d_distances_from ["bare", "room", "start"] (spDF a) := by
  refine T.F_distances_from.ok sc_distances_from (fun vs H Q E h => ?_) (fun cdv A outer s H vs Q E hr h => ?_)
  · obtain ⟨_, _, _, _, _, rfl, _⟩ := h
    rfl
  · obtain ⟨x, bs, e, room, st, rfl, hB, hn, hs, k⟩ := h
    refine ⟨_, (pss_cons (ps_set (i := 3) sc_distances_from.nd rfl (by first | exact Or.inl rfl | exact Or.inr rfl) (pe_disp (pps_cons (pv 2) (pe_callB call_len_seq (by rfl) T.z_len (by decide +kernel) (pa_cons (pe_call (ok_places_in T) (hr.mono (by decide)) rfl T.m_places_in T.F_places_in.kp T.b_places_in .nil pass0 (pa_cons (pv 2) pa_nil)) pa_nil)) pps_nil) (by rfl) (by rfl) (by simp) (by decide)))
  (pss_cons (ps_if (pt_cmpR op_gt (pe_dget (hu1 hr.units) (pv 3) (pv 2) (fun _ _ => rfl)) (pv 1) (nomark _)) (pss_one (ps_ret pe_dnewK))
    pss_nil)
  (pss_cons (ps_par (by rfl) sc_distances_from.nd (i := 4) (j := 5) rfl rfl (by decide) rfl rfl (pa_cons (pe_disp (pps_cons (pv 2) pe_int pps_nil) (by rfl) (by rfl) (by simp) (by decide)) (pa_cons (pe_lst (pa_cons (pv 2) pa_nil)) pa_nil)) (by rfl))
  (pss_cons (ps_set (i := 6) sc_distances_from.nd rfl (by first | exact Or.inl rfl | exact Or.inr rfl) pe_int)
  (pss_cons (ps_while (by first | exact passes_of rfl | exact PassesOwn.never) (pt_cmpR op_lt (pv 6) (pe_callB call_len_seq (by rfl) T.z_len (by decide +kernel) (pa_cons (pv 5) pa_nil)) (nomark _)) (pss_cons (ps_set (i := 7) sc_distances_from.nd rfl (by first | exact Or.inl rfl | exact Or.inr rfl) (pe_ix ix_list (pv 5) (pv 6) (fun _ _ => rfl)))
  (pss_cons (ps_for PassesOwn.never rfl (pi_list (pe_call (ok_moves_at T) (hr.mono (by decide)) rfl T.m_moves_at T.F_moves_at.kp T.b_moves_at .nil pass0 (pa_cons (pv 0) (pa_cons (pv 7) (pa_cons (pe_dget (hu1 hr.units) (pv 3) (pv 7) (fun _ _ => rfl)) (pa_cons (pv 1) pa_nil)))))) (pg_tup rfl (pgs_cons (pg_name (i := 8) sc_distances_from.nd rfl (by first | exact Or.inl rfl | exact Or.inr rfl)) (pgs_cons (pg_name (i := 9) sc_distances_from.nd rfl (by first | exact Or.inl rfl | exact Or.inr rfl)) pgs_nil))) (pss_one (ps_if (pt_cmp (pc_dnotin (hu1 hr.units) (pv 9) (pv 4))) (pss_cons (ps_asg (pe_op op_add (pe_dget (hu1 hr.units) (pv 4) (pv 7) (fun _ _ => rfl)) pe_int) (pg_sub (pv 4) (pv 9) (set_dict (hu1 hr.units)) (by intro _; rfl)))
  (pss_cons (ps_asg (pe_op op_add (pe_dget (hu1 hr.units) (pv 3) (pv 7) (fun _ _ => rfl)) (pe_ifExp (pt_cmpR op_gt (pv 9) (pv 7) (nomark _)) pe_int (pe_un un_neg pe_int))) (pg_sub (pv 3) (pv 9) (set_dict (hu1 hr.units)) (by intro _; rfl)))
  (pss_one (ps_expr (pe_bm PySem.F.plainAttrs_list PySem.F.slot_list_append PySem.F.type_list_append mt_append (pv 5) (pa_cons (pv 9) pa_nil))))))
    pss_nil)))
  (pss_one (ps_aug (i := 6) sc_distances_from.nd rfl (by first | exact Or.inl rfl | exact Or.inr rfl) pe_int ip_add)))))
  (pss_one (ps_ret (pv 4)))))))), ?_⟩
    walk_at "sm"
    intro c1 hc1
    have e1 := Evl.Ex.new (o := .dK []) hc1
    refine ⟨bs.length, st, rfl, hs, by omega, fun q H1 f1 g1 => ⟨q, rfl, _, .inr (SqT.of g1), f1 _ _ upd_same, [(.inl (st : Int), V.int ((List.map V.int (nI (pcs bs.length st))).length : Nat))], rfl, Nat.le_of_ble_eq_true rfl, V.int (pc bs.length st : Nat), ?_, _, rfl, ?_⟩⟩
    · rw [nI_len]
      have hg := DGet.k (k := .inl (st : Int)) (show upd H1 c1 (.dK (kvQ (fun e => pc bs.length e.1) [(st, 0)])) c1 = some (.dK (kvQ (fun e => pc bs.length e.1) [(st, 0)])) from upd_same)
      rw [kvQ_has (f := fun e => pc bs.length e.1) (c := pc bs.length st) (List.mem_cons_self) fun e _ h => by rw [h]] at hg
      exact hg
    rw [nI_len]
    have fc : Evl.Ex H (upd H1 c1 (.dK (kvQ (fun e => pc bs.length e.1) [(st, 0)]))) := (e1.trans f1).mut hc1
    change if (room : Int) < ((pc bs.length st : Nat) : Int) then _ else _
    have hc2 : upd H1 c1 (.dK (mergeK [] [(.inl (st : Int), V.int ((pcs bs.length st).length : Nat))])) c1 = some (.dK (kvQ (fun e => pc bs.length e.1) [(st, 0)])) := upd_same
    change Evl.Ex H (upd H1 c1 (.dK (mergeK [] [(.inl (st : Int), V.int ((pcs bs.length st).length : Nat))]))) at fc
    generalize upd H1 c1 (.dK (mergeK [] [(.inl (st : Int), V.int ((pcs bs.length st).length : Nat))])) = H2 at fc hc2 ⊢
    by_cases cr : pc bs.length st ≤ room
    · rw [if_pos cr] at k
      refine iteN (by omega) fun d hd => ⟨upd_same, [(.inl (st : Int), V.int 0)], rfl, Nat.le_of_ble_eq_true rfl, sz (by decide), fun wt hw => ?_⟩
      have ncd : c1 ≠ d := fun z => by rw [← z, hc2] at hd; cases hd
      have hw0 : H2 wt = none := by
        have : wt ≠ d := fun z => by rw [z, upd_same] at hw; cases hw
        rw [upd_ne this, upd_ne this] at hw
        exact hw
      have ndw : d ≠ wt := fun z => by rw [← z, upd_same] at hw; cases hw
      have ncw : c1 ≠ wt := fun z => by rw [← z, hc2] at hw0; cases hw0
      have hd0 : H d = none := by
        cases q : H d with
        | none => rfl
        | some o => rw [fc _ _ q] at hd; cases hd
      have hwt0 : H wt = none := by
        cases q : H wt with
        | none => rfl
        | some o => rw [fc _ _ q] at hw0; cases hw0
      have q0 : QuAt (upd (upd (upd H2 d (.dK [])) d (.dK (mergeK [] [(.inl (st : Int), V.int 0)]))) wt (.lst [V.int (st : Nat)])) bs.length c1 d wt (rnQ bs room st 0) :=
        ⟨by rw [upd_ne ncw, upd_ne ncd, upd_ne ncd]; exact hc2, by rw [upd_ne ndw, upd_same]; rfl, upd_same, ncd⟩
      have f2 := ((fc.mut hd0 (o := .dK [])).mut hd0 (o := .dK (mergeK [] [(.inl (st : Int), V.int 0)]))).mut hwt0 (o := .lst [V.int (st : Nat)])
      refine ⟨ivDF H x c1 d wt bs room st, ⟨_, 0, none, none, none, rfl, Nat.zero_le _, rfl, f2, q0⟩, ?_⟩
      rintro mm σ HX ⟨kk, v7, v8, v9, rfl, hkk, rfl, f3, Qu⟩
      walk_at "sm"
      refine ⟨_, .inl (SqL.of Qu.ws), ?_⟩
      rw [nI_len, List.length_map]
      have QI_ := rn_qi (room := room) hs kk
      have ll := rn_len (room := room) hs kk
      by_cases ck : kk < (rnQ bs room st kk).length
      · refine iteP (by exact_mod_cast ck) ⟨fun σ' H' => ivDF H x c1 d wt bs room st (2 ^ bs.length - (kk + 1)) σ' H', fun σ' H' h => ⟨_, by omega, h⟩, ?_⟩
        obtain ⟨em, hem⟩ : ∃ e, (rnQ bs room st kk)[kk]? = some e := ⟨_, List.getElem?_eq_getElem ck⟩
        obtain ⟨m, dm⟩ := em
        have hmem : (m, dm) ∈ rnQ bs room st kk := List.mem_of_getElem? hem
        walk_at "sm"
        have hpm : pc bs.length m ≤ room := rn_pc hs cr hmem
        have mkey : m ∈ (rnQ bs room st kk).map Prod.fst := List.mem_map.mpr ⟨_, hmem, rfl⟩
        have gcn := DGet.k (k := .inl (m : Int)) Qu.cn
        rw [kvQ_has (c := pc bs.length m) mkey fun e _ h => by rw [h]] at gcn
        refine ixl (SqL.of Qu.ws) (atI_nat (nI_get (by rw [List.getElem?_map, hem]; rfl))) ⟨_, rfl, _, rfl, _, rfl, _, rfl, c1, _, rfl, gcn, _, rfl, x, bs, e, m, room, rfl, hB.go f3, hn, hpm, fun D HY f4 hD gD => ?_⟩
        have QuY := Qu.go f4
        have nDw : D ≠ wt := fun z => by rw [z, Qu.ws] at hD; cases hD
        obtain ⟨ts, gD1, gD2⟩ := gD
        have lts := paired_len gD2
        have ltl : (ts.map V.ref).length = (mvs bs room m).length := by rw [List.length_map, lts]
        refine ⟨D, rfl, ⟨_, SqL.of gD1⟩, for_en (n := (mvs bs room m).length) (ivDI_ H x c1 d wt D bs room st kk m dm (rnQ bs room st kk) (mvs bs room m)) ⟨v8, v9, rfl, f3.trans f4, QuY, ts, gD1, gD2⟩ (fun i σ HX hi ⟨_, _, _, _, _, ts', g1, g2⟩ => ⟨_, _, SqL.of g1, List.getElem?_eq_getElem (by rw [List.length_map, paired_len g2]; exact hi)⟩) (fun σ HX ⟨_, _, _, _, _, ts', g1, g2⟩ => ⟨_, SqL.of g1, by rw [List.length_map, paired_len g2]; exact Nat.le_refl _⟩) ?_ ?_⟩
        · rintro j σ HZ y HZ' hj ⟨u8, u9, rfl, f5, Q5, ts', g1, g2⟩ ⟨rfl, hy⟩
          have hy1 := hy _ (SqL.of g1)
          obtain ⟨t, ht, rfl⟩ : ∃ t, ts'[j]? = some t ∧ y = .ref t := by
            rw [List.getElem?_map] at hy1
            cases e : ts'[j]? with
            | none => rw [e] at hy1; cases hy1
            | some c => rw [e] at hy1; exact ⟨c, rfl, (Option.some.inj hy1).symm⟩
          obtain ⟨p, hp, htp⟩ := paired_get g2 ht
          walk_at "sm"
          have hpm2 : p ∈ mvs bs room m := List.mem_of_getElem? hp
          obtain ⟨pl, _, pr⟩ := mvs_mem.mp hpm2
          have nd' := insA_nd (d := dm + 1) (xs := ((mvs bs room m).take j).map (tg m)) QI_.nd
          have sub' : ∀ z ∈ ((mvs bs room m).take j).map (tg m), z ∈ nbs bs room m := fun z hz => by
            obtain ⟨p', h1, rfl⟩ := List.mem_map.mp hz
            exact nbs_mem.mpr ⟨p', List.mem_of_mem_take h1, rfl⟩
          have ml := QI_.lt _ hmem
          have lt' : ∀ e ∈ insA (dm + 1) (rnQ bs room st kk) (((mvs bs room m).take j).map (tg m)), e.1 < 2 ^ bs.length := fun e he => by
            rcases insA_mem he with h | ⟨_, h⟩
            · exact QI_.lt e h
            · exact nbs_lt ml (sub' _ h)
          have hm' : (m, dm) ∈ insA (dm + 1) (rnQ bs room st kk) (((mvs bs room m).take j).map (tg m)) := insA_sub hmem
          have step : insA (dm + 1) (rnQ bs room st kk) (((mvs bs room m).take (j + 1)).map (tg m)) = ins1 (dm + 1) (insA (dm + 1) (rnQ bs room st kk) (((mvs bs room m).take j).map (tg m))) (tg m p) := by
            rw [List.take_succ, hp, Option.toList_some, List.map_append, List.map_singleton]
            unfold insA
            rw [List.foldl_append]
            rfl
          have big := rn_big nd' lt' hn
          unfold ivDI_
          rw [step]
          generalize insA (dm + 1) (rnQ bs room st kk) (((mvs bs room m).take j).map (tg m)) = q' at Q5 nd' lt' hm' big ⊢
          refine ⟨_, SqT.of htp, rfl, _, _, rfl, _, _, rfl, rfl, _, DGet.k (k := .inl ((tg m p : Nat) : Int)) Q5.ds, ?_⟩
          rw [kvQ_in]
          by_cases c : tg m p ∈ q'.map Prod.fst
          · rw [decide_eq_true c]
            refine iteF ⟨_, _, rfl, f5, ?_, ts', g1, g2⟩
            unfold ins1
            rw [if_pos c]
            exact Q5
          · rw [decide_eq_false c]
            have mk' : m ∈ q'.map Prod.fst := List.mem_map.mpr ⟨_, hm', rfl⟩
            have gd := DGet.k (k := .inl (m : Int)) Q5.ds
            rw [kvQ_dst, (dst_mem nd').mpr hm'] at gd
            have put1 := kvQ_put Prod.snd (q := q') (e := (tg m p, dm + 1)) c
            have p1 : DPut HZ' d (V.int ((tg m p : Nat) : Int)) (V.int ((dm : Int) + 1)) (L2.upd HZ' d (.dK (kvQ Prod.snd (q' ++ [(tg m p, dm + 1)])))) := by
              rw [← put1]
              exact DPut.k (k := .inl ((tg m p : Nat) : Int)) (v := V.int ((dm + 1 : Nat) : Int)) Q5.ds (by rw [kvQ_len, sizeLine_eq]; omega)
            have nc1 := Q5.ne
            have cn1 : L2.upd HZ' d (.dK (kvQ Prod.snd (q' ++ [(tg m p, dm + 1)]))) c1 = some (.dK (kvQ (fun e => pc bs.length e.1) q')) := by rw [upd_ne nc1]; exact Q5.cn
            have gc := DGet.k (k := .inl (m : Int)) cn1
            rw [kvQ_has (c := pc bs.length m) mk' fun e _ h => by rw [h]] at gc
            have put2 := kvQ_put (fun e => pc bs.length e.1) (q := q') (e := (tg m p, dm + 1)) c
            have p2 : DPut (L2.upd HZ' d (.dK (kvQ Prod.snd (q' ++ [(tg m p, dm + 1)])))) c1 (V.int ((tg m p : Nat) : Int)) (V.int ((pc bs.length (tg m p) : Nat) : Int)) (L2.upd (L2.upd HZ' d (.dK (kvQ Prod.snd (q' ++ [(tg m p, dm + 1)])))) c1 (.dK (kvQ (fun e => pc bs.length e.1) (q' ++ [(tg m p, dm + 1)])))) := by
              rw [← put2]
              exact DPut.k (k := .inl ((tg m p : Nat) : Int)) (v := V.int ((pc bs.length (tg m p) : Nat) : Int)) cn1 (by rw [kvQ_len, sizeLine_eq]; omega)
            have hc10 : H c1 = none := hc1
            have fin' : ∀ H9, H9 = L2.upd (L2.upd HZ' d (.dK (kvQ Prod.snd (q' ++ [(tg m p, dm + 1)])))) c1 (.dK (kvQ (fun e => pc bs.length e.1) (q' ++ [(tg m p, dm + 1)]))) → tyV K "list" (V.ref wt) H9 ∧ rAppend (V.ref wt) [V.int ((tg m p : Nat) : Int)] H9 fun _ H1 => ∃ v8 v9, [some (V.ref x), some (V.int (room : Nat)), some (V.int (st : Nat)), some (V.ref c1), some (V.ref d), some (V.ref wt), some (V.int (kk : Nat)), some (V.int (m : Nat)), some (V.int (p : Nat)), some (V.int ((tg m p : Nat) : Int))] =
                [some (V.ref x), some (V.int (room : Nat)), some (V.int (st : Nat)), some (V.ref c1), some (V.ref d), some (V.ref wt), some (V.int (kk : Nat)), some (V.int (m : Nat)), v8, v9] ∧ Evl.Ex H H1 ∧ QuAt H1 bs.length c1 d wt (ins1 (dm + 1) q' (tg m p)) ∧ MvAt H1 D m (mvs bs room m) := fun H9 e9 => by
              have w9 : H9 wt = some (.lst ((nI (q'.map Prod.fst)).map V.int)) := by rw [e9, upd_ne (Ne.symm ncw), upd_ne (Ne.symm ndw)]; exact Q5.ws
              refine ⟨.inl ⟨rfl, _, SqL.of w9⟩, wt, _, _, rfl, rfl, w9, by rw [nI_len, List.length_map, sizeLine_eq]; omega, _, _, rfl, ?_, ?_, ?_⟩
              · rw [e9]
                exact ((f5.mut hd0).mut hc10).mut hwt0
              · unfold ins1
                rw [if_neg c]
                refine ⟨by rw [upd_ne ncw, e9, upd_same], by rw [upd_ne ndw, e9, upd_ne (Ne.symm nc1), upd_same], by rw [upd_same, List.map_append, List.map_singleton, nI_snoc], nc1⟩
              · have M0 : MvAt HZ' D m (mvs bs room m) := ⟨ts', g1, g2⟩
                have nDd : D ≠ d := fun z => by rw [z, Q5.ds] at g1; cases g1
                have nDc : D ≠ c1 := fun z => by rw [z, Q5.cn] at g1; cases g1
                rw [e9]
                exact ((M0.upd nDd (fun xs z => by rw [Q5.ds] at z; cases z)).upd nDc (fun xs z => by rw [cn1] at z; cases z)).upd nDw fun xs z => by rw [← e9, w9] at z; cases z
            refine iteT ⟨_, gd, _, rfl, _, p1, _, gc, _, rfl, ?_⟩
            cases tb : m.testBit p with
            | false =>
              have up := tg_up tb
              have pu := pc_up (n := bs.length) tb pl
              refine iteP (by exact_mod_cast up) ⟨_, rfl, _, ?_, fin' _ rfl⟩
              rw [show ((pc bs.length m : Nat) : Int) + 1 = ((pc bs.length (tg m p) : Nat) : Int) by rw [pu]; omega]
              exact p2
            | true =>
              have dn := tg_dn tb
              have pd := pc_dn (n := bs.length) tb pl
              refine iteN (by have : ¬ m < tg m p := by omega
                              exact_mod_cast this) ⟨_, rfl, _, ?_, fin' _ rfl⟩
              rw [show ((pc bs.length m : Nat) : Int) + -1 = ((pc bs.length (tg m p) : Nat) : Int) by omega]
              exact p2
        · rintro σ HZ ⟨u8, u9, rfl, f5, Q5, _⟩
          walk_at "sm"
          rw [List.take_length] at Q5
          refine ⟨kk + 1, _, _, _, rfl, by omega, rfl, f5, ?_⟩
          show QuAt HZ bs.length c1 d wt (match (rnQ bs room st kk)[kk]? with
            | none => rnQ bs room st kk
            | some e => insA (e.2 + 1) (rnQ bs room st kk) (nbs bs room e.1))
          rw [hem]
          exact Q5
      · refine iteN (by exact_mod_cast ck) ?_
        walk_at "sm"
        refine k d HX f3 hd0 ?_
        rw [Qu.ds, fin_of hs (by omega)]
    · rw [if_neg cr] at k
      refine iteP (by omega) fun d hd => ?_
      have hd0 : H d = none := by
        cases q : H d with
        | none => rfl
        | some o => rw [fc _ _ q] at hd; cases hd
      exact k d _ (fc.mut hd0) hd0 upd_same
end


/-! ### check_room, way_between, fewest_moves -/
def RzP (C : Addr) (f : Str) (v : V) (H : Hp) (E : XK) : Prop := ∀ (d : Addr) (H' : Hp), Evl.Ex H H' → H' d = some (.xd [(f, v)]) → E (.ref C) (some d) H'
theorem RzP.go {C : Addr} {f : Str} {v : V} {H H1 : Hp} {E : XK} (h : RzP C f v H E) (e : Evl.Ex H H1) : RzP C f v H1 E := fun d H' e' q => h d H' (e.trans e') q
def OwAt (H : Hp) (v : V) (o : Option (List Nat)) : Prop := match o with
  | none => v = .non
  | some l => ∃ q, v = .ref q ∧ H q = some (.tup ((nI l).map V.int))
section
variable {P : Program} {w : World} {K : PySem.W.Frag} {mg : Str → Option Value} {base : Heap} {a : Ad}
def spCRm (C : Addr) : Sp := fun vs H Q E => ∃ x, vs = [x] ∧ PlainV H x ∧ (wiB x 1 200 = true → Q x H) ∧ (wiB x 1 200 = false → E (.ref C) none H)
theorem ok_check_room (T : Txt K mg a) : FnOk P w K mg base (L2.CX P w) 3 a.f_check_room a.d_check_room ["room"] (spCRm a.c_BadRoom) := by
  refine T.F_check_room.okX sc_check_room (fun vs H Q E h => ?_) (fun cdv A outer s H vs Q E hr h => ?_)
  · obtain ⟨_, rfl, _⟩ := h
    rfl
  · obtain ⟨x, rfl, hx, k1, k2⟩ := h
    refine ⟨_, (pss_cons (ps_if (pt_not (pt_val (pe_call (ok_is_within T) (hr.mono (by decide)) rfl T.m_is_within T.F_is_within.kp T.b_is_within .nil pass0 (pa_cons (pv 0) (pa_cons pe_int (pa_cons (pe_glob rfl T.g_MOST_ROOM.choose_spec.1 T.g_MOST_ROOM.choose_spec.2) pa_nil)))))) (pss_one (ps_raise rfl (takes_of rfl rfl rfl rfl) (pmk_own0 PySem.F.excBase_ValueError T.q_BadRoom T.m_BadRoom T.k_BadRoom (raises_own T.sb_BadRoom T.ty_BadRoom) rfl)))
    pss_nil)
  (pss_one (ps_ret (pv 0)))), ?_⟩
    walk_at "sm"
    refine ⟨x, 1, 200, rfl, hx, _, rfl, ?_⟩
    cases e : wiB x 1 200 with
    | false => exact iteT (k2 e)
    | true => exact iteF (k1 e)
def spWB (a : Ad) : Sp := fun vs H Q _ => ∃ (x : Addr) (bs : List (List Nat)) (e room s g : Nat), vs = [.ref x, .int room, .int s, .int g] ∧ BareAt a.c_Bare H x bs e ∧ bs.length ≤ 8 ∧ (∀ q, q ∉ row bs q) ∧ s < 2 ^ bs.length ∧ g < 2 ^ bs.length ∧ ∀ v H', Evl.Ex H H' → OwAt H' v (lwy bs room s g) → Q v H'
theorem rn_dle {bs : List (List Nat)} {room s : Nat} : ∀ k, ∀ e ∈ rnQ bs room s k, e.2 ≤ k
  | 0, e, h => by rw [List.mem_singleton.mp h]; exact Nat.le_refl _
  | k + 1, e, h => by
    have ih := rn_dle (bs := bs) (room := room) (s := s) k
    unfold rnQ at h
    cases c : (rnQ bs room s k)[k]? with
    | none =>
      rw [c] at h
      have := ih e h
      omega
    | some f =>
      rw [c] at h
      rcases insA_mem h with h | ⟨h, _⟩
      · have := ih e h
        omega
      · have := ih f (List.mem_of_getElem? c)
        omega
theorem dst_le {bs : List (List Nat)} {room s x d : Nat} (hn : bs.length ≤ 8) (h : dst (fin bs room s) x = some d) : d ≤ 256 := by
  unfold dst at h
  obtain ⟨e, he, rfl⟩ := Option.map_eq_some_iff.mp h
  exact Nat.le_trans (rn_dle _ e (List.mem_of_find?_eq_some he)) (show 2 ^ bs.length ≤ 2 ^ 8 from Nat.pow_le_pow_right (by decide) hn)
/-- of the moves the nearer ones; the first is the least -/
theorem nrr_filt {bs : List (List Nat)} {room g : Nat} {q : List (Nat × Nat)} (hw : ∀ q, q ∉ row bs q) (F : FI bs room g q) (hp : pc bs.length g ≤ room) {m d : Nat} (h : dst q m = some (d + 1)) :
    ((mvs bs room m).filter fun p => decide (((dst q (tg m p)).getD 0) < d + 1))[0]? = some (nrr bs room q m d) := by
  have e : ((mvs bs room m).filter fun p => decide (((dst q (tg m p)).getD 0) < d + 1)) = (mvs bs room m).filter fun p => decide (dst q (tg m p) = some d) := by
    refine List.filter_congr fun p hpm => ?_
    obtain ⟨d', h1, h2⟩ := F.cl m (d + 1) h p hpm
    obtain ⟨d2, h3, h4⟩ := F.cl (tg m p) d' h1 p (mv_back hw hpm (fin_pc F hp h))
    rw [tg_tg, h] at h3
    have := Option.some.inj h3
    rw [h1, Option.getD_some]
    refine decide_eq_decide.mpr ⟨fun z => ?_, fun z => ?_⟩
    · congr 1
      omega
    · have := Option.some.inj z
      omega
  rw [e, ← List.head?_eq_getElem?, List.head?_filter]
  exact (nrr_ok hw F hp h).1
def ivWB (H : Hp) (x dd wy : Addr) (bs : List (List Nat)) (room st g d0 : Nat) (d : Nat) (σ : L2.St) (H' : Hp) : Prop := ∃ m dn v7 v8 v9, σ = [some (.ref x), some (.int (room : Nat)), some (.int (st : Nat)), some (.int (g : Nat)), some (.ref dd), some (.ref wy), some (.int (m : Nat)), v7, v8, v9] ∧ Evl.Ex H H' ∧
  H' dd = some (.dK (kvQ Prod.snd (fin bs room g))) ∧ H' wy = some (.lst ((nI dn).map V.int)) ∧ dst (fin bs room g) m = some d ∧ dn ++ wyF bs room (fin bs room g) d m = wyF bs room (fin bs room g) d0 st ∧ H wy = none
theorem ok_way_between (T : Txt K mg a) : FnOk P w K mg base CX0 3 a.f_way_between a.d_way_between ["bare", "room", "start", "goal"] (spWB a) := by
  refine T.F_way_between.ok sc_way_between (fun vs H Q E h => ?_) (fun cdv A outer s H vs Q E hr h => ?_)
  · obtain ⟨_, _, _, _, _, _, rfl, _⟩ := h
    rfl
  · obtain ⟨x, bs, e, room, st, gl, rfl, hB, hn, hw, hs, hg, k⟩ := h
    refine ⟨_, (pss_cons (ps_set (i := 4) sc_way_between.nd rfl (by first | exact Or.inl rfl | exact Or.inr rfl) (pe_call (ok_distances_from T) (hr.mono (by decide)) rfl T.m_distances_from T.F_distances_from.kp T.b_distances_from .nil pass0 (pa_cons (pv 0) (pa_cons (pv 1) (pa_cons (pv 3) pa_nil)))))
  (pss_cons (ps_if (pt_cmp (pc_dnotin (hu1 hr.units) (pv 2) (pv 4))) (pss_one (ps_ret pe_non))
    pss_nil)
  (pss_cons (ps_asg (pe_tup (pa_cons (pe_lst pa_nil) (pa_cons (pv 2) pa_nil))) (pg_tup rfl (pgs_cons (pg_name (i := 5) sc_way_between.nd rfl (by first | exact Or.inl rfl | exact Or.inr rfl)) (pgs_cons (pg_name (i := 6) sc_way_between.nd rfl (by first | exact Or.inl rfl | exact Or.inr rfl)) pgs_nil))))
  (pss_cons (ps_while (by first | exact passes_of rfl | exact PassesOwn.never) (pt_cmpR op_ne (pv 6) (pv 3) (nomark _)) (pss_cons (ps_setLc (i := 7) (own := [("move", 9)]) (g := gName 9)  rfl sc_way_between.nd rfl rfl (sw_true rfl rfl rfl (by decide +kernel)) (pi_list (pe_call (ok_moves_at T) (hr.mono (by decide)) rfl T.m_moves_at T.F_moves_at.kp T.b_moves_at .nil pass0 (pa_cons (pv 0) (pa_cons (pv 6) (pa_cons (pe_callB call_len_seq (by rfl) T.z_len (by decide +kernel) (pa_cons (pe_call (ok_places_in T) (hr.mono (by decide)) rfl T.m_places_in T.F_places_in.kp T.b_places_in .nil pass0 (pa_cons (pv 6) pa_nil)) pa_nil)) (pa_cons (pv 1) pa_nil)))))) (blkOk_by (own := [("move", 9)]) (N := ["bare", "room", "start", "goal", "distances", "way", "standing", "nearer", "place", "move"]) (sc := defScope s_way_between) (by decide +kernel)) (fun _ _ _ _ _ => pg_name (i := 9) sc_way_between.nd rfl (Or.inl rfl)) (fun _ _ _ _ _ => (pts_one (pt_cmpR op_lt (pe_dget (hu1 hr.units) (pv 4) (pe_ix ix_tup_b (pv 9) pe_int (fun _ _ => rfl)) (fun _ _ => rfl)) (pe_dget (hu1 hr.units) (pv 4) (pv 6) (fun _ _ => rfl)) (nomark _)))) (fun _ _ _ _ _ => (pv 9)))
  (pss_cons (ps_asg (pe_ix ix_list (pv 7) pe_int (fun _ _ => rfl)) (pg_tup rfl (pgs_cons (pg_name (i := 8) sc_way_between.nd rfl (by first | exact Or.inl rfl | exact Or.inr rfl)) (pgs_cons (pg_name (i := 6) sc_way_between.nd rfl (by first | exact Or.inl rfl | exact Or.inr rfl)) pgs_nil))))
  (pss_one (ps_expr (pe_bm PySem.F.plainAttrs_list PySem.F.slot_list_append PySem.F.type_list_append mt_append (pv 5) (pa_cons (pv 8) pa_nil)))))))
  (pss_one (ps_ret (pe_callTy call_tuple_of (by rfl) T.z_tuple (by decide +kernel) (pa_cons (pv 5) pa_nil)))))))), ?_⟩
    walk_at "sm"
    refine ⟨x, bs, e, room, gl, rfl, hB, hn, hg, fun dd H1 f1 hdd g1 => ⟨dd, rfl, _, DGet.k (k := .inl (st : Int)) g1, ?_⟩⟩
    rw [kvQ_in]
    by_cases cp : pc bs.length gl ≤ room
    · rw [if_pos cp] at g1 ⊢
      have F := fin_fi (room := room) hg
      have nd := (rn_qi (room := room) hg (2 ^ bs.length)).nd
      cases cd : dst (fin bs room gl) st with
      | none =>
        have : decide (st ∈ (fin bs room gl).map Prod.fst) = false := by
          rw [← find_mem]
          unfold dst at cd
          rw [Option.map_eq_none_iff.mp cd]
          rfl
        rw [this]
        refine iteT (k _ _ f1 ?_)
        unfold lwy
        rw [if_pos cp, cd]
        rfl
      | some d0 =>
        have : decide (st ∈ (fin bs room gl).map Prod.fst) = true := decide_eq_true (List.mem_map.mpr ⟨_, (dst_mem nd).mp cd, rfl⟩)
        rw [this]
        have ko : ∀ H', Evl.Ex H H' → ∀ q, H' q = some (.tup ((nI (wyF bs room (fin bs room gl) d0 st)).map V.int)) → Q (.ref q) H' := fun H' f q hq => k _ _ f (by
          unfold lwy
          rw [if_pos cp, cd]
          exact ⟨q, rfl, hq⟩)
        refine iteF ⟨sz (by decide), fun wy hwy => ⟨sz (by decide), fun t ht => ⟨_, SqT.of upd_same, rfl, _, _, rfl, _, _, rfl, rfl, ?_⟩⟩⟩
        have f2 := f1.trans (Evl.Ex.new (o := .lst []) hwy)
        have f3 := f2.trans (Evl.Ex.new (o := .tup [V.ref wy, V.int (st : Nat)]) ht)
        have hwy0 : H wy = none := by
          cases q : H wy with
          | none => rfl
          | some o => rw [f1 _ _ q] at hwy; cases hwy
        have hwt : wy ≠ t := fun z => by rw [← z, upd_same] at ht; cases ht
        have g2 : upd (upd H1 wy (.lst [])) t (.tup [V.ref wy, V.int (st : Nat)]) dd = some (.dK (kvQ Prod.snd (fin bs room gl))) := (Evl.Ex.new ht) _ _ (Evl.Ex.new hwy _ _ g1)
        refine ⟨ivWB H x dd wy bs room st gl d0, ⟨d0, st, [], none, none, none, rfl, f3, g2, by rw [upd_ne hwt, upd_same]; rfl, cd, rfl, hwy0⟩, ?_⟩
        rintro dm σ HX ⟨m, dn, v7, v8, v9, rfl, f4, g4, g5, g6, g7, g8⟩
        walk_at "sm"
        by_cases cm : m = gl
        · subst cm
          rw [F.z] at g6
          have : 0 = dm := Option.some.inj g6
          subst this
          refine iteN (by simp) ?_
          walk_at "sm"
          rw [show wyF bs room (fin bs room m) 0 m = [] from rfl, List.append_nil] at g7
          rw [g7] at g5
          refine ⟨_, .inl ⟨SqL.of g5, fun l hl => ko _ (f4.trans (Evl.Ex.new hl)) l upd_same⟩⟩
        · have dpos : ∃ d, dm = d + 1 := by
            cases dm with
            | zero =>
              rcases F.pr m 0 g6 with ⟨z, _⟩ | ⟨_, _, _, _, z, _⟩
              · exact absurd z cm
              · omega
            | succ d => exact ⟨d, rfl⟩
          obtain ⟨d, rfl⟩ := dpos
          have mpc := fin_pc F cp g6
          refine iteP (by simpa using (show ¬ (m : Int) = (gl : Int) by exact_mod_cast cm)) ⟨fun σ' H' => ivWB H x dd wy bs room st gl d0 d σ' H', fun σ' H' h => ⟨_, by omega, h⟩, ?_⟩
          walk_at "sm"
          refine ⟨bs.length, m, rfl, F.lt _ _ g6, by omega, fun q1 H2 f5 h5 => ⟨q1, rfl, _, .inr (SqT.of h5), ?_⟩⟩
          rw [nI_len]
          refine ⟨x, bs, e, m, room, rfl, hB.go (f4.trans f5), hn, mpc, fun D H3 f6 hD gD => ⟨D, rfl, ?_⟩⟩
          obtain ⟨ts, gD1, gD2⟩ := gD
          have lts := paired_len gD2
          have f36 := f5.trans f6
          have d3 := f36 _ _ g4
          let cnd : Nat → Bool := fun p => decide (((dst (fin bs room gl) (tg m p)).getD 0) < d + 1)
          have ml := Nat.le_trans (List.length_filter_le _ _) (Nat.le_of_eq (List.length_range ..)) |> fun (z : (mvs bs room m).length ≤ bs.length) => z
          refine ⟨⟨_, SqL.of gD1⟩, lcg_list (K := K) (a := D) (xs := ts.map V.ref) (fun E j H' => Evl.Ex H3 H' ∧ ∃ us : List Addr, H' E = some (.lst (us.map V.ref)) ∧ Paired (fun t p => H3 t = some (.tup [.int (p : Nat), .int (tg m p : Nat)])) us (((mvs bs room m).take j).filter cnd)) (fun E hE => ⟨Evl.Ex.new hE, [], upd_same, .nil⟩) (fun E j HY hE hj h => SqL.of (h.1 _ _ gD1)) ?_ ?_⟩
          · rintro E j y HY hE hj ⟨h1, us, h2, h3⟩
            obtain ⟨t, ht, rfl⟩ : ∃ t, ts[j]? = some t ∧ y = .ref t := by
              rw [List.getElem?_map] at hj
              cases e : ts[j]? with
              | none => rw [e] at hj; cases hj
              | some c => rw [e] at hj; exact ⟨c, rfl, (Option.some.inj hj).symm⟩
            obtain ⟨p, hp, htp⟩ := paired_get gD2 ht
            have pm : p ∈ mvs bs room m := List.mem_of_getElem? hp
            obtain ⟨d', e1, e2⟩ := F.cl m (d + 1) g6 p pm
            have gy := DGet.k (k := .inl ((tg m p : Nat) : Int)) (h1 _ _ d3)
            rw [kvQ_dst, e1] at gy
            have gm := DGet.k (k := .inl (m : Int)) (h1 _ _ d3)
            rw [kvQ_dst, g6] at gm
            have tk : ((mvs bs room m).take (j + 1)).filter cnd = ((mvs bs room m).take j).filter cnd ++ if cnd p = true then [p] else [] := by
              rw [List.take_succ, hp, Option.toList_some, List.filter_append, List.filter_cons, List.filter_nil]
            have lus := paired_len h3
            have lf : (((mvs bs room m).take j).filter cnd).length ≤ 8 := Nat.le_trans (List.length_filter_le _ _) (Nat.le_trans (List.length_take_le _ _) (by have := (List.getElem?_eq_some_iff.mp hp).1; omega))
            have cp2 : cnd p = decide (d' < d + 1) := by
              show decide (((dst (fin bs room gl) (tg m p)).getD 0) < d + 1) = _
              rw [e1]
              rfl
            walk_at "sm"
            refine ix1 (h1 _ _ htp) ⟨_, gy, _, gm, _, rfl, _, rfl, ?_⟩
            by_cases c : d' < d + 1
            · rw [cp2, decide_eq_true c, if_pos rfl] at tk
              refine iteP (by exact_mod_cast c) ⟨_, h2, Nat.lt_of_le_of_lt (show _ ≤ 200 by rw [List.length_map]; omega) (by decide), h1.mut hE, us ++ [t], by rw [upd_same, List.map_append]; rfl, ?_⟩
              rw [tk]
              exact Paired.snoc (F := fun t p => H3 t = some (HO.tup [V.int (p : Nat), V.int (tg m p : Nat)])) htp h3
            · rw [cp2, decide_eq_false c, if_neg (by decide), List.append_nil] at tk
              refine iteN (by exact_mod_cast c) ⟨h1, us, h2, ?_⟩
              rw [tk]
              exact h3
          · rintro N HN hN ⟨h1, us, h2, h3⟩
            rw [List.length_map, lts, List.take_length] at h3
            obtain ⟨n1, n2, n3⟩ := nrr_ok hw F cp g6
            have fst0 := nrr_filt hw F cp g6
            obtain ⟨t, ht, htp⟩ := paired_of h3 fst0
            refine ixl (SqL.of h2) (atI_nat (j := 0) (by rw [List.getElem?_map, ht]; rfl)) ⟨t, rfl, _, SqT.of (h1 _ _ htp), rfl, _, _, rfl, _, _, rfl, rfl, ?_⟩
            have fN := f36.trans h1
            have wN := fN _ _ g5
            have ld : dn.length ≤ (wyF bs room (fin bs room gl) d0 st).length := by rw [← g7, List.length_append]; omega
            rw [wyF_len] at ld
            have d0b := dst_le hn cd
            refine ⟨.inl ⟨rfl, _, SqL.of wN⟩, wy, _, _, rfl, rfl, wN, by rw [nI_len, sizeLine_eq]; omega, _, dn ++ [nrr bs room (fin bs room gl) m d], _, _, _, rfl, (f4.trans fN).mut hwy0, ?_, by rw [upd_same, nI_snoc], n3, ?_, hwy0⟩
            · rw [upd_ne (fun z => by rw [← z, fN _ _ g4] at wN; cases wN)]
              exact fN _ _ g4
            · rw [← g7, List.append_assoc]
              rfl
    · rw [if_neg cp] at g1 ⊢
      refine iteT (k _ _ f1 ?_)
      unfold lwy
      rw [if_neg cp]
      rfl
end


/-! ### fewest_moves, least_room -/
/-- a dict that was just made is walked, locked from then on -/
def iKeysL (td : TE) : TI := fun σ H R => td σ H fun x H1 => ∃ (d : Addr) (kvs : List (L2.Key × V)), x = .ref d ∧ H1 d = some (.dK kvs) ∧ ∀ o, R (Itk d o kvs) (upd H1 d (.frz o (.dK kvs)))
theorem pi_keysL {X : Cx} {tg e : Expr} {td : TE} (he : PE X e td) : PI X tg e (iKeysL td) := by
  refine ⟨fun pns s σ H R I h => ?_⟩
  refine thn (he.run pns s σ H _ I h) fun u s1 ⟨x, H1, I1, rx, d, kvs, ex, hd0, q⟩ => ?_
  subst ex
  obtain rfl : u = (Value.ref d) := rx
  obtain ⟨o, I2⟩ := I1.lock hd0 trivial
  obtain ⟨hs, hgd, hx, es, ep, vs, hdt, hsz, kv, hm⟩ := I2.frzK (kvs := kvs) (o := o) upd_same
  refine iter_keys hs hgd hx hdt (pi_one (tk := s1.toks) I2 _ (turn_keys _ hdt) ⟨_, Heap.get?_push_size _ rfl, rfl, ?_⟩ (q o))
  rw [hsz] <;> rfl
theorem pe_tst_b {X : Cx} {s : Shared} {H : Hp} {scope : Scope} {env : Env} {fp : List Addr} {i : Nat} {a : Str} {p1 p2 : Pos} {e : Expr} {t : TA} (hN : X.N[i]? = some a) (hv : Vis env.scope a) (hr : Room 1 X.A) (he : PA (X.blk s H scope env fp) [e] t) (hd : (a == ("__debug__" : Str)) = false := by decide) (hcd : (a == ("__classdict__" : Str)) = false := by decide)
    (hs : starEach [e] env = (false, eval e env) :: starEach [] env := by rfl) (hpl : (backTo p2 (starEach [] env)).any (·.1) = false := by rfl) : PE (X.blk s H scope env fp) (.Call (.Name a p1) [e] [] p2) (tTst X 0 i t) :=
  pe_tst (X := X.blk s H scope env fp) (k := 0) hN hv hr he pass0 hd hcd hs hpl
section
variable {P : Program} {w : World} {K : PySem.W.Frag} {mg : Str → Option Value} {base : Heap} {a : Ad}
def spLR (P : Program) (w : World) (K : PySem.W.Frag) (mg : Str → Option Value) (a : Ad) (base : Heap) : Sp := fun vs H Q _ => ∃ (x f : Addr) (bs : List (List Nat)) (e n0 : Nat) (pre : Hp → Prop) (wn : Nat → Bool), vs = [.ref x, .ref f] ∧ BareAt a.c_Bare H x bs e ∧ bs.length ≤ 8 ∧ TstB P w K mg base 0 f pre wn ∧
  (∀ H H', Evl.Ex H H' → pre H → pre H') ∧ pre H ∧ n0 ≤ 200 ∧ 1 ≤ n0 ∧ (∃ y, y ∈ (fin bs n0 0).map Prod.fst ∧ wn y = true) ∧ (∀ r, r < n0 → 1 ≤ r → ∀ y ∈ (fin bs r 0).map Prod.fst, wn y = false) ∧ ∀ H', Evl.Ex H H' → Q (.int n0) H'
def ivLR (H : Hp) (x f : Addr) (n0 : Nat) (m : Nat) (σ : L2.St) (H' : Hp) : Prop := ∃ (r : Nat) (v3 : Option V), m = n0 - r ∧ 1 ≤ r ∧ r ≤ n0 ∧ σ = [some (.ref x), some (.ref f), some (.int (r : Nat)), v3] ∧ Evl.Ex H H'
theorem ok_least_room (T : Txt K mg a) : FnOk P w K mg base CX0 3 a.f_least_room a.d_least_room ["bare", "is_wanted"] (spLR P w K mg a base) := by
  refine T.F_least_room.ok sc_least_room (fun vs H Q E h => ?_) (fun cdv A outer s H vs Q E hr h => ?_)
  · obtain ⟨_, _, _, _, _, _, _, rfl, _⟩ := h
    rfl
  · obtain ⟨x, f, bs, e, n0, pre, wn, rfl, hB, hn, hT, hst, hp, hn0, hn1, hyes, hno, k⟩ := h
    refine ⟨_, (pss_cons (ps_set (i := 2) sc_least_room.nd rfl (by first | exact Or.inl rfl | exact Or.inr rfl) pe_int)
  (pss_cons (ps_while (by first | exact passes_of rfl | exact PassesOwn.never) (pt_not (pt_val (pe_callB (cr_any rfl) (by rfl) T.z_any (by decide +kernel) (pa_cons (pe_lc (own := [("standing", 3)]) (g := gName 3) (tt := tYes) rfl sc_least_room.nd (pi_keysL (pe_call (ok_distances_from T) (hr.mono (by decide)) rfl T.m_distances_from T.F_distances_from.kp T.b_distances_from .nil pass0 (pa_cons (pv 0) (pa_cons (pv 2) (pa_cons pe_int pa_nil))))) (blkOk_by (own := [("standing", 3)]) (N := ["bare", "is_wanted", "room", "standing"]) (sc := defScope s_least_room) (by decide +kernel)) (fun _ _ _ _ _ => pg_name (i := 3) sc_least_room.nd rfl (Or.inl rfl)) (fun _ _ _ _ _ => pts_nil) (fun _ _ _ _ _ => (pe_tst_b (i := 1) rfl (by first | exact .inr (.inr rfl) | exact .inr (.inr (by decide)) | exact .inl rfl | exact .inr (.inl rfl)) (hr.mono (by decide)) (pa_cons (pv 3) pa_nil)))) pa_nil)))) (pss_one (ps_aug (i := 2) sc_least_room.nd rfl (by first | exact Or.inl rfl | exact Or.inr rfl) pe_int ip_add)))
  (pss_one (ps_ret (pv 2))))), ?_⟩
    walk_at "sm"
    refine ⟨ivLR H x f n0, ⟨_, 1, none, rfl, Nat.le_refl _, hn1, rfl, Evl.Ex.refl _⟩, ?_⟩
    rintro m σ HX ⟨r, v3, rfl, hr1, hr2, rfl, f1⟩
    walk_at "sm"
    refine ⟨_, rfl, _, rfl, x, bs, e, r, 0, rfl, hB.go f1, hn, Nat.two_pow_pos _, fun d H2 f2 hd0 hd => ⟨d, _, rfl, hd, fun o => ?_⟩⟩
    rw [pc_zero, if_pos (Nat.zero_le _)] at hd ⊢
    have f3 : Evl.Ex HX (L2.upd H2 d (.frz o (.dK (kvQ Prod.snd (fin bs r 0))))) := f2.mut hd0
    have hz : L2.upd H2 d (.frz o (.dK (kvQ Prod.snd (fin bs r 0)))) d = some (.frz o (.dK (kvQ Prod.snd (fin bs r 0)))) := upd_same
    generalize L2.upd H2 d (.frz o (.dK (kvQ Prod.snd (fin bs r 0)))) = H3 at f3 hz ⊢
    have big : (fin bs r 0).length ≤ 256 := Nat.le_trans (rn_len (Nat.two_pow_pos _) _) (show 2 ^ bs.length ≤ 2 ^ 8 from Nat.pow_le_pow_right (by decide) hn)
    refine lcg_en (n := (kvQ Prod.snd (fin bs r 0)).length) (fun E j H' => Evl.Ex H3 H' ∧ H' E = some (.lst (((((fin bs r 0).map Prod.fst).take j).map wn).map V.bl))) (fun E hE => ⟨Evl.Ex.new hE, upd_same⟩) (fun E j HY hE hj h => ⟨h.1 _ _ hz, hj⟩) (fun E HY hE h => ⟨h.1 _ _ hz, Nat.le_refl _⟩) ?_ ?_
    · rintro E j y HY HY' hE hj ⟨h1, h2⟩ ⟨rfl, k0, v0, hk, rfl⟩
      obtain ⟨en, hen, hke⟩ : ∃ en, (fin bs r 0)[j]? = some en ∧ k0 = .inl (en.1 : Int) := by
        unfold kvQ at hk
        rw [List.getElem?_map] at hk
        cases c : (fin bs r 0)[j]? with
        | none => rw [c] at hk; cases hk
        | some en => rw [c] at hk; exact ⟨en, rfl, by have := Option.some.inj hk; exact (congrArg Prod.fst this).symm⟩
      subst hke
      have jl := (List.getElem?_eq_some_iff.mp hen).1
      walk_at "sm"
      refine ⟨f, pre, wn, rfl, hT, ?_⟩
      walk_at "sm"
      refine ⟨en.1, rfl, hst _ _ (f1.trans (f3.trans h1)) hp, _, h2, by rw [List.length_map, List.length_map, List.length_take, sizeLine_eq]; omega, h1.mut hE, ?_⟩
      rw [upd_same, List.take_succ, List.getElem?_map, hen, Option.map_some, Option.toList_some, List.map_append, List.map_append]
      rfl
    · rintro N HN hN ⟨h1, h2⟩
      rw [kvQ_len, List.take_of_length_le (by rw [List.length_map]; exact Nat.le_refl _)] at h2
      refine ⟨N, _, rfl, SqL.of h2, ?_⟩
      have fN := f1.trans (f3.trans h1)
      by_cases c : r = n0
      · subst c
        obtain ⟨y, y1, y2⟩ := hyes
        have : (((fin bs r 0).map Prod.fst).map wn).any id = true := List.any_eq_true.mpr ⟨true, List.mem_map.mpr ⟨y, y1, y2⟩, rfl⟩
        rw [this]
        refine ⟨true, rfl, iteF ?_⟩
        walk_at "sm"
        exact k HN fN
      · have : (((fin bs r 0).map Prod.fst).map wn).any id = false := by
          rw [List.any_eq_false]
          intro b hb
          obtain ⟨y, y1, rfl⟩ := List.mem_map.mp hb
          rw [hno r (by omega) hr1 y y1]
          exact Bool.false_ne_true
        rw [this]
        refine ⟨false, rfl, iteT ⟨fun σ' H' => ivLR H x f n0 (n0 - (r + 1)) σ' H', fun σ' H' h => ⟨_, by omega, h⟩, ?_⟩⟩
        walk_at "sm"
        exact ⟨r + 1, _, rfl, by omega, by omega, rfl, fN⟩
end


/-! ### price_of, price_curve -/
open LamX (CodeO TabS Tabs ExtN TabB)
def lmSB (p y : Str) (scope : Scope) : Bool :=
  decide (scope.kind = .function) && !scope.isCoroutine && !scope.isGenerator && decide (scope.names.lookup p = some .local) && decide (scope.names.lookup y = some .free) && scope.names.all fun z => !decide (z.2 = .cell) && (!decide (z.2 = .local) || decide (z.1 = p)) && (!decide (z.2 = .free) || decide (z.1 = y))
theorem lmS_by {p y : Str} {scope : Scope} (h : lmSB p y scope = true) : LmS p y scope := by
  unfold lmSB at h
  simp only [List.all_eq_true, Bool.and_eq_true, Bool.or_eq_true, Bool.not_eq_true', decide_eq_true_eq, decide_eq_false_iff_not] at h
  obtain ⟨⟨⟨⟨⟨h1, h2⟩, h3⟩, h4⟩, h5⟩, h6⟩ := h
  refine ⟨h1, h2, h3, h4, h5, fun z hz => (h6 z hz).1.1, fun z hz e => ?_, fun z hz e => ?_⟩
  · exact (h6 z hz).1.2.resolve_left fun k => k e
  · exact (h6 z hz).2.resolve_left fun k => k e
theorem pe_fld_l {CX : CXT} {P : Program} {w : World} {K : PySem.W.Frag} {mg : Str → Option Value} {base : Heap} {q : Str} {scope : Scope} {f c' c : Addr} {p y : Str} {A : Around} {outer : List Env} {s : Shared} {H : Hp} {E : XK} {e : Expr} {n : Str} {pos : Pos} {te : TE} (he : PE (lmCx CX P w K mg base q scope f c' p y c A outer s H E) e te)
    (hb : attributeBase e n (lmCx CX P w K mg base q scope f c' p y c A outer s H E).env (eval e (lmCx CX P w K mg base q scope f c' p y c A outer s H E).env) = eval e (lmCx CX P w K mg base q scope f c' p y c A outer s H E).env) : PE (lmCx CX P w K mg base q scope f c' p y c A outer s H E) (.Attribute e n pos) (tFld K te n) := pe_fld he hb
theorem Fun.okXC {P : Program} {w : World} {K : PySem.W.Frag} {mg : Str → Option Value} {base : Heap} {x qual : Str} {st : Stmt} {f c : Addr} {fd : FuncData} {N ps : List Str} {k : Nat} {sp : Sp} (F : L2.Fun K x qual st f fd) (hc : fd.code = .ref c) (S : FnScope N ps (defScope st)) (len : ∀ vs H Q E, sp vs H Q E → vs.length = ps.length)
    (hbody : ∀ (A : Around) (outer : List Env) (s : Shared) (H : Hp) (vs : List V) (Q : VK) (E : XK), Room k (A.deeper (envOfC qual (defScope st) s.heap.objs.size f (.ref c))) → sp vs H Q E →
      ∃ t, PSs (cxOf (L2.CX P w) P w K mg base N qual (defScope st) f (.ref c) A outer s H E) (defBody st) t ∧ t { nx := fun _ H' => Q .non H', rt := Q } (L2.start N vs) H) : FnOk P w K mg base (L2.CX P w) (k + 1) f fd ps sp := by
  obtain ⟨oc, od, kV, doc, pm, an, cv, ct, sl, rfl, lk, hcd⟩ := F.ex
  obtain rfl : cv = .ref c := hc
  exact fn_of lk hcd S len fun A outer s H vs Q E hr hsp => hbody A outer s H vs Q E hr hsp
def lamQ (x : Str) : Str := (x ++ ".<locals>.") ++ "<lambda>"
/-- the least room in which there is a row -/
structure PrOk (bs : List (List Nat)) (e pr : Nat) : Prop where
  one : 1 ≤ pr
  le : pr ≤ bs.length
  no : ∀ r, 1 ≤ r → r < pr → rowR_ bs e r = none
  yes : ∃ l, rowR_ bs e pr = some l
theorem least_ex {p : Nat → Prop} : ∀ n, p n → ∃ m, m ≤ n ∧ p m ∧ ∀ r, r < m → ¬ p r := by
  intro n
  induction n using Nat.strongRecOn with
  | ind n ih =>
    intro h
    by_cases c : ∃ r, r < n ∧ p r
    · obtain ⟨r, h1, h2⟩ := c
      obtain ⟨m, h3, h4, h5⟩ := ih r h1 h2
      exact ⟨m, by omega, h4, h5⟩
    · exact ⟨n, Nat.le_refl _, h, fun r hr hp => c ⟨r, hr, hp⟩⟩
theorem price_ex {bs : List (List Nat)} {e : Nat} (w : WebOk bs e) : ∃ pr, PrOk bs e pr := by
  have hn := w.ok.1
  obtain ⟨m, h1, ⟨h2, h3⟩, h4⟩ := least_ex (p := fun r => 1 ≤ r ∧ ∃ l, rowR_ bs e r = some l) bs.length ⟨hn, by
    obtain ⟨l, h, _⟩ := row_n w (Nat.le_refl _)
    exact ⟨l, h⟩⟩
  refine ⟨m, h2, h1, fun r r1 r2 => ?_, h3⟩
  cases c : rowR_ bs e r with
  | none => rfl
  | some l => exact absurd ⟨r1, l, c⟩ (h4 r r2)
theorem BareAt.nx {C : Addr} {H H' : Hp} {x : Addr} {bs : List (List Nat)} {e : Nat} (k : ExtN H H') (h : BareAt C H x bs e) : BareAt C H' x bs e := by
  have kp : Kp H H' := ⟨fun b xs e => k b _ e (fun _ z => nomatch z), fun b xs e => k b _ e (fun _ z => nomatch z)⟩
  obtain ⟨dx, p, af, od, nd, h1, h2, h3, h4, h5⟩ := h
  exact ⟨dx, p, af, od, nd, k _ _ h1 (fun _ z => nomatch z), h2.go kp, h3.go kp, k _ _ h4 (fun _ z => nomatch z), k _ _ h5 (fun _ z => nomatch z)⟩
/-- the least room in which such a standing is reached -/
structure LsOk (bs : List (List Nat)) (wn : Nat → Bool) (r : Nat) : Prop where
  one : 1 ≤ r
  le : r ≤ bs.length
  yes : ∃ y, y ∈ (fin bs r 0).map Prod.fst ∧ wn y = true
  no : ∀ r', r' < r → 1 ≤ r' → ∀ y ∈ (fin bs r' 0).map Prod.fst, wn y = false
theorem ls_ex {bs : List (List Nat)} {wn : Nat → Bool} {n : Nat} (h1 : 1 ≤ n) (hn : n ≤ bs.length) (h : ∃ y, y ∈ (fin bs n 0).map Prod.fst ∧ wn y = true) : ∃ r, LsOk bs wn r := by
  obtain ⟨m, m1, ⟨m2, m3⟩, m4⟩ := least_ex (p := fun r => 1 ≤ r ∧ ∃ y, y ∈ (fin bs r 0).map Prod.fst ∧ wn y = true) n ⟨h1, h⟩
  refine ⟨m, m2, by omega, m3, fun r' h1 h2 y hy => ?_⟩
  cases c : wn y with
  | false => rfl
  | true => exact absurd ⟨h2, y, hy, c⟩ (m4 r' h1)
theorem fin_key {bs : List (List Nat)} {r a x : Nat} (ha : a < 2 ^ bs.length) : x ∈ (fin bs r a).map Prod.fst ↔ (dst (fin bs r a) x).isSome = true := by
  have nd := (rn_qi (room := r) ha (2 ^ bs.length)).nd
  rw [← decide_eq_true_eq (p := x ∈ (fin bs r a).map Prod.fst), ← find_mem]
  unfold dst
  rw [Option.isSome_map]
theorem key_row {bs : List (List Nat)} {e : Nat} (hw : WebOk bs e) (r : Nat) : (2 ^ e ∈ (fin bs r 0).map Prod.fst) ↔ ∃ l, rowR_ bs e r = some l := by
  rw [fin_key (Nat.two_pow_pos _), dst_iff (My.ns hw) (Nat.two_pow_pos _) (pe_lt hw) (by rw [pc_zero]; exact Nat.zero_le _)]
  exact Option.isSome_iff_exists
theorem wk_key {bs : List (List Nat)} {r x : Nat} {ps : List Nat} (w : Wk bs r 0 ps x) : x ∈ (fin bs r 0).map Prod.fst := by
  obtain ⟨d, hd, _⟩ := wk_fin (fin_fi (room := r) (Nat.two_pow_pos bs.length)) w (fin_fi (Nat.two_pow_pos _)).z
  rw [fin_key (Nat.two_pow_pos _), hd]
  rfl
theorem key_wk {bs : List (List Nat)} {r x : Nat} (h : x ∈ (fin bs r 0).map Prod.fst) : ∃ ps, Wk bs r 0 ps x := by
  rw [fin_key (Nat.two_pow_pos _)] at h
  obtain ⟨d, hd⟩ := Option.isSome_iff_exists.mp h
  obtain ⟨ps, _, w⟩ := fin_wk (fin_fi (Nat.two_pow_pos _)) d hd
  exact ⟨ps, w⟩
theorem ls_price {bs : List (List Nat)} {e : Nat} (hw : WebOk bs e) : ∃ r, LsOk bs (fun y => decide (y = 2 ^ e)) r := by
  obtain ⟨l, hl, _⟩ := row_n hw (Nat.le_refl _)
  exact ls_ex hw.ok.1 (Nat.le_refl _) ⟨2 ^ e, (key_row hw _).mpr ⟨l, hl⟩, decide_eq_true rfl⟩
theorem ls_shown {bs : List (List Nat)} {e : Nat} (hw : WebOk bs e) : ∃ r, LsOk bs (fun y => y.testBit e) r := by
  obtain ⟨l, hl, _⟩ := row_n hw (Nat.le_refl _)
  exact ls_ex hw.ok.1 (Nat.le_refl _) ⟨2 ^ e, (key_row hw _).mpr ⟨l, hl⟩, by rw [bit_pow]; exact decide_eq_true rfl⟩
theorem ready_at {bs : List (List Nat)} {e r x : Nat} {ps : List Nat} (h : Wk bs r 0 ps x) (hx : x.testBit e = true) : ∃ y, y ∈ (fin bs r 0).map Prod.fst ∧ hld bs y e = true := by
  have he : e ∈ ps := List.count_pos_iff.mp (by
    have := wk_bit h e
    rw [hx, zb, Bool.false_xor] at this
    have := of_decide_eq_true this.symm
    omega)
  obtain ⟨u, v, rfl⟩ := List.append_of_mem he
  obtain ⟨m, h1, h2, _⟩ := wk_split h
  exact ⟨m, wk_key h1, (mvs_mem.mp h2).2.1⟩
theorem ls_ready {bs : List (List Nat)} {e : Nat} (hw : WebOk bs e) : ∃ r, LsOk bs (fun y => hld bs y e) r := by
  obtain ⟨l, hl, _⟩ := row_n hw (Nat.le_refl _)
  exact ls_ex hw.ok.1 (Nat.le_refl _) (ready_at (row_wk hw hl) (by rw [bit_pow]; exact decide_eq_true rfl))
section
variable {P : Program} {w : World} {K : PySem.W.Frag} {mg : Str → Option Value} {base : Heap} {a : Ad}
def spPO_ (a : Ad) (TL : List (Addr × Str)) (W : List (List Nat) → Nat → Nat → Prop) : Sp := fun vs H Q E => ∃ (x : Addr) (bs : List (List Nat)) (e : Nat), vs = [.ref x] ∧ BareAt a.c_Bare H x bs e ∧ WebOk bs e ∧ Tabs TL H ∧ (8 < bs.length → RzP a.c_TooMany "most" (.int 8) H E) ∧ (bs.length ≤ 8 → ∀ pr H', ExtN H H' → Tabs TL H' → W bs e pr → Q (.int (pr : Nat)) H')
abbrev Wprice (bs : List (List Nat)) (e r : Nat) : Prop := LsOk bs (fun y => decide (y = 2 ^ e)) r
abbrev Wshown (bs : List (List Nat)) (e r : Nat) : Prop := LsOk bs (fun y => y.testBit e) r
def Wready (bs : List (List Nat)) (e r : Nat) : Prop := (msk (row bs e) = 0 ∧ r = 0) ∨ (msk (row bs e) ≠ 0 ∧ LsOk bs (fun y => hld bs y e) r)
theorem ok_price_of {TL : List (Addr × Str)} {c Pt : Addr} (T : Txt K mg a) (TB : TabB base mg c Pt) (hcd : a.d_price_of.code = .ref c) (hmL : (Pt, lamQ "price_of") ∈ TL) (huL : ∀ p ∈ TL, p.1 = Pt → p.2 = lamQ "price_of") : FnOk P w K mg base (L2.CX P w) 4 a.f_price_of a.d_price_of ["bare"] (spPO_ a TL Wprice) := by
  refine Fun.okXC T.F_price_of hcd sc_price_of (fun vs H Q E h => ?_) (fun A outer s H vs Q E hr h => ?_)
  · obtain ⟨_, _, _, rfl, _⟩ := h
    rfl
  · obtain ⟨x, bs, e, rfl, hB, hw, hT, k1, k⟩ := h
    refine ⟨_, (pss_cons (ps_expr (pe_call (ok_check_small T) (hr.mono (by decide)) rfl T.m_check_small T.F_check_small.kp T.b_check_small .nil (passes_call (takes_of rfl rfl rfl rfl) (fun _ _ _ _ q => q)) (pa_cons (pv 0) pa_nil)))
  (pss_one (ps_ret (pe_lmcall (T := TL) (p := "standing") (y := "bare") (j := 0) (k := 0) (CX := CX0) (E := E0) (sp := spLR P w K mg a) rfl T.m_least_room T.F_least_room.kp (fun _ => ok_least_room T) T.b_least_room (hr.mono (by decide)) pass0 (pv 0) TB rfl hmL huL (lmS_by (by decide +kernel)) (by decide) (fun _ => rfl) rfl rfl rfl rfl (fun _ _ _ _ _ _ => rfl) (fun _ _ _ _ _ _ _ _ _ _ => pe_cmpR op_eq (pv 0) (pe_op op_shlK pe_int (pe_fld_l (pv 1) rfl)) (nomark _)))))), ?_⟩
    walk_at "sm"
    refine ⟨x, bs, e, rfl, hB, hw.ok.2.1, fun hn => ?_, fun h d H' f hd => k1 h d H' f hd⟩
    refine ⟨_, rfl, .ref x, rfl, hT, fun base' f c' H2 eN T2 hco hts => ?_⟩
    obtain ⟨pr, hpr⟩ := ls_price hw
    have hB2 := hB.nx eN
    have el := hw.lt
    refine ⟨x, f, bs, e, pr, fun H => H c' = some (CodeO c' (lamQ "price_of")) ∧ BareAt a.c_Bare H x bs e, fun m => decide (m = 2 ^ e), rfl, hB2, hn, ?_, fun H H' f h => ⟨f _ _ h.1, h.2.go f⟩, ⟨hco, hB2⟩, by have := hpr.le; omega, hpr.one, hpr.yes, hpr.no, fun H' f => k hn pr H' (fun b o h n => f _ _ (eN b o h n)) (T2.ext f) hpr⟩
    refine hts _ _ (fun H h => h.1) fun m HX Q' h hQ => ?_
    obtain ⟨dx, p, af, od, nd, h1, _⟩ := h.2
    walk_at "sm"
    refine ⟨_, dx, _, h1, T.ic_Bare.cl, T.na_Bare_end, _, rfl, e, rfl, by omega, ?_⟩
    rw [show decide ((m : Int) = ((2 ^ e : Nat) : Int)) = decide (m = 2 ^ e) from decide_eq_decide.mpr ⟨fun z => by exact_mod_cast z, fun z => by exact_mod_cast z⟩]
    exact hQ
theorem ok_shown_price_of {TL : List (Addr × Str)} {c Pt : Addr} (T : Txt K mg a) (TB : TabB base mg c Pt) (hcd : a.d_shown_price_of.code = .ref c) (hmL : (Pt, lamQ "shown_price_of") ∈ TL) (huL : ∀ p ∈ TL, p.1 = Pt → p.2 = lamQ "shown_price_of") : FnOk P w K mg base (L2.CX P w) 4 a.f_shown_price_of a.d_shown_price_of ["bare"] (spPO_ a TL Wshown) := by
  refine Fun.okXC T.F_shown_price_of hcd sc_shown_price_of (fun vs H Q E h => ?_) (fun A outer s H vs Q E hr h => ?_)
  · obtain ⟨_, _, _, rfl, _⟩ := h
    rfl
  · obtain ⟨x, bs, e, rfl, hB, hw, hT, k1, k⟩ := h
    refine ⟨_, (pss_cons (ps_expr (pe_call (ok_check_small T) (hr.mono (by decide)) rfl T.m_check_small T.F_check_small.kp T.b_check_small .nil (passes_call (takes_of rfl rfl rfl rfl) (fun _ _ _ _ q => q)) (pa_cons (pv 0) pa_nil)))
  (pss_one (ps_ret (pe_lmcall (T := TL) (p := "standing") (y := "bare") (j := 0) (k := 0) (CX := CX0) (E := E0) (sp := spLR P w K mg a) rfl T.m_least_room T.F_least_room.kp (fun _ => ok_least_room T) T.b_least_room (hr.mono (by decide)) pass0 (pv 0) TB rfl hmL huL (lmS_by (by decide +kernel)) (by decide) (fun _ => rfl) rfl rfl rfl rfl (fun _ _ _ _ _ _ => rfl) (fun _ _ _ _ _ _ _ _ _ _ => pe_cmpR op_eq (pe_op op_odd (pe_op op_shrK (pv 0) (pe_fld_l (pv 1) rfl)) pe_int) pe_int (nomark _)))))), ?_⟩
    walk_at "sm"
    refine ⟨x, bs, e, rfl, hB, hw.ok.2.1, fun hn => ?_, fun h d H' f hd => k1 h d H' f hd⟩
    refine ⟨_, rfl, .ref x, rfl, hT, fun base' f c' H2 eN T2 hco hts => ?_⟩
    obtain ⟨pr, hpr⟩ := ls_shown hw
    have hB2 := hB.nx eN
    have el := hw.lt
    refine ⟨x, f, bs, e, pr, fun H => H c' = some (CodeO c' (lamQ "shown_price_of")) ∧ BareAt a.c_Bare H x bs e, fun m => m.testBit e, rfl, hB2, hn, ?_, fun H H' f h => ⟨f _ _ h.1, h.2.go f⟩, ⟨hco, hB2⟩, by have := hpr.le; omega, hpr.one, hpr.yes, hpr.no, fun H' f => k hn pr H' (fun b o h n => f _ _ (eN b o h n)) (T2.ext f) hpr⟩
    refine hts _ _ (fun H h => h.1) fun m HX Q' h hQ => ?_
    obtain ⟨dx, p, af, od, nd, h1, _⟩ := h.2
    walk_at "sm"
    refine ⟨_, dx, _, h1, T.ic_Bare.cl, T.na_Bare_end, _, rfl, m, rfl, e, rfl, _, rfl, ?_⟩
    have tb : decide (((m / 2 ^ e % 2 : Nat) : Int) = 1) = m.testBit e := by
      rw [← tru_bit]
      have h2 : m / 2 ^ e % 2 < 2 := Nat.mod_lt _ (by decide)
      rcases (show m / 2 ^ e % 2 = 0 ∨ m / 2 ^ e % 2 = 1 by omega) with z | z <;> rw [z] <;> rfl
    rw [tb]
    exact hQ
theorem ok_ready_price_of {TL : List (Addr × Str)} {c Pt : Addr} (T : Txt K mg a) (TB : TabB base mg c Pt) (hcd : a.d_ready_price_of.code = .ref c) (hmL : (Pt, lamQ "ready_price_of") ∈ TL) (huL : ∀ p ∈ TL, p.1 = Pt → p.2 = lamQ "ready_price_of") : FnOk P w K mg base (L2.CX P w) 4 a.f_ready_price_of a.d_ready_price_of ["bare"] (spPO_ a TL Wready) := by
  refine Fun.okXC T.F_ready_price_of hcd sc_ready_price_of (fun vs H Q E h => ?_) (fun A outer s H vs Q E hr h => ?_)
  · obtain ⟨_, _, _, rfl, _⟩ := h
    rfl
  · obtain ⟨x, bs, e, rfl, hB, hw, hT, k1, k⟩ := h
    refine ⟨_, (pss_cons (ps_expr (pe_call (ok_check_small T) (hr.mono (by decide)) rfl T.m_check_small T.F_check_small.kp T.b_check_small .nil (passes_call (takes_of rfl rfl rfl rfl) (fun _ _ _ _ q => q)) (pa_cons (pv 0) pa_nil)))
  (pss_cons (ps_set (i := 1) sc_ready_price_of.nd rfl (by first | exact Or.inl rfl | exact Or.inr rfl) (pe_ix ix_tup (pe_fld (pv 0) rfl) (pe_fld (pv 0) rfl) (fun _ _ => rfl)))
  (pss_one (ps_ret (pe_ifExp (pt_truth (pv 1) (by intro _; rfl)) (pe_lmcall (T := TL) (p := "standing") (y := "need") (j := 1) (k := 0) (CX := CX0) (E := E0) (sp := spLR P w K mg a) rfl T.m_least_room T.F_least_room.kp (fun _ => ok_least_room T) T.b_least_room (hr.mono (by decide)) pass0 (pv 0) TB rfl hmL huL (lmS_by (by decide +kernel)) (by decide) (fun _ => rfl) rfl rfl rfl rfl (fun _ _ _ _ _ _ => rfl) (fun _ _ _ _ _ _ _ _ _ _ => pe_cmpR op_eq (pe_op op_andNot (pv 1) (pe_un un_inv (pv 0))) pe_int (nomark _))) pe_int))))), ?_⟩
    obtain ⟨dx, p, af, od, nd, h1, h2, h3, h4, h5⟩ := id hB
    have el := hw.lt
    walk_at "sm"
    refine ⟨x, bs, e, rfl, hB, hw.ok.2.1, fun hn => ?_, fun h d H' f hd => k1 h d H' f hd⟩
    obtain ⟨bb, hb⟩ : ∃ bb, bs[e]? = some bb := ⟨_, List.getElem?_eq_getElem el⟩
    have rowb := row_of hb
    refine ⟨_, dx, _, h1, T.ic_Bare.cl, T.na_Bare_needs, _, rfl, _, dx, _, h1, T.ic_Bare.cl, T.na_Bare_end, _, rfl, ixt h5 (atI_nat (nI_get (by rw [List.getElem?_map, hb]; rfl))) ⟨_, rfl, ?_⟩⟩
    by_cases c0 : msk bb = 0
    · rw [c0]
      exact iteN (by decide) (k hn 0 H (fun b o h n => h) hT (.inl ⟨by rw [rowb]; exact c0, rfl⟩))
    · refine iteP (by simpa using c0) ?_
      refine ⟨_, rfl, .int (msk bb : Nat), rfl, hT, fun base' f c' H2 eN T2 hco hts => ?_⟩
      obtain ⟨pr, hpr⟩ := ls_ready hw
      have hB2 := hB.nx eN
      refine ⟨x, f, bs, e, pr, fun H => H c' = some (CodeO c' (lamQ "ready_price_of")), fun y => hld bs y e, rfl, hB2, hn, ?_, fun H H' f h => f _ _ h, hco, by have := hpr.le; omega, hpr.one, hpr.yes, hpr.no, fun H' f => k hn pr H' (fun b o h n => f _ _ (eN b o h n)) (T2.ext f) (.inr ⟨by rw [rowb]; exact c0, hpr⟩)⟩
      refine hts _ _ (fun H h => h) fun m HX Q' h hQ => ?_
      walk_at "sm"
      refine ⟨msk bb, rfl, m, rfl, fun kk hk => ?_⟩
      have : decide ((kk : Int) = 0) = hld bs m e := by
        have kh : kk = 0 ↔ hld bs m e = true := by rw [hk, ← hld_msk, rowb]
        cases d : hld bs m e with
        | true =>
          rw [kh.mpr d]
          rfl
        | false =>
          refine decide_eq_false fun z => ?_
          have z0 : kk = 0 := by exact_mod_cast z
          rw [kh.mp z0] at d
          cases d
      rw [this]
      exact hQ
end


/-! ### the law's: filled, places, sizes -/
section
variable {P : Program} {w : World} {K : PySem.W.Frag} {mg : Str → Option Value} {base : Heap} {a : Ad}
def spFl : Sp := fun vs H Q _ => ∃ (n m : Nat), vs = [.int m, .int n] ∧ n ≤ 10 ∧ ∀ q H', Evl.Ex H H' → H' q = some (.tup ((nI (pcs n m)).map V.int)) → Q (.ref q) H'
theorem pw_lt {i : Nat} (h : i ≤ 20) : (2 : Int) ^ i < 1073741824 := by
  have : 2 ^ i ≤ 2 ^ 20 := Nat.pow_le_pow_right (by decide) h
  have h2 : (2 : Nat) ^ i < 1073741824 := Nat.lt_of_le_of_lt this (by decide)
  have h3 : ((2 ^ i : Nat) : Int) < ((1073741824 : Nat) : Int) := Int.ofNat_lt.mpr h2
  rw [Int.natCast_pow] at h3
  exact h3
theorem ok_law_filled (T : Txt K mg a) : FnOk P w K mg base CX0 2 a.f_law_filled a.d_law_filled ["_law_mask", "_law_many"] spFl := by
  refine T.F_law_filled.ok sc_law_filled (fun vs H Q E h => ?_) (fun cdv A outer s H vs Q E hr h => ?_)
  · obtain ⟨_, _, rfl, _⟩ := h
    rfl
  · obtain ⟨n, m, rfl, hn, k⟩ := h
    refine ⟨_, (pss_one (ps_ret (pe_callTy call_tuple_of (by rfl) T.z_tuple (by decide +kernel) (pa_cons (pe_lc (own := [("_law_place", 2)]) (g := gName 2)  rfl sc_law_filled.nd (pi_range1 (by rfl) T.z_range (pa_cons (pv 1) pa_nil)) (blkOk_by (own := [("_law_place", 2)]) (N := ["_law_mask", "_law_many", "_law_place"]) (sc := defScope s_law_filled) (by decide +kernel)) (fun _ _ _ _ _ => pg_name (i := 2) sc_law_filled.nd rfl (Or.inl rfl)) (fun _ _ _ _ _ => (pts_one (pt_cmpR op_eq (pe_op op_mod (pe_op op_fdiv (pe_callTy call_int1 (by rfl) T.z_int (by decide +kernel) (pa_cons (pv 0) pa_nil)) (pe_call (ok_law_two T) (hr.mono (by decide)) rfl T.m_law_two T.F_law_two.kp T.b_law_two .nil pass0 (pa_cons (pv 2) pa_nil))) pe_int) pe_int (nomark _)))) (fun _ _ _ _ _ => (pv 2))) pa_nil)))), ?_⟩
    walk_at "sm"
    refine ⟨by omega, by omega, lcg_range (lo := 0) (n := (n : Int).toNat) (ivPI H m) (fun D hD => ⟨Evl.Ex.new hD, upd_same⟩) (fun D i HX hD hi hv => ?_) fun D HX hD hv => ?_⟩
    · obtain ⟨f1, f2⟩ := hv
      rw [show (0 : Int) + (i : Int) = ((i : Nat) : Int) by omega]
      walk_at "sm"
      refine ⟨i, rfl, by omega, _, rfl, ⟨by exact_mod_cast Nat.two_pow_pos i, pw_lt (by omega)⟩, by decide, ?_⟩
      have tb : (((m : Int) / ((2 : Int) ^ i)) % 2 = 1) ↔ m.testBit i = true := by
        have e1 : ((m : Int) / ((2 : Int) ^ i)) % 2 = ((m / 2 ^ i % 2 : Nat) : Int) := by
          rw [Int.natCast_emod, Int.natCast_ediv, Int.natCast_pow]
          rfl
        rw [e1, ← tru_bit]
        have h2 : m / 2 ^ i % 2 < 2 := Nat.mod_lt _ (by decide)
        constructor
        · intro z
          have : m / 2 ^ i % 2 = 1 := by exact_mod_cast z
          rw [this]
          rfl
        · intro z
          have : ((m / 2 ^ i % 2 : Nat) : Int) ≠ 0 := by simpa using z
          omega
      have rs := pcs_succ i m
      have li := pcs_len i m
      by_cases c : m.testBit i = true
      · rw [if_pos c] at rs
        refine iteP (tb.mpr c) ⟨_, f2, Nat.lt_of_le_of_lt (show _ ≤ 200 by rw [nI_len]; omega) (by decide), f1.mut hD, ?_⟩
        rw [upd_same, rs, nI_snoc]
      · rw [if_neg c, List.append_nil] at rs
        refine iteN (fun z => c (tb.mp z)) ⟨f1, ?_⟩
        rw [rs]
        exact f2
    · obtain ⟨f1, f2⟩ := hv
      rw [Int.toNat_natCast] at f2
      exact ⟨_, rfl, _, .inl ⟨SqL.of f2, fun l hl => k l _ (f1.trans (Evl.Ex.new hl)) upd_same⟩⟩
def spLP (K : PySem.W.Frag) : Sp := fun vs H Q _ => ∃ (q : Addr) (xs : List V), vs = [.ref q] ∧ H q = some (.tup xs) ∧ xs.length ≤ 1000 ∧ (∀ x ∈ xs, ∃ n : Int, x = .int n) ∧ ∀ H', Evl.Ex H H' → Q (.bl true) H'
theorem ok_law_places (T : Txt K mg a) : FnOk P w K mg base CX0 2 a.f_law_places a.d_law_places ["_law_thing"] (spLP K) := by
  refine T.F_law_places.ok sc_law_places (fun vs H Q E h => ?_) (fun cdv A outer s H vs Q E hr h => ?_)
  · obtain ⟨_, _, rfl, _⟩ := h
    rfl
  · obtain ⟨q, xs, rfl, hq, hl, hx, k⟩ := h
    refine ⟨_, (pss_one (ps_ret (pe_and (pe_callB call_isi (by rfl) T.z_isinstance (by decide +kernel) (pa_cons (pv 0) (pa_cons (pe_bltn (v := .ty "tuple") (by rfl) T.z_tuple (by decide +kernel) rfl) pa_nil))) (pe_one (pe_callB (cr_all rfl) (by rfl) T.z_all (by decide +kernel) (pa_cons (pe_lc (own := [("_law_part", 1)]) (g := gName 1) (tt := tYes) rfl sc_law_places.nd (pi_tup (pv 0)) (blkOk_by (own := [("_law_part", 1)]) (N := ["_law_thing", "_law_part"]) (sc := defScope s_law_places) (by decide +kernel)) (fun _ _ _ _ _ => pg_name (i := 1) sc_law_places.nd rfl (Or.inl rfl)) (fun _ _ _ _ _ => pts_nil) (fun _ _ _ _ _ => (pe_call (ok_law_whole T) (hr.mono (by decide)) rfl T.m_law_whole T.F_law_whole.kp T.b_law_whole .nil pass0 (pa_cons (pv 1) pa_nil)))) pa_nil)))))), ?_⟩
    walk_at "sm"
    refine isi_ty (t := "tuple") (b := true) (.base (.tup hq)) (by decide +kernel) ⟨true, rfl, iteP rfl ⟨⟨_, SqT.of hq⟩, ?_⟩⟩
    refine lcg_en (n := xs.length) (fun E j H' => Evl.Ex H H' ∧ H' E = some (.lst (((List.range j).map fun _ => true).map V.bl))) (fun E hE => ⟨Evl.Ex.new hE, upd_same⟩) (fun E j HY hE hj h => ⟨xs, xs[j], SqT.of (h.1 _ _ hq), List.getElem?_eq_getElem hj⟩) (fun E HY hE h => ⟨xs, SqT.of (h.1 _ _ hq), Nat.le_refl _⟩) ?_ ?_
    · rintro E j y HY HY' hE hj ⟨h1, h2⟩ ⟨rfl, hy⟩
      obtain ⟨n, rfl⟩ := hx y (List.mem_of_getElem? (hy _ (SqT.of (h1 _ _ hq))))
      walk_at "sm"
      refine ⟨.int n, rfl, plain_int, _, h2, by rw [List.length_map, List.length_map, List.length_range, sizeLine_eq]; omega, h1.mut hE, ?_⟩
      rw [upd_same, List.range_succ, List.map_append, List.map_append]
      rfl
    · rintro N HN hN ⟨h1, h2⟩
      refine ⟨N, _, rfl, SqL.of h2, ?_⟩
      rw [show ((List.range xs.length).map fun _ => true).all id = true from List.all_eq_true.mpr fun b hb => by obtain ⟨_, _, rfl⟩ := List.mem_map.mp hb; rfl]
      exact k HN h1
def spSS : Sp := fun vs H Q _ => ∃ (p c : Addr), vs = [.ref p] ∧ HandAt H p c ∧ ∀ (n : Nat) H', 1 ≤ n → n ≤ 8 → Fr p H H' → HandAt H' p c → Q (.int n) H'
theorem ok_law_small_size (T : Txt K mg a) : FnOk P w K mg base CX0 4 a.f_law_small_size a.d_law_small_size ["_law_hand_here"] spSS := by
  refine T.F_law_small_size.ok sc_law_small_size (fun vs H Q E h => ?_) (fun cdv A outer s H vs Q E hr h => ?_)
  · obtain ⟨_, _, rfl, _⟩ := h
    rfl
  · obtain ⟨p, c, rfl, hh, k⟩ := h
    refine ⟨_, (pss_cons (ps_set (i := 1) sc_law_small_size.nd rfl (by first | exact Or.inl rfl | exact Or.inr rfl) (pe_call (ok_law_take T) (hr.mono (by decide)) rfl T.m_law_take T.F_law_take.kp T.b_law_take .nil pass0 (pa_cons (pv 0) (pa_cons pe_int pa_nil))))
  (pss_cons (ps_if (pt_cmpR op_eq (pv 1) pe_int (nomark _)) (pss_one (ps_ret (pe_op op_add pe_int (pe_call (ok_law_take T) (hr.mono (by decide)) rfl T.m_law_take T.F_law_take.kp T.b_law_take .nil pass0 (pa_cons (pv 0) (pa_cons pe_int pa_nil))))))
    pss_nil)
  (pss_one (ps_ret (pe_ifExp (pt_cmpR op_lt (pv 1) pe_int (nomark _)) pe_int (pe_op op_add pe_int (pe_call (ok_law_take T) (hr.mono (by decide)) rfl T.m_law_take T.F_law_take.kp T.b_law_take .nil pass0 (pa_cons (pv 0) (pa_cons pe_int pa_nil))))))))), ?_⟩
    walk_at "sm"
    refine tk hh (by decide) (by decide) fun r H1 r1 r2 f1 g1 => ⟨rfl, ?_⟩
    refine ite2 (fun _ => ?_) (fun _ => ⟨r, rfl, ite2 (fun _ => ?_) (fun _ => ?_)⟩)
    · refine tk g1 (by decide) (by decide) fun y H2 y1 y2 f2 g2 => ⟨y, rfl, ?_⟩
      obtain ⟨y, rfl⟩ : ∃ e : Nat, y = e := ⟨y.toNat, by omega⟩
      rw [show (7 : Int) + (y : Int) = ((7 + y : Nat) : Int) by omega]
      exact k _ H2 (by omega) (by omega) (f1.trans f2) g2
    · exact k 6 H1 (by decide) (by decide) f1 g1
    · refine tk g1 (by decide) (by decide) fun y H2 y1 y2 f2 g2 => ⟨y, rfl, ?_⟩
      obtain ⟨y, rfl⟩ : ∃ e : Nat, y = e := ⟨y.toNat, by omega⟩
      rw [show (1 : Int) + (y : Int) = ((1 + y : Nat) : Int) by omega]
      exact k _ H2 (by omega) (by omega) (f1.trans f2) g2
def spCp : Sp := fun vs H Q _ => ∃ (p : Addr) (ls : List Addr) (f : Nat → List Nat) (n : Nat), vs = [.ref p] ∧ AfAt H p ls f ∧ ls.length = n ∧ n ≤ 10 ∧ ∀ q H', Evl.Ex H H' → H q = none → ArrG H' q ((List.range n).map f) → Q (.ref q) H'
def ivCp (H : Hp) (n : Nat) (f : Nat → List Nat) (D : Addr) (i : Nat) (H' : Hp) : Prop := Evl.Ex H H' ∧ ∃ xs, H' D = some (.lst xs) ∧ Paired (fun x b => ∃ q, x = V.ref q ∧ q ≠ D ∧ H' q = some (.lst ((nI b).map V.int))) xs (((List.range n).map f).take i)
theorem ok_law_copied (T : Txt K mg a) : FnOk P w K mg base CX0 2 a.f_law_copied a.d_law_copied ["_law_rows"] spCp := by
  refine T.F_law_copied.ok sc_law_copied (fun vs H Q E h => ?_) (fun cdv A outer s H vs Q E hr h => ?_)
  · obtain ⟨_, _, _, _, rfl, _⟩ := h
    rfl
  · obtain ⟨p, ls, f, n, rfl, ha, hl, hn, k⟩ := h
    refine ⟨_, (pss_one (ps_ret (pe_lc (own := [("_law_row", 1)]) (g := gName 1) (tt := tYes) rfl sc_law_copied.nd (pi_list (pv 0)) (blkOk_by (own := [("_law_row", 1)]) (N := ["_law_rows", "_law_row"]) (sc := defScope s_law_copied) (by decide +kernel)) (fun _ _ _ _ _ => pg_name (i := 1) sc_law_copied.nd rfl (Or.inl rfl)) (fun _ _ _ _ _ => pts_nil) (fun _ _ _ _ _ => (pe_slice sl_list_b (pv 1) po_none po_none))))), ?_⟩
    walk_at "sm"
    refine ⟨⟨_, SqL.of ha.1⟩, lcg_list (K := K) (a := p) (xs := ls.map V.ref) (ivCp H n f) (fun D hD => ⟨Evl.Ex.new hD, [], upd_same, .nil⟩) (fun D i HX hD hi h => SqL.of (h.1 _ _ ha.1)) ?_ ?_⟩
    · rintro D i x HX hD hi ⟨f1, xs, f2, f3⟩
      obtain ⟨d, hd, rfl⟩ : ∃ d, ls[i]? = some d ∧ x = .ref d := by
        rw [List.getElem?_map] at hi
        cases e : ls[i]? with
        | none => rw [e] at hi; cases hi
        | some c => rw [e] at hi; exact ⟨c, rfl, (Option.some.inj hi).symm⟩
      have li := (List.getElem?_eq_some_iff.mp hd).1
      have hdX := f1 _ _ (ha.2.2.2 i d hd)
      have gi : ((List.range n).map f)[i]? = some (f i) := get_rg (by omega)
      walk_at "sm"
      refine ⟨d, _, rfl, SqL.of hdX, fun q hq => ?_⟩
      rw [cutV_all]
      have eq := Evl.Ex.new (o := .lst ((nI (f i)).map V.int)) hq
      have qD : q ≠ D := fun z => by rw [z, f2] at hq; cases hq
      have lx := paired_len f3
      rw [List.length_take, List.length_map, List.length_range] at lx
      refine ⟨xs, eq _ _ f2, by rw [sizeLine_eq]; omega, (f1.trans eq).mut hD, _, upd_same, ?_⟩
      rw [List.take_add_one, gi]
      refine Paired.snoc ⟨q, rfl, qD, by rw [upd_ne qD]; exact upd_same⟩ (Paired.mapP f3 fun x b ⟨u, z1, z2, z3⟩ => ⟨u, z1, z2, by rw [upd_ne z2]; exact eq _ _ z3⟩)
    · rintro D HX hD ⟨f1, xs, f2, f3⟩
      rw [List.length_map, hl, List.take_of_length_le (by rw [List.length_map, List.length_range]; omega)] at f3
      exact k D HX f1 hD ⟨xs, .inr f2, Paired.mapP f3 fun x b ⟨u, z1, _, z3⟩ => ⟨u, z1, .inr z3⟩⟩
end


/-! ### the law's search -/
structure QvAt (H : Hp) (d w : Addr) (q : List (Nat × Nat)) : Prop where
  ds : H d = some (.dK (kvQ Prod.snd q))
  ws : H w = some (.lst ((nI (q.map Prod.fst)).map V.int))
theorem QvAt.go {H H' : Hp} {d w : Addr} {q : List (Nat × Nat)} (e : Evl.Ex H H') (h : QvAt H d w q) : QvAt H' d w q := ⟨e _ _ h.ds, e _ _ h.ws⟩
def ivRe (H : Hp) (p M d w : Addr) (n : Nat) (bs : List (List Nat)) (room s : Nat) : Nat → L2.St → Hp → Prop := fun k σ H' => ∃ v7 v8 v9 v10, σ = [some (.ref p), some (.int (room : Nat)), some (.int (s : Nat)), some (.ref M), some (.int (n : Nat)), some (.ref d), some (.ref w), v7, v8, v9, v10] ∧ Evl.Ex H H' ∧ QvAt H' d w (rnQ bs room s k) ∧ H' M = some (.lst ((nI (bs.map msk)).map V.int))
def ivRi (H : Hp) (p M d w : Addr) (n : Nat) (bs : List (List Nat)) (room s k m dm : Nat) (q : List (Nat × Nat)) : Nat → L2.St → Hp → Prop := fun i σ H' => ∃ v9 v10, σ = [some (.ref p), some (.int (room : Nat)), some (.int (s : Nat)), some (.ref M), some (.int (n : Nat)), some (.ref d), some (.ref w), some (.int (k : Nat)), some (.int (m : Nat)), v9, v10] ∧ Evl.Ex H H' ∧ QvAt H' d w (insA (dm + 1) q ((mvI bs room m i).map (tg m))) ∧ H' M = some (.lst ((nI (bs.map msk)).map V.int))
section
variable {P : Program} {w : World} {K : PySem.W.Frag} {mg : Str → Option Value} {base : Heap} {a : Ad}
def spRe : Sp := fun vs H Q _ => ∃ (p : Addr) (ls : List Addr) (f : Nat → List Nat) (n room s : Nat), vs = [.ref p, .int room, .int s] ∧ AfAt H p ls f ∧ ls.length = n ∧ n ≤ 10 ∧ (∀ i, i < n → (f i).Pairwise (· < ·) ∧ ∀ x ∈ f i, x < n) ∧ s < 2 ^ n ∧ n ≤ 8 ∧ ∀ d H', Evl.Ex H H' → H d = none → H' d = some (.dK (kvQ Prod.snd (fin ((List.range n).map f) room s))) → Q (.ref d) H'
theorem ok_law_reach (T : Txt K mg a) : FnOk P w K mg base CX0 4 a.f_law_reach a.d_law_reach ["_law_befores", "_law_room", "_law_start"] spRe := by
  refine T.F_law_reach.ok sc_law_reach (fun vs H Q E h => ?_) (fun cdv A outer s H vs Q E hr h => ?_)
  · obtain ⟨_, _, _, _, _, _, rfl, _⟩ := h
    rfl
  · obtain ⟨p, ls, f, n, room, st, rfl, ha, hl, hn, hf, hs, hn8, k⟩ := h
    refine ⟨_, (pss_cons (ps_set (i := 3) sc_law_reach.nd rfl (by first | exact Or.inl rfl | exact Or.inr rfl) (pe_call (ok_law_masks T) (hr.mono (by decide)) rfl T.m_law_masks T.F_law_masks.kp T.b_law_masks .nil pass0 (pa_cons (pv 0) pa_nil)))
  (pss_cons (ps_set (i := 4) sc_law_reach.nd rfl (by first | exact Or.inl rfl | exact Or.inr rfl) (pe_callB call_len_seq (by rfl) T.z_len (by decide +kernel) (pa_cons (pv 0) pa_nil)))
  (pss_cons (ps_set (i := 5) sc_law_reach.nd rfl (by first | exact Or.inl rfl | exact Or.inr rfl) pe_dnewK)
  (pss_cons (ps_asg pe_int (pg_sub (pv 5) (pv 2) (set_dict (hu1 hr.units)) (by intro _; rfl)))
  (pss_cons (ps_set (i := 6) sc_law_reach.nd rfl (by first | exact Or.inl rfl | exact Or.inr rfl) (pe_lst (pa_cons (pv 2) pa_nil)))
  (pss_cons (ps_for PassesOwn.never rfl (pi_range1 (by rfl) T.z_range (pa_cons (pe_call (ok_law_two T) (hr.mono (by decide)) rfl T.m_law_two T.F_law_two.kp T.b_law_two .nil pass0 (pa_cons (pv 4) pa_nil)) pa_nil)) (pg_name (i := 7) sc_law_reach.nd rfl (by first | exact Or.inl rfl | exact Or.inr rfl)) (pss_cons (ps_if (pt_cmpR op_ge (pv 7) (pe_callB call_len_seq (by rfl) T.z_len (by decide +kernel) (pa_cons (pv 6) pa_nil)) (nomark _)) (pss_one ps_break)
    pss_nil)
  (pss_cons (ps_set (i := 8) sc_law_reach.nd rfl (by first | exact Or.inl rfl | exact Or.inr rfl) (pe_ix ix_list (pv 6) (pv 7) (fun _ _ => rfl)))
  (pss_one (ps_for PassesOwn.never rfl (pi_range1 (by rfl) T.z_range (pa_cons (pv 4) pa_nil)) (pg_name (i := 9) sc_law_reach.nd rfl (by first | exact Or.inl rfl | exact Or.inr rfl)) (pss_one (ps_if (pt_val (pe_call (ok_law_held T) (hr.mono (by decide)) rfl T.m_law_held T.F_law_held.kp T.b_law_held .nil pass0 (pa_cons (pv 8) (pa_cons (pe_ix ix_list (pv 3) (pv 9) (fun _ _ => rfl)) pa_nil)))) (pss_cons (ps_set (i := 10) sc_law_reach.nd rfl (by first | exact Or.inl rfl | exact Or.inr rfl) (pe_op op_xorNN (pv 8) (pe_call (ok_law_two T) (hr.mono (by decide)) rfl T.m_law_two T.F_law_two.kp T.b_law_two .nil pass0 (pa_cons (pv 9) pa_nil))))
  (pss_one (ps_if (PW.pt (pw_and (pt_cmp (pc_dnotin (hu1 hr.units) (pv 10) (pv 5))) (pw_and1 (pt_cmpR op_le (pe_callB call_len_seq (by rfl) T.z_len (by decide +kernel) (pa_cons (pe_call (ok_law_filled T) (hr.mono (by decide)) rfl T.m_law_filled T.F_law_filled.kp T.b_law_filled .nil pass0 (pa_cons (pv 10) (pa_cons (pv 4) pa_nil))) pa_nil)) (pv 1) (nomark _))))) (pss_cons (ps_asg (pe_op op_add (pe_dget (hu1 hr.units) (pv 5) (pv 8) (fun _ _ => rfl)) pe_int) (pg_sub (pv 5) (pv 10) (set_dict (hu1 hr.units)) (by intro _; rfl)))
  (pss_one (ps_expr (pe_bm PySem.F.plainAttrs_list PySem.F.slot_list_append PySem.F.type_list_append mt_append (pv 6) (pa_cons (pv 10) pa_nil)))))
    pss_nil)))
    pss_nil)))))))
  (pss_one (ps_ret (pv 5))))))))), ?_⟩
    have bl : ((List.range n).map f).length = n := by rw [List.length_map, List.length_range]
    have rowb : ∀ i, i < n → row ((List.range n).map f) i = f i := fun i hi => row_rg hi
    have hsb : st < 2 ^ ((List.range n).map f).length := by rw [bl]; exact hs
    walk_at "sm"
    refine ⟨p, ls, f, n, rfl, ha, hl, hn, hf, fun M H1 f1 hM => ⟨_, .inl (SqL.of (f1 _ _ ha.1)), fun d hd => ⟨_, DPut.k (k := .inl (st : Int)) (v := V.int ((0 : Nat) : Int)) upd_same (by decide), sz (by decide), fun wt hw => ?_⟩⟩⟩
    rw [List.length_map, hl]
    generalize hbs : (List.range n).map f = bs at *
    have hd0 : H d = none := by
      cases q : H d with
      | none => rfl
      | some o => rw [f1 _ _ q] at hd; cases hd
    have ndw : d ≠ wt := fun z => by rw [← z, upd_same] at hw; cases hw
    have hw1 : H1 wt = none := by
      rw [upd_ne (Ne.symm ndw), upd_ne (Ne.symm ndw)] at hw
      exact hw
    have hw0 : H wt = none := by
      cases q : H wt with
      | none => rfl
      | some o => rw [f1 _ _ q] at hw1; cases hw1
    have f2 := ((f1.mut hd0 (o := .dK [])).mut hd0 (o := .dK (putK [] (.inl (st : Int)) (V.int ((0 : Nat) : Int))))).mut hw0 (o := .lst [V.int (st : Nat)])
    have q0 : QvAt (upd (upd (upd H1 d (.dK [])) d (.dK (putK [] (.inl (st : Int)) (V.int ((0 : Nat) : Int))))) wt (.lst [V.int (st : Nat)])) d wt (rnQ bs room st 0) := ⟨by rw [upd_ne ndw, upd_same]; rfl, upd_same⟩
    have nMd : M ≠ d := fun z => by rw [z, hd] at hM; cases hM
    have nMw : M ≠ wt := fun z => by rw [z, hw1] at hM; cases hM
    have kfin : ∀ kk HX, Evl.Ex H HX → QvAt HX d wt (rnQ bs room st kk) → (rnQ bs room st kk).length ≤ kk → Q (.ref d) HX := fun kk HX f q h => k d HX f hd0 (by rw [q.ds, fin_of hsb h])
    have M0 : (upd (upd (upd H1 d (.dK [])) d (.dK (putK [] (.inl (st : Int)) (V.int ((0 : Nat) : Int))))) wt (.lst [V.int (st : Nat)])) M = some (.lst ((nI (bs.map msk)).map V.int)) := by
      have : (List.range n).map (fun i => msk (f i)) = bs.map msk := by rw [← hbs, List.map_map]; rfl
      rw [upd_ne nMw, upd_ne nMd, upd_ne nMd, hM, this]
    have p2 : (2 : Int) ^ n = ((2 ^ n : Nat) : Int) := by rw [Int.natCast_pow]; rfl
    have p8 : 2 ^ n ≤ 2 ^ 8 := Nat.pow_le_pow_right (by decide) hn8
    refine ⟨_, rfl, n, rfl, by omega, _, rfl, by rw [p2]; omega, by rw [p2]; omega, ?_⟩
    rw [p2]
    refine for_range (lo := 0) (n := ((2 ^ n : Nat) : Int).toNat) (ivRe H p M d wt n bs room st) ⟨none, none, none, none, rfl, f2, q0, M0⟩ ?_ ?_
    · rintro kk σ HX hk ⟨v7, v8, v9, v10, rfl, f3, Qv, hMX⟩
      rw [show (0 : Int) + (kk : Int) = ((kk : Nat) : Int) by omega]
      walk_at "sm"
      refine ⟨_, .inl (SqL.of Qv.ws), ?_⟩
      rw [nI_len, List.length_map]
      by_cases ck : kk < (rnQ bs room st kk).length
      · refine iteN (by omega) ?_
        obtain ⟨em, hem⟩ : ∃ e, (rnQ bs room st kk)[kk]? = some e := ⟨_, List.getElem?_eq_getElem ck⟩
        obtain ⟨m, dm⟩ := em
        have hmem : (m, dm) ∈ rnQ bs room st kk := List.mem_of_getElem? hem
        have QI_ := rn_qi (room := room) hsb kk
        have ml := QI_.lt _ hmem
        refine ixl (SqL.of Qv.ws) (atI_nat (nI_get (by rw [List.getElem?_map, hem]; rfl))) ?_
        refine ⟨_, rfl, _, rfl, by omega, by omega, for_range (lo := 0) (n := (n : Int).toNat) (ivRi H p M d wt n bs room st kk m dm (rnQ bs room st kk)) ⟨v9, v10, rfl, f3, Qv, hMX⟩ ?_ ?_⟩
        · rintro i σ HZ hi ⟨u9, u10, rfl, f5, Q5, hMZ⟩
          rw [show (0 : Int) + (i : Int) = ((i : Nat) : Int) by omega]
          have hin : i < n := by rw [Int.toNat_natCast] at hi; exact hi
          walk_at "sm"
          have rs := mvI_succ bs room m i
          have hbi : (bs.map msk)[i]? = some (msk (row bs i)) := by
            rw [List.getElem?_map, ← hbs, get_rg hin, hbs, rowb i hin]
            rfl
          have nd' := insA_nd (d := dm + 1) (xs := (mvI bs room m i).map (tg m)) QI_.nd
          have sub' : ∀ z ∈ (mvI bs room m i).map (tg m), z < 2 ^ bs.length := fun z hz => by
            obtain ⟨p', h1, rfl⟩ := List.mem_map.mp hz
            exact tg_lt ml (by
              have := List.mem_range.mp (List.mem_filter.mp h1).1
              omega)
          have lt' : ∀ e ∈ insA (dm + 1) (rnQ bs room st kk) ((mvI bs room m i).map (tg m)), e.1 < 2 ^ bs.length := fun e he => by
            rcases insA_mem he with h | ⟨_, h⟩
            · exact QI_.lt e h
            · exact sub' _ h
          have hm' : (m, dm) ∈ insA (dm + 1) (rnQ bs room st kk) ((mvI bs room m i).map (tg m)) := insA_sub hmem
          have step : (hld bs m i && decide (pc bs.length (tg m i) ≤ room)) = true → insA (dm + 1) (rnQ bs room st kk) ((mvI bs room m (i + 1)).map (tg m)) = ins1 (dm + 1) (insA (dm + 1) (rnQ bs room st kk) ((mvI bs room m i).map (tg m))) (tg m i) := fun c => by
            rw [rs, c, if_pos rfl, List.map_append, List.map_singleton]
            unfold insA
            rw [List.foldl_append]
            rfl
          have stay : (hld bs m i && decide (pc bs.length (tg m i) ≤ room)) = false → insA (dm + 1) (rnQ bs room st kk) ((mvI bs room m (i + 1)).map (tg m)) = insA (dm + 1) (rnQ bs room st kk) ((mvI bs room m i).map (tg m)) := fun c => by
            rw [rs, c, if_neg (by decide), List.append_nil]
          have big := rn_big nd' lt' (by omega)
          have tl : tg m i < 2 ^ bs.length := tg_lt ml (by omega)
          unfold ivRi
          generalize insA (dm + 1) (rnQ bs room st kk) ((mvI bs room m i).map (tg m)) = q' at Q5 nd' lt' hm' big step stay ⊢
          have keep : ∀ HW, Evl.Ex HZ HW → insA (dm + 1) (rnQ bs room st kk) ((mvI bs room m (i + 1)).map (tg m)) = q' → Evl.Ex H HW ∧ QvAt HW d wt (insA (dm + 1) (rnQ bs room st kk) ((mvI bs room m (i + 1)).map (tg m))) ∧ HW M = some (.lst ((nI (bs.map msk)).map V.int)) := fun HW f e => ⟨f5.trans f, by rw [e]; exact Q5.go f, f _ _ hMZ⟩
          refine ixl (SqL.of hMZ) (atI_nat (nI_get hbi)) ⟨m, _, rfl, fun hb hbk => ⟨hb, rfl, ?_⟩⟩
          have hbe : hb = hld bs m i := by
            have : hb = true ↔ hld bs m i = true := by rw [hbk, hld_msk]
            cases hb <;> cases h : hld bs m i <;> simp_all
          subst hbe
          cases ch : hld bs m i with
          | false =>
            rw [ch] at stay
            exact iteF ⟨_, _, rfl, keep HZ (Evl.Ex.refl _) (stay rfl)⟩
          | true =>
            rw [ch, Bool.true_and] at step stay
            refine iteT ⟨i, rfl, by omega, m, rfl, 2 ^ i, by rw [Int.natCast_pow]; rfl, _, DGet.k (k := .inl ((tg m i : Nat) : Int)) Q5.ds, ?_⟩
            rw [kvQ_in]
            by_cases c : tg m i ∈ q'.map Prod.fst
            · rw [decide_eq_true c]
              refine iteF ⟨_, _, rfl, keep HZ (Evl.Ex.refl _) ?_⟩
              by_cases c2 : pc bs.length (tg m i) ≤ room
              · rw [step (decide_eq_true c2)]
                unfold ins1
                rw [if_pos c]
              · exact stay (decide_eq_false c2)
            · rw [decide_eq_false c]
              refine iteT ⟨n, tg m i, rfl, by omega, fun u HU f6 hu => ⟨u, rfl, _, .inr (SqT.of hu), ?_⟩⟩
              rw [nI_len]
              have Q6 := Q5.go f6
              have hMU := f6 _ _ hMZ
              have f7 := f5.trans f6
              have pcl : (pcs n (tg m i)).length = pc bs.length (tg m i) := by rw [bl]; rfl
              rw [pcl]
              by_cases c2 : pc bs.length (tg m i) ≤ room
              · have gd := DGet.k (k := .inl (m : Int)) Q6.ds
                rw [kvQ_dst, (dst_mem nd').mpr hm'] at gd
                have put1 := kvQ_put Prod.snd (q := q') (e := (tg m i, dm + 1)) c
                have p1 : DPut HU d (V.int ((tg m i : Nat) : Int)) (V.int ((dm : Int) + 1)) (L2.upd HU d (.dK (kvQ Prod.snd (q' ++ [(tg m i, dm + 1)])))) := by
                  rw [← put1]
                  exact DPut.k (k := .inl ((tg m i : Nat) : Int)) (v := V.int ((dm + 1 : Nat) : Int)) Q6.ds (by rw [kvQ_len, sizeLine_eq]; omega)
                have w9 : L2.upd HU d (.dK (kvQ Prod.snd (q' ++ [(tg m i, dm + 1)]))) wt = some (.lst ((nI (q'.map Prod.fst)).map V.int)) := by rw [upd_ne (Ne.symm ndw)]; exact Q6.ws
                refine iteP (by exact_mod_cast c2) ⟨_, gd, _, rfl, _, p1, .inl ⟨rfl, _, SqL.of w9⟩, wt, _, _, rfl, rfl, w9, by rw [nI_len, List.length_map, sizeLine_eq]; omega, _, _, rfl, (f7.mut hd0).mut hw0, ?_, ?_⟩
                · rw [step (decide_eq_true c2)]
                  unfold ins1
                  rw [if_neg c]
                  exact ⟨by rw [upd_ne ndw, upd_same], by rw [upd_same, List.map_append, List.map_singleton, nI_snoc]; rfl⟩
                · rw [upd_ne nMw, upd_ne nMd]
                  exact hMU
              · exact iteN (by exact_mod_cast c2) ⟨_, _, rfl, keep HU f6 (stay (decide_eq_false c2))⟩
        · rintro σ HZ ⟨u9, u10, rfl, f5, Q5, hMZ⟩
          rw [Int.toNat_natCast] at Q5
          refine ⟨_, _, _, _, rfl, f5, ?_, hMZ⟩
          show QvAt HZ d wt (match (rnQ bs room st kk)[kk]? with
            | none => rnQ bs room st kk
            | some e => insA (e.2 + 1) (rnQ bs room st kk) (nbs bs room e.1))
          rw [hem]
          have : mvI bs room m n = mvs bs room m := by
            unfold mvI mvs
            rw [bl]
          rw [this] at Q5
          exact Q5
      · refine iteP (by omega) ?_
        walk_at "sm"
        exact kfin kk HX f3 Qv (by omega)
    · rintro σ HX ⟨v7, v8, v9, v10, rfl, f3, Qv, hMX⟩
      rw [Int.toNat_natCast] at Qv
      walk_at "sm"
      exact kfin _ HX f3 Qv (by rw [← bl]; exact rn_len hsb _)
end


/-! ### the law's least way -/
theorem AfAt.go {H H' : Hp} {l : Addr} {ls : List Addr} {f : Nat → List Nat} (e : Evl.Ex H H') (h : AfAt H l ls f) : AfAt H' l ls f := ⟨e _ _ h.1, h.2.1, h.2.2.1, fun q c hc => e _ _ (h.2.2.2 q c hc)⟩
theorem mvs_asc (bs : List (List Nat)) (room m : Nat) : (mvs bs room m).Pairwise (· < ·) := (range_lt _).filter _
theorem nrr_min {bs : List (List Nat)} {room s : Nat} {q : List (Nat × Nat)} (hw : ∀ q, q ∉ row bs q) (F : FI bs room s q) (hs : pc bs.length s ≤ room) {m d : Nat} (h : dst q m = some (d + 1)) :
    ∀ p, p < nrr bs room q m d → hld bs m p = true → dst q (tg m p) ≠ some d := fun p hp hh hd => by
  obtain ⟨h1, h2, _⟩ := nrr_ok hw F hs h
  have pm : p ∈ mvs bs room m := mvs_mem.mpr ⟨by have := (mvs_mem.mp h2).1; omega, hh, fin_pc F hs hd⟩
  obtain ⟨_, as, cs, e, no⟩ := List.find?_eq_some_iff_append.mp h1
  have asc := mvs_asc bs room m
  rw [e] at asc pm
  rcases List.mem_append.mp pm with k | k
  · have := no p k
    rw [decide_eq_true hd] at this
    cases this
  · obtain ⟨_, a2, _⟩ := List.pairwise_append.mp asc
    rcases List.mem_cons.mp k with k | k
    · omega
    · have := (List.pairwise_cons.mp a2).1 p k
      omega
section
variable {P : Program} {w : World} {K : PySem.W.Frag} {mg : Str → Option Value} {base : Heap} {a : Ad}
def spLw : Sp := fun vs H Q _ => ∃ (p : Addr) (ls : List Addr) (f : Nat → List Nat) (n room s g : Nat), vs = [.ref p, .int room, .int s, .int g] ∧ AfAt H p ls f ∧ ls.length = n ∧ n ≤ 8 ∧ (∀ i, i < n → (f i).Pairwise (· < ·) ∧ ∀ x ∈ f i, x < n) ∧ s < 2 ^ n ∧ g < 2 ^ n ∧ (∀ q, q ∉ row ((List.range n).map f) q) ∧ ∀ v H', Evl.Ex H H' → OwAt H' v (lwy ((List.range n).map f) room s g) → Q v H'
def ivLw (H : Hp) (p d M R : Addr) (n : Nat) (bs : List (List Nat)) (room st g d0 : Nat) : Nat → L2.St → Hp → Prop := fun k σ H' => ∃ (m : Nat) (dn : List Nat) (v9 v10 v11 : Option V), σ = [some (.ref p), some (.int (room : Nat)), some (.int (st : Nat)), some (.int (g : Nat)), some (.int (n : Nat)), some (.ref d), some (.ref M), some (.ref R), some (.int (m : Nat)), v9, v10, v11] ∧ k ≤ d0 ∧ Evl.Ex H H' ∧
  H' d = some (.dK (kvQ Prod.snd (fin bs room g))) ∧ H' M = some (.lst ((nI (bs.map msk)).map V.int)) ∧ H' R = some (.lst ((nI dn).map V.int)) ∧ dst (fin bs room g) m = some (d0 - k) ∧ dn ++ wyF bs room (fin bs room g) (d0 - k) m = wyF bs room (fin bs room g) d0 st
def ivLi (H : Hp) (p d M R : Addr) (n : Nat) (bs : List (List Nat)) (room st g d0 k m nr : Nat) (dn : List Nat) : Nat → L2.St → Hp → Prop := fun i σ H' => ∃ (v10 v11 : Option V), σ = [some (.ref p), some (.int (room : Nat)), some (.int (st : Nat)), some (.int (g : Nat)), some (.int (n : Nat)), some (.ref d), some (.ref M), some (.ref R), some (.int (m : Nat)), some (.int (k : Nat)), v10, v11] ∧ i ≤ nr ∧ Evl.Ex H H' ∧
  H' d = some (.dK (kvQ Prod.snd (fin bs room g))) ∧ H' M = some (.lst ((nI (bs.map msk)).map V.int)) ∧ H' R = some (.lst ((nI dn).map V.int))
theorem ok_law_least_way (T : Txt K mg a) : FnOk P w K mg base CX0 5 a.f_law_least_way a.d_law_least_way ["_law_befores", "_law_room", "_law_first", "_law_last"] spLw := by
  refine T.F_law_least_way.ok sc_law_least_way (fun vs H Q E h => ?_) (fun cdv A outer s H vs Q E hr h => ?_)
  · obtain ⟨_, _, _, _, _, _, _, rfl, _⟩ := h
    rfl
  · obtain ⟨p, ls, f, n, room, st, gl, rfl, ha, hl, hn, hf, hs, hg, hw, k⟩ := h
    refine ⟨_, (pss_cons (ps_set (i := 4) sc_law_least_way.nd rfl (by first | exact Or.inl rfl | exact Or.inr rfl) (pe_callB call_len_seq (by rfl) T.z_len (by decide +kernel) (pa_cons (pv 0) pa_nil)))
  (pss_cons (ps_if (PW.pt (pw_or (pt_cmpR op_gt (pe_callB call_len_seq (by rfl) T.z_len (by decide +kernel) (pa_cons (pe_call (ok_law_filled T) (hr.mono (by decide)) rfl T.m_law_filled T.F_law_filled.kp T.b_law_filled .nil pass0 (pa_cons (pv 2) (pa_cons (pv 4) pa_nil))) pa_nil)) (pv 1) (nomark _)) (pw_or1 (pt_cmpR op_gt (pe_callB call_len_seq (by rfl) T.z_len (by decide +kernel) (pa_cons (pe_call (ok_law_filled T) (hr.mono (by decide)) rfl T.m_law_filled T.F_law_filled.kp T.b_law_filled .nil pass0 (pa_cons (pv 3) (pa_cons (pv 4) pa_nil))) pa_nil)) (pv 1) (nomark _))))) (pss_one (ps_ret pe_non))
    pss_nil)
  (pss_cons (ps_set (i := 5) sc_law_least_way.nd rfl (by first | exact Or.inl rfl | exact Or.inr rfl) (pe_call (ok_law_reach T) (hr.mono (by decide)) rfl T.m_law_reach T.F_law_reach.kp T.b_law_reach .nil pass0 (pa_cons (pv 0) (pa_cons (pv 1) (pa_cons (pv 3) pa_nil)))))
  (pss_cons (ps_if (pt_cmp (pc_dnotin (hu1 hr.units) (pv 2) (pv 5))) (pss_one (ps_ret pe_non))
    pss_nil)
  (pss_cons (ps_set (i := 6) sc_law_least_way.nd rfl (by first | exact Or.inl rfl | exact Or.inr rfl) (pe_call (ok_law_masks T) (hr.mono (by decide)) rfl T.m_law_masks T.F_law_masks.kp T.b_law_masks .nil pass0 (pa_cons (pv 0) pa_nil)))
  (pss_cons (ps_set (i := 7) sc_law_least_way.nd rfl (by first | exact Or.inl rfl | exact Or.inr rfl) (pe_lst pa_nil))
  (pss_cons (ps_set (i := 8) sc_law_least_way.nd rfl (by first | exact Or.inl rfl | exact Or.inr rfl) (pv 2))
  (pss_cons (ps_for PassesOwn.never rfl (pi_range1 (by rfl) T.z_range (pa_cons (pe_dget (hu1 hr.units) (pv 5) (pv 2) (fun _ _ => rfl)) pa_nil)) (pg_name (i := 9) sc_law_least_way.nd rfl (by first | exact Or.inl rfl | exact Or.inr rfl)) (pss_one (ps_for PassesOwn.never rfl (pi_range1 (by rfl) T.z_range (pa_cons (pv 4) pa_nil)) (pg_name (i := 10) sc_law_least_way.nd rfl (by first | exact Or.inl rfl | exact Or.inr rfl)) (pss_cons (ps_set (i := 11) sc_law_least_way.nd rfl (by first | exact Or.inl rfl | exact Or.inr rfl) (pe_op op_xorNN (pv 8) (pe_call (ok_law_two T) (hr.mono (by decide)) rfl T.m_law_two T.F_law_two.kp T.b_law_two .nil pass0 (pa_cons (pv 10) pa_nil))))
  (pss_one (ps_if (PW.pt (pw_and (pt_val (pe_call (ok_law_held T) (hr.mono (by decide)) rfl T.m_law_held T.F_law_held.kp T.b_law_held .nil pass0 (pa_cons (pv 8) (pa_cons (pe_ix ix_list (pv 6) (pv 10) (fun _ _ => rfl)) pa_nil)))) (pw_and1 (pt_cmpR op_eq (pe_dget2 (hu1 hr.units) (pv 5) (pv 11) (pe_un un_neg pe_int) ⟨rfl, rfl, rfl, rfl⟩) (pe_op op_sub (pe_dget (hu1 hr.units) (pv 5) (pv 8) (fun _ _ => rfl)) pe_int) (nomark _))))) (pss_cons (ps_expr (pe_bm PySem.F.plainAttrs_list PySem.F.slot_list_append PySem.F.type_list_append mt_append (pv 7) (pa_cons (pv 10) pa_nil)))
  (pss_cons (ps_set (i := 8) sc_law_least_way.nd rfl (by first | exact Or.inl rfl | exact Or.inr rfl) (pv 11))
  (pss_one ps_break)))
    pss_nil))))))
  (pss_one (ps_ret (pe_callTy call_tuple_of (by rfl) T.z_tuple (by decide +kernel) (pa_cons (pv 7) pa_nil)))))))))))), ?_⟩
    have bl : ((List.range n).map f).length = n := by rw [List.length_map, List.length_range]
    have rowb : ∀ i, i < n → row ((List.range n).map f) i = f i := fun i hi => row_rg hi
    walk_at "sm"
    refine ⟨_, .inl (SqL.of ha.1), ?_⟩
    rw [List.length_map, hl]
    generalize hbs : (List.range n).map f = bs at *
    have hgb : gl < 2 ^ bs.length := by rw [bl]; exact hg
    have none1 : ¬ pc bs.length st ≤ room → lwy bs room st gl = none := fun c => by
      unfold lwy
      split
      · next c2 =>
        cases e : dst (fin bs room gl) st with
        | none => rfl
        | some d => exact absurd (fin_pc (fin_fi hgb) c2 e) c
      · rfl
    refine ⟨n, st, rfl, by omega, fun u1 H1 f1 h1 => ⟨u1, rfl, _, .inr (SqT.of h1), ?_⟩⟩
    rw [nI_len, show (pcs n st).length = pc bs.length st by rw [bl]; rfl]
    by_cases c1 : pc bs.length st ≤ room
    · refine iteN (by omega) ⟨n, gl, rfl, by omega, fun u2 H2 f2 h2 => ⟨u2, rfl, _, .inr (SqT.of h2), ?_⟩⟩
      rw [nI_len, show (pcs n gl).length = pc bs.length gl by rw [bl]; rfl]
      by_cases c2 : pc bs.length gl ≤ room
      · have f12 := f1.trans f2
        refine iteN (by omega) ⟨p, ls, f, n, room, gl, rfl, ha.go f12, hl, by omega, hf, hg, hn, fun d H3 f3 hd0 hd => ⟨d, rfl, _, DGet.k (k := .inl (st : Int)) hd, ?_⟩⟩
        rw [hbs] at hd ⊢
        rw [kvQ_in]
        have F := fin_fi (room := room) hgb
        have nd := (rn_qi (room := room) hgb (2 ^ bs.length)).nd
        have f13 := f12.trans f3
        cases cd : dst (fin bs room gl) st with
        | none =>
          have : decide (st ∈ (fin bs room gl).map Prod.fst) = false := by
            rw [← find_mem]
            unfold dst at cd
            rw [Option.map_eq_none_iff.mp cd]
            rfl
          rw [this]
          refine iteT (k _ _ f13 ?_)
          unfold lwy
          rw [if_pos c2, cd]
          rfl
        | some d0 =>
          have : decide (st ∈ (fin bs room gl).map Prod.fst) = true := decide_eq_true (List.mem_map.mpr ⟨_, (dst_mem nd).mp cd, rfl⟩)
          rw [this]
          have ko : ∀ H', Evl.Ex H H' → ∀ q, H' q = some (.tup ((nI (wyF bs room (fin bs room gl) d0 st)).map V.int)) → Q (.ref q) H' := fun H' f q hq => k _ _ f (by
            unfold lwy
            rw [if_pos c2, cd]
            exact ⟨q, rfl, hq⟩)
          have d0b : d0 ≤ 256 := dst_le (by omega) cd
          refine iteF ⟨p, ls, f, n, rfl, ha.go f13, hl, by omega, hf, fun M H4 f4 hM => ⟨sz (by decide), fun R hR => ?_⟩⟩
          have f14 := f13.trans f4
          have f15 := f14.trans (Evl.Ex.new (o := .lst []) hR)
          have hR0 : H R = none := by
            cases q : H R with
            | none => rfl
            | some o => rw [f14 _ _ q] at hR; cases hR
          have hM' : upd H4 R (.lst []) M = some (.lst ((nI (bs.map msk)).map V.int)) := by
            have : (List.range n).map (fun i => msk (f i)) = bs.map msk := by rw [← hbs, List.map_map]; rfl
            rw [Evl.Ex.new hR _ _ hM, this]
          have hd' := Evl.Ex.new (o := .lst []) hR _ _ (f4 _ _ hd)
          have gd := DGet.k (k := .inl (st : Int)) hd'
          rw [kvQ_dst, cd] at gd
          refine ⟨_, rfl, _, rfl, d, _, rfl, gd, _, rfl, by omega, by omega, ?_⟩
          refine for_range (lo := 0) (n := (d0 : Int).toNat) (ivLw H p d M R n bs room st gl d0) ⟨st, [], none, none, none, rfl, Nat.zero_le _, f15, hd', hM', upd_same, cd, rfl⟩ ?_ ?_
          · rintro kk σ HX hk ⟨m, dn, v9, v10, v11, rfl, hkd, g1, g2, g3, g4, g5, g6⟩
            rw [Int.toNat_natCast] at hk
            obtain ⟨dd, hdd⟩ : ∃ dd, d0 - kk = dd + 1 := ⟨d0 - kk - 1, by omega⟩
            rw [hdd] at g5 g6
            obtain ⟨n1, n2, n3⟩ := nrr_ok hw F c2 g5
            have nmin := nrr_min hw F c2 g5
            have nrl : nrr bs room (fin bs room gl) m dd < n := by rw [← bl]; exact (mvs_mem.mp n2).1
            have ml := F.lt _ _ g5
            rw [show (0 : Int) + (kk : Int) = ((kk : Nat) : Int) by omega]
            refine ⟨_, rfl, _, rfl, by omega, by omega, ?_⟩
            refine for_range (lo := 0) (n := (n : Int).toNat) (ivLi H p d M R n bs room st gl d0 kk m (nrr bs room (fin bs room gl) m dd) dn) ⟨v10, v11, rfl, Nat.zero_le _, g1, g2, g3, g4⟩ ?_ ?_
            · rintro i σ HZ hi ⟨w10, w11, rfl, hin, e1, e2, e3, e4⟩
              rw [show (0 : Int) + (i : Int) = ((i : Nat) : Int) by omega]
              walk_at "sm"
              have hin2 : i < n := by omega
              have hbi : (bs.map msk)[i]? = some (msk (row bs i)) := by
                rw [List.getElem?_map, ← hbs, get_rg hin2, hbs, rowb i hin2]
                rfl
              have tl : tg m i < 2 ^ bs.length := tg_lt ml (by omega)
              have gm := DGet.k (k := .inl (m : Int)) e2
              rw [kvQ_dst, g5] at gm
              have gy := DGet.k (k := .inl ((tg m i : Nat) : Int)) e2
              rw [kvQ_dst] at gy
              have next : (hld bs m i = true → dst (fin bs room gl) (tg m i) ≠ some dd) → i + 1 ≤ nrr bs room (fin bs room gl) m dd := fun h => by
                rcases Nat.lt_or_eq_of_le hin with z | z
                · exact z
                · rw [← z] at n2 n3
                  exact absurd n3 (h (mvs_mem.mp n2).2.1)
              have hit : hld bs m i = true → dst (fin bs room gl) (tg m i) = some dd → i = nrr bs room (fin bs room gl) m dd := fun h1 h2 => by
                rcases Nat.lt_or_eq_of_le hin with z | z
                · exact absurd h2 (nmin i z h1)
                · exact z
              refine ⟨i, rfl, by omega, m, rfl, 2 ^ i, by rw [Int.natCast_pow]; rfl, ixl (SqL.of e3) (atI_nat (nI_get hbi)) ⟨m, _, rfl, fun hb hbk => ⟨hb, rfl, ?_⟩⟩⟩
              have hbe : hb = hld bs m i := by
                have : hb = true ↔ hld bs m i = true := by rw [hbk, hld_msk]
                cases hb <;> cases h : hld bs m i <;> simp_all
              subst hbe
              cases ch : hld bs m i with
              | false => exact iteF ⟨_, _, rfl, next (fun z => by rw [ch] at z; cases z), e1, e2, e3, e4⟩
              | true =>
                refine iteT ⟨_, rfl, d, rfl, .inl ⟨_, .inl e2⟩, _, rfl, _, rfl, _, gy, _, gm, _, rfl, ?_⟩
                cases hd2 : dst (fin bs room gl) (tg m i) with
                | none =>
                  refine ⟨rfl, iteN (fun z => ?_) ⟨_, _, rfl, next (fun _ => by rw [hd2]; exact fun z => nomatch z), e1, e2, e3, e4⟩⟩
                  have z : V.int (-1) = V.int (((dd + 1 : Nat) : Int) - 1) := z
                  have := V.int.inj z
                  omega
                | some d' =>
                  refine ⟨rfl, ?_⟩
                  by_cases c : d' = dd
                  · subst c
                    have ei := hit ch hd2
                    have ldn : dn.length ≤ d0 := by
                      have := congrArg List.length g6
                      rw [List.length_append, wyF_len, wyF_len] at this
                      omega
                    refine iteP (by show V.int (d' : Nat) = V.int (((d' + 1 : Nat) : Int) - 1); congr 1; omega) ⟨.inl ⟨rfl, _, SqL.of e4⟩, R, _, _, rfl, rfl, e4, by rw [nI_len, sizeLine_eq]; omega, ?_⟩
                    refine ⟨tg m i, dn ++ [i], _, _, _, rfl, by omega, e1.mut hR0, ?_, ?_, by rw [upd_same, nI_snoc], by rw [show d0 - (kk + 1) = d' by omega]; exact hd2, ?_⟩
                    · rw [upd_ne (fun z => by rw [z, e4] at e2; cases e2)]
                      exact e2
                    · rw [upd_ne (fun z => by
                        rw [z] at hM'
                        rw [upd_same] at hM'
                        have := congrArg (fun o : Option HO => match o with | some (.lst l) => l.length | _ => 0) hM'
                        simp at this
                        omega)]
                      exact e3
                    · rw [show d0 - (kk + 1) = d' by omega, ← g6, List.append_assoc]
                      congr 1
                      show i :: wyF bs room (fin bs room gl) d' (tg m i) = nrr bs room (fin bs room gl) m d' :: wyF bs room (fin bs room gl) d' (tg m (nrr bs room (fin bs room gl) m d'))
                      rw [← ei]
                  · refine iteN (fun z => ?_) ⟨_, _, rfl, next (fun _ => by rw [hd2]; exact fun z => c (Option.some.inj z)), e1, e2, e3, e4⟩
                    have z : V.int (d' : Nat) = V.int (((dd + 1 : Nat) : Int) - 1) := z
                    have := V.int.inj z
                    omega
            · rintro σ HZ ⟨w10, w11, rfl, hin, _⟩
              rw [Int.toNat_natCast] at hin
              omega
          · rintro σ HX ⟨m, dn, v9, v10, v11, rfl, hkd, g1, g2, g3, g4, g5, g6⟩
            rw [Int.toNat_natCast, Nat.sub_self] at g6
            walk_at "sm"
            rw [show wyF bs room (fin bs room gl) 0 m = [] from rfl, List.append_nil] at g6
            rw [g6] at g4
            exact ⟨_, .inl ⟨SqL.of g4, fun l hl => ko _ (g1.trans (Evl.Ex.new hl)) l upd_same⟩⟩
      · refine iteP (by omega) (k _ _ (f1.trans f2) ?_)
        unfold lwy
        rw [if_neg c2]
        rfl
    · refine iteP (by omega) (k _ _ f1 ?_)
      rw [none1 c1]
      rfl
end

local macro_rules | `(tactic| walk_at "sm") => `(tactic| try simp only [sFld, tFld, tMake, tMakeS, tSeq, tAsg, tRet, tRetN, tDrop, tOp, tUn, tVar, tC, tCB, tCons, tNil, tLst, tTup, tTest, tB, tAnd, tOr, tNot, tAndV, tOrV, tNotV, tIf, tIfS, tNext, tCont, tBreak, tCall, tCallS, WE, tXf, rI0, rI, rU, gName, gNil, gCons, gTup, gSub, tAug, tBM, tBM0, tM1, rNewStrs, tLc_eq, iRng1, iRng2, iList, iTup, tYes, wipe, List.foldl_cons, List.foldl_nil, rEq, rNe, scal, rIxS, rSlS, tSl, tPart, tNoPart, tChain, ipI, str1, tMkO_eq, L2.start, List.map_cons, List.map_nil, List.append_nil, List.cons_append, List.nil_append, List.length_cons, List.length_nil, List.drop, List.replicate, List.getElem?_cons_zero, List.getElem?_cons_succ, List.set_cons_zero, List.set_cons_succ, Option.some.injEq, V.int.injEq, V.str.injEq, V.ref.injEq, V.bl.injEq, List.cons.injEq, reduceCtorEq, false_and, and_false, exists_false, or_false, false_or, exists_eq_left', exists_eq_left, and_assoc, cx_K, exists_and_left, exists_and_right, and_true, true_and, decide_eq_true_eq, if_true, if_false, Bool.false_eq_true])

/-! ### sorted with a key: the length, then the thing -/
open LamX (CodeO TabS Tabs ExtN TabB)
structure LkS (p : Str) (scope : Scope) : Prop where
  kind : scope.kind = .function
  co : (scope.isCoroutine) = false
  gen : (scope.isGenerator) = false
  par : scope.names.lookup p = some .local
  len : scope.names.lookup ("len" : Str) = some .globalImplicit
  nocell : ∀ z ∈ scope.names, z.2 ≠ .cell
  nofree : ∀ z ∈ scope.names, z.2 ≠ .free
def lkSB (p : Str) (scope : Scope) : Bool :=
  decide (scope.kind = .function) && !scope.isCoroutine && !scope.isGenerator && decide (scope.names.lookup p = some .local) && decide (scope.names.lookup ("len" : Str) = some .globalImplicit) && scope.names.all fun z => !decide (z.2 = .cell) && !decide (z.2 = .free)
theorem lkS_by {p : Str} {scope : Scope} (h : lkSB p scope = true) : LkS p scope := by
  unfold lkSB at h
  simp only [List.all_eq_true, Bool.and_eq_true, Bool.not_eq_true', decide_eq_true_eq, decide_eq_false_iff_not] at h
  obtain ⟨⟨⟨⟨⟨h1, h2⟩, h3⟩, h4⟩, h5⟩, h6⟩ := h
  exact ⟨h1, h2, h3, h4, h5, fun z hz => (h6 z hz).1, fun z hz => (h6 z hz).2⟩
theorem lk_turn {prog : Program} {w : World} {A : Around} {s : Shared} {q p : Str} {params : Arguments} {scope : Scope} {f c' t : Addr} {pm ctv : Value} {its : Array Value} {mg mb : Str → Option Value} {pa pb pc_ pd pe_ : Pos} {kt : _}
    (hroom : A.depth < recursionLimit) (hlim : s.heap.NoLimit) (S : LkS p scope)
    (hf : s.heap.get? f = some (PySem.W.kla_obj "<lambda>" q params (.Tuple [.Call (.Name "len" pa) [.Name p pb] [] pc_, .Name p pd] kt pe_) scope [] pm c' ctv)) (hcd : s.heap.CodeRec (.ref c') q)
    (hg : s.heap.Ns mainGlobals mg) (hm : mg "len" = none) (hb : s.heap.Ns builtinsNs mb) (hml : mb "len" = some (.builtin "len"))
    (ht : PyProof.Rows.IsTup s.heap t its) (hz : its.size ≤ sizeLine)
    (hbind : ∀ u : Value, bindArgs (PySem.W.kla_fn "<lambda>" q params (.Tuple [.Call (.Name "len" pa) [.Name p pb] [] pc_, .Name p pd] kt pe_) scope [] pm (.ref c') ctv) ⟨[u], []⟩ = pure [(p, u)])
    (hd : (p == ("__debug__" : Str)) = false) :
    wpAny (model prog w) A (call (.ref f) [.ref t]) (fun u s' => ∃ h' tk, s' = { s with heap := h', toks := tk } ∧ (∀ b o, s.heap.get? b = some o → h'.get? b = some o) ∧ ∃ tk2 t', u = .ref t' ∧ h'.get? t' = some { cls := .type "tuple", data := .seq #[.int its.size tk2, .ref t] }) (fun _ _ => False) s := by
  refine wpAny_call (codeAny_mono (R := fun r s' => ∃ u, r = .ok (.ret u) ∧ ∃ h' tk, s' = { s with heap := h', toks := tk } ∧ (∀ b o, s.heap.get? b = some o → h'.get? b = some o) ∧ ∃ tk2 t', u = .ref t' ∧ h'.get? t' = some { cls := .type "tuple", data := .seq #[.int its.size tk2, .ref t] }) ?_ fun r s' hq => ?_)
  · refine PySem.W.kla_callFunE hroom hf rfl S.co S.gen rfl hcd ?_
    rw [hbind]
    refine wpAny_pure (wpAny_newFunctionEnv (fun z hz => S.nocell z hz) (fun z hz => by rw [List.mem_singleton.mp hz]; exact S.par) (fun h₁ hns hsb => ⟨hlim.fresh _ hsb, ?_⟩) S.kind)
    have kp : ∀ bb o, s.heap.get? bb = some o → h₁.get? bb = some o := fun b o e => hsb.extBut b o (Nat.ne_of_lt (Heap.lt_size e)) (Heap.get?_push_of_some _ e)
    have hpm : ([(p, Value.ref t)] : List (Str × Value)).reverse.lookup p = some (.ref t) := by
      show ([(p, Value.ref t)] : List (Str × Value)).lookup p = some (.ref t)
      rw [List.lookup_cons]
      simp
    refine PySem.W.kla_codeExpr (wpAny_Tuple_spliced ?_)
    show wpAny _ _ (spliced [(false, eval (.Call (.Name "len" pa) [.Name p pb] [] pc_) _), (false, eval (.Name p pd) _)]) _ _ _
    refine Calls.spliced_cons (wpAny_Call_Name_kw (Calls.Name_function_global S.kind S.len (Calls.loadGlobal_builtin (hg.keeps kp) hm (hb.keeps kp) hml ?_) (by decide)))
    refine callWith_builtin1 (wpAny_Name (wpAny_loadName_local S.kind S.par hns hpm ?_) hd)
    have hl := line63
    refine PyProof.Rows.len_tuple (ht.keeps kp) (by omega) ?_
    refine Calls.spliced_cons (wpAny_Name (wpAny_loadName_local S.kind S.par hns hpm ?_) hd)
    refine Calls.spliced_nil ⟨by rw [sizeLine_eq]; show 2 ≤ _; omega, _, rfl, _, _, rfl, fun b o e => Heap.get?_push_of_some _ (kp b o e), _, _, rfl, Heap.get?_push_size _ rfl⟩
  · obtain ⟨u, rfl, h⟩ := hq
    exact h


/-! ### by the length, then the places -/
open LamX (CodeO TabS Tabs ExtN TabB)
def iD (l : List Nat) : List PyData := l.map fun x => .int (x : Nat)
def kkey (l : List Nat) : PyData := .tuple [.int (l.length : Nat), .tuple (iD l)]
def kLe (p q : List Nat) : Bool := PySem.W.dataLe false kkey p q
theorem toks_inj : ∀ {l m : List Nat}, PySem.W.keyToksAll (iD l) = PySem.W.keyToksAll (iD m) → l = m
  | [], [], _ => rfl
  | [], y :: m, h => by
    have h : [Sum.inl 0] = Sum.inl 1 :: (PySem.W.keyToks (.int (y : Nat)) ++ PySem.W.keyToksAll (iD m)) := h
    simp at h
  | x :: l, [], h => by
    have h : Sum.inl 1 :: (PySem.W.keyToks (.int (x : Nat)) ++ PySem.W.keyToksAll (iD l)) = [Sum.inl 0] := h
    simp at h
  | x :: l, y :: m, h => by
    have h : Sum.inl 1 :: ([Sum.inl ((x : Nat) : Int)] ++ PySem.W.keyToksAll (iD l)) = Sum.inl 1 :: ([Sum.inl ((y : Nat) : Int)] ++ PySem.W.keyToksAll (iD m)) := h
    have h1 := (List.cons.inj h).2
    have h2 := List.cons.inj h1
    have h3 : x = y := by exact_mod_cast Sum.inl.inj h2.1
    rw [h3, toks_inj h2.2]
theorem kkey_inj {l m : List Nat} (h : PySem.W.keyToks (kkey l) = PySem.W.keyToks (kkey m)) : l = m := by
  have h : Sum.inl 1 :: ([Sum.inl ((l.length : Nat) : Int)] ++ (Sum.inl 1 :: (PySem.W.keyToksAll (iD l) ++ [Sum.inl 0]))) = Sum.inl 1 :: ([Sum.inl ((m.length : Nat) : Int)] ++ (Sum.inl 1 :: (PySem.W.keyToksAll (iD m) ++ [Sum.inl 0]))) := h
  have h1 := (List.cons.inj (List.cons.inj (List.cons.inj h).2).2).2
  exact toks_inj (List.append_cancel_right h1)
theorem kLe_tot : PySem.W.TotalLe kLe := PySem.W.sortLe_total (listOrd itemOrd) false fun b => PySem.W.keyToks (kkey b)
theorem kLe_anti {p q : List Nat} (h1 : kLe p q = true) (h2 : kLe q p = true) : p = q := by
  have a1 : (!(PySem.W.dataLt (kkey q) (kkey p))) = true := h1
  have a2 : (!(PySem.W.dataLt (kkey p) (kkey q))) = true := h2
  rw [Bool.not_eq_true'] at a1 a2
  exact kkey_inj ((listOrd itemOrd).total _ _ a2 a1)
theorem kSrt_uniq {l m : List (List Nat)} (p : l.Perm m) (h1 : l.Pairwise fun a b => kLe a b = true) (h2 : m.Pairwise fun a b => kLe a b = true) : l = m :=
  List.Perm.eq_of_pairwise (fun _ _ _ _ a b => kLe_anti a b) h1 h2 p
theorem alike_ints : ∀ l m : List Nat, PySem.W.alikeAll (iD l) (iD m) = true
  | [], [] => rfl
  | [], _ :: _ => rfl
  | _ :: _, [] => rfl
  | x :: l, y :: m => by
    show (PySem.W.alike (.int (x : Nat)) (.int (y : Nat)) && PySem.W.alikeAll (iD l) (iD m)) = true
    rw [alike_ints l m]
    rfl
theorem alike_key (l m : List Nat) : PySem.W.alike (kkey l) (kkey m) = true := by
  show (PySem.W.alike (.int (l.length : Nat)) (.int (m.length : Nat)) && (PySem.W.alike (.tuple (iD l)) (.tuple (iD m)) && PySem.W.alikeAll [] [])) = true
  have : PySem.W.alike (.tuple (iD l)) (.tuple (iD m)) = true := alike_ints l m
  rw [this]
  rfl
theorem reads_ints {h : Heap} : ∀ {l : List Nat} {us : List Value}, Vals ((nI l).map V.int) us → ReadsAll h us (iD l) []
  | [], _, r => by
    cases r
    exact .nil
  | x :: l, _, r => by
    cases r with
    | cons r1 r2 =>
      obtain ⟨t, rfl⟩ := r1
      exact ReadsAll.cons (Reads.int _ _) (reads_ints r2)
theorem vals_refs : ∀ {out : List Value} {zs : List (Addr × List Nat)}, PySem.W.EachIs (fun v x => v = Value.ref x.1) out zs → Vals ((zs.map Prod.fst).map V.ref) out
  | _, _, .nil => .nil
  | _, _, .cons h r => .cons (by rw [h]; rfl) (vals_refs r)
/-- sorted(e, key=lambda p: (len(p), p)) -/
def tSrL (T : List (Addr × Str)) (te : TE) : TE := fun σ H Q => te σ H fun v H1 => Tabs T H1 ∧ ∃ (a : Addr) (zs : List (Addr × List Nat)), v = .ref a ∧ H1 a = some (.lst ((zs.map Prod.fst).map V.ref)) ∧ (∀ z ∈ zs, H1 z.1 = some (.tup ((nI z.2).map V.int)) ∧ z.2.length ≤ 1000) ∧ zs.length ≤ 100000 ∧
  ∀ (D : Addr) (zs' : List (Addr × List Nat)) (H2 : Hp), ExtN H1 H2 → Tabs T H2 → H2 D = some (.lst ((zs'.map Prod.fst).map V.ref)) → zs'.Perm zs → (zs'.map Prod.snd).Pairwise (fun p q => kLe p q = true) → Q (.ref D) H2
theorem pe_sortLam {X : Cx} {T : List (Addr × Str)} {p : Str} {c P : Addr} {e : Expr} {te : TE} {params : Arguments} {scope : Scope} {p1 lpos kpos pos pa pb pc_ pd pe_ : Pos} {kt : _}
    (hg : Gl X "sorted") (hm : X.mg "sorted" = none) (hml : X.mg "len" = none) (hr : Room 3 X.A) (he : PE X e te)
    (TB : TabB X.base X.mg c P) (hcode : X.env.code = .ref c) (hmT : (P, X.env.qual ++ "<lambda>") ∈ T) (hu : ∀ p ∈ T, p.1 = P → p.2 = X.env.qual ++ "<lambda>") (S : LkS p scope) (hdef : defaultsOf params X.env = ([], []))
    (hbind : ∀ (q : Str) (cl : List (Str × Addr)) (pm cv ctv u : Value), bindArgs (PySem.W.kla_fn "<lambda>" q params (.Tuple [.Call (.Name "len" pa) [.Name p pb] [] pc_, .Name p pd] kt pe_) scope cl pm cv ctv) ⟨[u], []⟩ = pure [(p, u)])
    (hclo : ∀ d : List (Str × Addr), cloFrom d scope.names [] = []) (hd : (p == ("__debug__" : Str)) = false := by decide) (hrf : Room 0 X.A → True := fun _ => trivial)
    (hbe : backTo pos (starEach [e] X.env) = (false, eval e X.env) :: backTo pos (starEach [] X.env) := by rfl) (hpl : (backTo pos (starEach [e] X.env)).any (·.1) = false := by rfl)
    (hall : (backToKw pos (keywordEach [⟨some "key", .Lambda params (.Tuple [.Call (.Name "len" pa) [.Name p pb] [] pc_, .Name p pd] kt pe_) scope lpos, kpos⟩] X.env)).all (·.1.isSome) = true := by rfl)
    (hnone : (backToKw pos (keywordEach [⟨some "key", .Lambda params (.Tuple [.Call (.Name "len" pa) [.Name p pb] [] pc_, .Name p pd] kt pe_) scope lpos, kpos⟩] X.env)).any (·.1.isNone) = false := by rfl) :
    PE X (.Call (.Name "sorted" p1) [e] [⟨some "key", .Lambda params (.Tuple [.Call (.Name "len" pa) [.Name p pb] [] pc_, .Name p pd] kt pe_) scope lpos, kpos⟩] pos) (tSrL T te) := by
  refine ⟨fun pins s σ H Q I h => ?_⟩
  refine wpAny_Call_Name_kw (ld_blt I hg hm (by decide +kernel : bootBuiltins "sorted" = some (.builtin "sorted")) ?_)
  refine PyProof.Rows.callWith_kw ?_ hbe hpl hall hnone
  rw [hbe]
  refine Calls.spliced_cons (thn (he.run pins s σ H _ I h) fun u s1 ⟨v, H1, I1, r1, hT, a, zs, ev, ha, hz, hzl, q1⟩ => ?_)
  refine Calls.spliced_nil ?_
  subst ev
  obtain rfl : u = (Value.ref a) := r1
  show wpAny _ _ (evalAll ((do let v ← eval (.Lambda params (.Tuple [.Call (.Name "len" pa) [.Name p pb] [] pc_, .Name p pd] kt pe_) scope lpos) X.env; standAt pos; pure v) :: [])) _ _ s1
  have hfree : ∀ z ∈ scope.names, z.2 = .free → ∃ c, X.env.cells.lookup z.1 = some c := fun z hz hz2 => absurd hz2 (S.nofree z hz)
  refine wpAny_evalAll_cons (wpAny_bind (LamX.lam_make2 I1 TB hcode hmT hu hT hdef hfree fun f c' pm ctv H2 s2 I2 eN T2 hf hf0 hfr hco => wpAny_bind (wpAny_standAt (wpAny_pure (wpAny_evalAll_nil ?_)))))
  rw [hclo] at hf
  show wpAny _ _ (call (.builtin "sorted") [.ref a] [(Str.ofString "key", .ref f)]) _ _ _
  have ha2 : H2 a = some (.lst ((zs.map Prod.fst).map V.ref)) := eN _ _ ha (fun _ z => nomatch z)
  obtain ⟨its, rv, pl, hzz⟩ := I2.list (SqL.of ha2)
  have each : ∀ {zs : List (Addr × List Nat)} {its : List Value}, Vals ((zs.map Prod.fst).map V.ref) its → PySem.W.EachIs (fun v x => v = Value.ref x.1) its zs := fun {zs} => by
    induction zs with
    | nil =>
      intro its r
      cases r
      exact .nil
    | cons z zs ih =>
      intro its r
      cases r with
      | cons r1 r2 => exact .cons r1 (ih r2)
  have ru := hr.un
  have rd := hr.dp
  refine PySem.W.sorted_key_data (vs := its) (bs := zs) (R := fun v x => v = Value.ref x.1) (b := false) (fun x => kkey x.2) pl.isList (each rv) ?_ ?_ (by rw [sizeLine_eq]; omega) ?_ (PyProof.Rows.ksk_s1 _ _) (fun _ => PyProof.Rows.ksk_l1 _ _) (fun x => PyProof.Rows.ksk_t1 f x) ?_ ?_
  · intro d hd d' hd'
    obtain ⟨z, _, rfl⟩ := List.mem_map.mp hd
    obtain ⟨z', _, rfl⟩ := List.mem_map.mp hd'
    exact alike_key _ _
  · refine .inl fun d hd => ?_
    obtain ⟨z, _, rfl⟩ := List.mem_map.mp hd
    exact ⟨_, _, rfl⟩
  · intro z hz'
    have dp : (kkey z.2).depth ≤ 2 := by
      have : PyData.depthAll (iD z.2) ≤ 0 := (lay_all (n := 0) fun d hd => by
        obtain ⟨x, _, rfl⟩ := List.mem_map.mp hd
        exact ⟨rfl, Nat.le_refl _⟩).2
      show max 0 (max (PyData.depthAll (iD z.2) + 1) 0) + 1 ≤ 2
      omega
    omega
  · intro v z hv hzm h9 tk9 keep
    subst hv
    obtain ⟨k1, k2⟩ := hz z hzm
    have k1' : H2 z.1 = some (.tup ((nI z.2).map V.int)) := eN _ _ k1 (fun _ z => nomatch z)
    obtain ⟨us, ru2, it, hzu⟩ := I2.tuple (SqT.of k1')
    have E0 := I2.env0
    obtain ⟨mb, hb1, hb2⟩ := E0.mod.blt
    have kb : ∀ b o, X.base.get? b = some o → h9.get? b = some o := fun b o e => keep b o (E0.bs b o e).1
    obtain ⟨⟨oc, vs9, tq, hoc, hdc, hvc⟩, _, _⟩ := E0.hok c' _ hco
    have hlu : us.length = z.2.length := by
      have := Vals.length ru2
      rw [List.length_map, List.length_map] at this
      omega
    have hsl := sizeLine_eq
    refine wpAny_mono (lk_turn (mg := X.mg) (mb := mb) (A := X.A.in1.in1) ?_ (E0.mod.nolimit.keeps kb) S (keep _ _ hf) ⟨c', oc, vs9, tq, rfl, keep _ _ hoc, hdc, hvc⟩ (E0.mod.glob.keeps kb) hml (hb1.keeps kb) ?_ (it.keeps keep) (by
      show us.toArray.size ≤ _
      rw [List.size_toArray, hlu]
      omega) (fun u => hbind _ _ _ _ _ u) hd) (fun v s' hq => ?_) fun e s' hq => hq
    · show X.A.depth < recursionLimit
      omega
    · rw [hb2 "len" (by decide)]
      decide +kernel
    · obtain ⟨h', tk, e1, k9, tk2, t', rfl, ht'⟩ := hq
      refine ⟨h', tk, e1, k9, ?_⟩
      obtain ⟨oz, hoz, hcz, nz, hdz⟩ := it
      refine Reads.tuple (as := []) ht' rfl rfl (ReadsAll.cons (as := []) ?_ (ReadsAll.cons (as := []) (Reads.tuple (k9 _ _ (keep _ _ hoz)) hcz hdz (reads_ints ru2)) .nil))
      rw [List.size_toArray, hlu]
      exact Reads.int _ _
  · intro out c9 h9 tk9 keep fr at9 ol eo
    have pm : (zs.mergeSort (PySem.W.dataLe false fun x => kkey x.2)).Perm zs := List.mergeSort_perm _ _
    have hfr : H2 (s2.heap.objs.size + 1) = none := I2.hok.fresh (Nat.le_succ s2.heap.objs.size)
    have kU : ∀ b o, H2 b = some o → upd H2 (s2.heap.objs.size + 1) (HO.lst (((zs.mergeSort (PySem.W.dataLe false fun x => kkey x.2)).map Prod.fst).map V.ref)) b = some o := fun b o e => (upd_ne fun q => by
      rw [q, hfr] at e
      cases e).trans e
    refine ⟨V.ref (s2.heap.objs.size + 1), upd H2 (s2.heap.objs.size + 1) (HO.lst (((zs.mergeSort (PySem.W.dataLe false fun x => kkey x.2)).map Prod.fst).map V.ref)), Inv.laid I2 keep (Nat.le_succ s2.heap.objs.size) ⟨?_, out, c9, vals_refs eo, at9⟩, rfl, q1 _ _ _ (eN.trans (ExtN.of kU)) (T2.ext kU) upd_same pm ?_⟩
    · rw [List.length_map, List.length_map, pm.length_eq]
      rw [List.length_map, List.length_map] at hzz
      exact hzz
    · have := PySem.W.sort_pairwise (le := PySem.W.dataLe false fun x : Addr × List Nat => kkey x.2) (PySem.W.sortLe_total (listOrd itemOrd) false fun b : Addr × List Nat => PySem.W.keyToks (kkey b.2)) zs
      exact List.pairwise_map.mpr this

local macro_rules | `(tactic| walk_at "sm") => `(tactic| try simp only [tDisp, tPairs, tDGet, tDNotIn, tDIn, tDNewK, gSub, rSetD, tPar, sFld, tFld, tMake, tMakeS, tSeq, tAsg, tRet, tRetN, tDrop, tOp, tUn, tVar, tC, tCB, tCons, tNil, tLst, tTup, tTest, tB, tAnd, tOr, tNot, tAndV, tOrV, tNotV, tIf, tIfS, tNext, tCont, tBreak, tCall, tCallS, WE, tXf, rI0, rI, rU, gName, gNil, gCons, gTup, gSub, tAug, tBM, tBM0, tM1, rNewStrs, tLc_eq, iRng1, iRng2, iList, iTup, tYes, wipe, List.foldl_cons, List.foldl_nil, rEq, rNe, scal, rIxS, rSlS, tSl, tPart, tNoPart, tChain, ipI, str1, tMkO_eq, L2.start, List.map_cons, List.map_nil, List.append_nil, List.cons_append, List.nil_append, List.length_cons, List.length_nil, List.drop, List.replicate, List.getElem?_cons_zero, List.getElem?_cons_succ, List.set_cons_zero, List.set_cons_succ, Option.some.injEq, V.int.injEq, V.str.injEq, V.ref.injEq, V.bl.injEq, List.cons.injEq, reduceCtorEq, false_and, and_false, exists_false, or_false, false_or, exists_eq_left', exists_eq_left, and_assoc, cx_K, exists_and_left, exists_and_right, and_true, true_and, decide_eq_true_eq, if_true, if_false, Bool.false_eq_true])

/-! ### reached_standings -/
open LamX (CodeO TabS Tabs ExtN TabB)
/-- a row of tuples of whole numbers -/
def TsAt (H : Hp) (zs : List (Addr × List Nat)) : Prop := ∀ z ∈ zs, H z.1 = some (.tup ((nI z.2).map V.int))
theorem TsAt.go {H H' : Hp} {zs : List (Addr × List Nat)} (e : Evl.Ex H H') (h : TsAt H zs) : TsAt H' zs := fun z hz => e _ _ (h z hz)
theorem TsAt.nx {H H' : Hp} {zs : List (Addr × List Nat)} (e : ExtN H H') (h : TsAt H zs) : TsAt H' zs := fun z hz => e _ _ (h z hz) (fun _ q => nomatch q)
theorem wiB_nat {x : V} {lo : Nat} {hi : Int} (h : wiB x (lo : Int) hi = true) : ∃ r : Nat, x = .int (r : Nat) ∧ lo ≤ r ∧ (r : Int) ≤ hi := by
  cases x with
  | int i =>
    have h : (decide ((lo : Int) ≤ i) && decide (i ≤ hi)) = true := h
    simp only [Bool.and_eq_true, decide_eq_true_eq] at h
    obtain ⟨r, rfl⟩ := Int.eq_ofNat_of_zero_le (show 0 ≤ i by omega)
    exact ⟨r, rfl, by omega, by omega⟩
  | _ => cases h
section
variable {P : Program} {w : World} {K : PySem.W.Frag} {mg : Str → Option Value} {base : Heap} {a : Ad}
/-- the standings reached from none within a room -/
abbrev rchd (bs : List (List Nat)) (r : Nat) : List (List Nat) := ((fin bs r 0).map Prod.fst).map (pcs bs.length)
def spRS_ (a : Ad) (TL : List (Addr × Str)) : Sp := fun vs H Q E => ∃ (x : Addr) (rv : V) (bs : List (List Nat)) (e : Nat), vs = [.ref x, rv] ∧ BareAt a.c_Bare H x bs e ∧ WebOk bs e ∧ Tabs TL H ∧ PlainV H rv ∧ (wiB rv 1 200 = false → E (.ref a.c_BadRoom) none H) ∧
  (wiB rv 1 200 = true → 8 < bs.length → RzP a.c_TooMany "most" (.int 8) H E) ∧ (∀ r : Nat, rv = .int (r : Nat) → 1 ≤ r → r ≤ 200 → bs.length ≤ 8 → ∀ (D : Addr) (zs : List (Addr × List Nat)) (H' : Hp), ExtN H H' → Tabs TL H' → H' D = some (.tup ((zs.map Prod.fst).map V.ref)) → TsAt H' zs →
    (zs.map Prod.snd).Perm (rchd bs r) → (zs.map Prod.snd).Pairwise (fun p q => kLe p q = true) → Q (.ref D) H')
theorem ok_reached_standings {TL : List (Addr × Str)} {c Pt : Addr} (T : Txt K mg a) (TB : TabB base mg c Pt) (hcd : a.d_reached_standings.code = .ref c) (hmL : (Pt, lamQ "reached_standings") ∈ TL) (huL : ∀ p ∈ TL, p.1 = Pt → p.2 = lamQ "reached_standings") : FnOk P w K mg base (L2.CX P w) 5 a.f_reached_standings a.d_reached_standings ["bare", "room"] (spRS_ a TL) := by
  refine Fun.okXC T.F_reached_standings hcd sc_reached_standings (fun vs H Q E h => ?_) (fun A outer s H vs Q E hr h => ?_)
  · obtain ⟨_, _, _, _, rfl, _⟩ := h
    rfl
  · obtain ⟨x, rv, bs, e, rfl, hB, hw, hT, hp, k1, k2, k⟩ := h
    refine ⟨_, (pss_cons (ps_expr (pe_call (ok_check_room T) (hr.mono (by decide)) rfl T.m_check_room T.F_check_room.kp T.b_check_room .nil (passes_call (takes_of rfl rfl rfl rfl) (fun _ _ _ _ q => q)) (pa_cons (pv 1) pa_nil)))
  (pss_cons (ps_expr (pe_call (ok_check_small T) (hr.mono (by decide)) rfl T.m_check_small T.F_check_small.kp T.b_check_small .nil (passes_call (takes_of rfl rfl rfl rfl) (fun _ _ _ _ q => q)) (pa_cons (pv 0) pa_nil)))
  (pss_cons (ps_setLc (i := 2) (own := [("standing", 3)]) (g := gName 3) (tt := tYes) rfl sc_reached_standings.nd rfl rfl (sw_true rfl rfl rfl (by decide +kernel)) (pi_keysL (pe_call (ok_distances_from T) (hr.mono (by decide)) rfl T.m_distances_from T.F_distances_from.kp T.b_distances_from .nil pass0 (pa_cons (pv 0) (pa_cons (pv 1) (pa_cons pe_int pa_nil))))) (blkOk_by (own := [("standing", 3)]) (N := ["bare", "room", "standings", "standing"]) (sc := defScope s_reached_standings) (by decide +kernel)) (fun _ _ _ _ _ => pg_name (i := 3) sc_reached_standings.nd rfl (Or.inl rfl)) (fun _ _ _ _ _ => pts_nil) (fun _ _ _ _ _ => (pe_call (ok_places_in T) (hr.mono (by decide)) rfl T.m_places_in T.F_places_in.kp T.b_places_in .nil pass0 (pa_cons (pv 3) pa_nil))))
  (pss_one (ps_ret (pe_callTy call_tuple_of (by rfl) T.z_tuple (by decide +kernel) (pa_cons (pe_sortLam (T := TL) (p := "standing") (by rfl) T.z_sorted T.z_len (hr.mono (by decide)) (pv 2) TB rfl hmL huL (lkS_by (by decide +kernel)) rfl (fun _ _ _ _ _ _ => rfl) (fun _ => rfl)) pa_nil))))))), ?_⟩
    walk_at "sm"
    refine ⟨rv, rfl, hp, fun hwi => ?_, k1⟩
    refine ⟨x, bs, e, rfl, hB, hw.ok.2.1, fun hn => ?_, fun h d H' f hd => k2 hwi h d H' f hd⟩
    obtain ⟨r, rfl, r1, r2⟩ := wiB_nat (lo := 1) hwi
    have hr200 : r ≤ 200 := by omega
    refine ⟨_, rfl, _, rfl, x, bs, e, r, 0, rfl, hB, hn, Nat.two_pow_pos _, fun d H2 f2 hd0 hd => ⟨d, _, rfl, hd, fun o => ?_⟩⟩
    rw [pc_zero, if_pos (Nat.zero_le _)] at hd ⊢
    have f3 : Evl.Ex H (L2.upd H2 d (.frz o (.dK (kvQ Prod.snd (fin bs r 0))))) := f2.mut hd0
    have hz : L2.upd H2 d (.frz o (.dK (kvQ Prod.snd (fin bs r 0)))) d = some (.frz o (.dK (kvQ Prod.snd (fin bs r 0)))) := upd_same
    generalize L2.upd H2 d (.frz o (.dK (kvQ Prod.snd (fin bs r 0)))) = H3 at f3 hz ⊢
    have big : (fin bs r 0).length ≤ 256 := Nat.le_trans (rn_len (Nat.two_pow_pos _) _) (show 2 ^ bs.length ≤ 2 ^ 8 from Nat.pow_le_pow_right (by decide) hn)
    refine lcg_en (n := (kvQ Prod.snd (fin bs r 0)).length) (fun E j H' => Evl.Ex H3 H' ∧ ∃ zs : List (Addr × List Nat), H' E = some (.lst ((zs.map Prod.fst).map V.ref)) ∧ TsAt H' zs ∧ zs.map Prod.snd = (((fin bs r 0).map Prod.fst).take j).map (pcs bs.length)) (fun E hE => ⟨Evl.Ex.new hE, [], upd_same, (fun _ h => nomatch h), rfl⟩) (fun E j HY hE hj h => ⟨h.1 _ _ hz, hj⟩) (fun E HY hE h => ⟨h.1 _ _ hz, Nat.le_refl _⟩) ?_ ?_
    · rintro E j y HY HY' hE hj ⟨h1, zs, h2, h3, h4⟩ ⟨rfl, k0, v0, hk, rfl⟩
      obtain ⟨en, hen, hke⟩ : ∃ en, (fin bs r 0)[j]? = some en ∧ k0 = .inl (en.1 : Int) := by
        unfold kvQ at hk
        rw [List.getElem?_map] at hk
        cases c : (fin bs r 0)[j]? with
        | none => rw [c] at hk; cases hk
        | some en => rw [c] at hk; exact ⟨en, rfl, by have := Option.some.inj hk; exact (congrArg Prod.fst this).symm⟩
      subst hke
      have jl := (List.getElem?_eq_some_iff.mp hen).1
      have lz : zs.length ≤ j := by
        have := congrArg List.length h4
        rw [List.length_map, List.length_map, List.length_take] at this
        omega
      walk_at "sm"
      refine ⟨bs.length, en.1, rfl, (rn_qi (room := r) (Nat.two_pow_pos _) _).lt _ (List.mem_of_getElem? hen), hw.ok.2.1, fun q H4 f4 hq => ⟨_, f4 _ _ h2, by rw [List.length_map, List.length_map, sizeLine_eq]; omega, (h1.trans f4).mut hE, zs ++ [(q, pcs bs.length en.1)], ?_, ?_, ?_⟩⟩
      · rw [upd_same, List.map_append, List.map_append]
        rfl
      · intro z hz'
        have ne : z.1 ≠ E := fun z1 => by
          rcases List.mem_append.mp hz' with hz' | hz'
          · have := h3 z hz'
            rw [z1, h2] at this
            cases this
          · rw [List.mem_singleton.mp hz'] at z1
            have h5 := f4 _ _ h2
            rw [← z1, hq] at h5
            cases h5
        rw [upd_ne ne]
        rcases List.mem_append.mp hz' with hz' | hz'
        · exact f4 _ _ (h3 z hz')
        · rw [List.mem_singleton.mp hz']
          exact hq
      · rw [List.map_append, h4, List.take_succ, List.getElem?_map, hen, Option.map_some, Option.toList_some, List.map_append]
        rfl
    · rintro N HN hN ⟨h1, zs, h2, h3, h4⟩
      rw [kvQ_len, List.take_of_length_le (by rw [List.length_map]; exact Nat.le_refl _)] at h4
      have fN := f3.trans h1
      have lz : zs.length = (fin bs r 0).length := by
        have := congrArg List.length h4
        rw [List.length_map, List.length_map, List.length_map] at this
        exact this
      refine ⟨_, rfl, hT.ext fN, N, zs, rfl, h2, fun z hz' => ⟨h3 z hz', ?_⟩, by omega, fun D zs' H5 e5 T5 hD pm so => ⟨D, rfl, _, .inl ⟨SqL.of hD, fun l hl => k r rfl r1 hr200 hn l zs' _ ?_ ?_ upd_same ?_ ?_ so⟩⟩⟩
      · have : z.2 ∈ zs.map Prod.snd := List.mem_map.mpr ⟨z, hz', rfl⟩
        rw [h4] at this
        obtain ⟨m, _, hm⟩ := List.mem_map.mp this
        rw [← hm]
        have := pcs_len bs.length m
        have := hw.ok.2.1
        omega
      · exact ((ExtN.of fN).trans e5).trans (ExtN.of (Evl.Ex.new hl))
      · exact T5.ext (Evl.Ex.new hl)
      · have t5 : TsAt H5 zs' := fun z hz' => (TsAt.nx e5 h3) z (pm.mem_iff.mp hz')
        exact t5.go (Evl.Ex.new hl)
      · show (zs'.map Prod.snd).Perm (((fin bs r 0).map Prod.fst).map (pcs bs.length))
        rw [← h4]
        exact pm.map _
end


/-! ### check_places, least_way -/
section
variable {P : Program} {w : World} {K : PySem.W.Frag} {mg : Str → Option Value} {base : Heap} {a : Ad}
theorem msk_lt {n : Nat} {l : List Nat} (h : ∀ x ∈ l, x < n) : msk l < 2 ^ n := Nat.lt_pow_two_of_testBit _ fun i hi => by
  rw [msk_bit]
  exact decide_eq_false fun z => by
    have := h i z
    omega
/-- the places that are told: all good, or good up to one that is no place or was told before -/
def PlsOk (n : Nat) (l : List Nat) : Prop := l.Nodup ∧ ∀ x ∈ l, x < n
def PlsBad (n : Nat) (l : List Nat) (y : V) : Prop := isP n y = false ∨ ∃ k ∈ l, y = .int (k : Nat)
def spCP (a : Ad) : Sp := fun vs H Q E => ∃ (x : Addr) (bs : List (List Nat)) (e : Nat) (v : V), vs = [.ref x, v] ∧ BareAt a.c_Bare H x bs e ∧ bs.length ≤ 200 ∧ PlainV H v ∧ (sqV v = false → RzP a.c_BadPlaces "index" (.int (-1)) H E) ∧
  ∀ p, v = .ref p → ∃ (ys : List V) (l : List Nat), SqAt H p ys ∧ (∀ y ∈ ys, PlainV H y) ∧ PlsOk bs.length l ∧
    ((ys = (nI l).map V.int ∧ ∀ q H', Evl.Ex H H' → H' q = some (.tup ((nI (pcs bs.length (msk l))).map V.int)) → Q (.ref q) H') ∨
     (∃ y zs, ys = (nI l).map V.int ++ y :: zs ∧ PlsBad bs.length l y ∧ RzP a.c_BadPlaces "index" (.int (l.length : Nat)) H E))
def ivCP (H : Hp) (x p : Addr) (l : List Nat) : Nat → L2.St → Hp → Prop := fun i σ H' => ∃ v3 v4, σ = [some (.ref x), some (.ref p), some (.int (msk (l.take i) : Nat)), v3, v4] ∧ Evl.Ex H H' ∧ i ≤ l.length
theorem ok_check_places (T : Txt K mg a) : FnOk P w K mg base (L2.CX P w) 4 a.f_check_places a.d_check_places ["bare", "places"] (spCP a) := by
  refine T.F_check_places.okX sc_check_places (fun vs H Q E h => ?_) (fun cdv A outer s H vs Q E hr h => ?_)
  · obtain ⟨_, _, _, _, rfl, _⟩ := h
    rfl
  · obtain ⟨x, bs, e, v, rfl, hB, hn, hp, k0, k⟩ := h
    refine ⟨_, (pss_cons (ps_if (pt_not (pt_val (pe_call (ok_is_sequence T) (hr.mono (by decide)) rfl T.m_is_sequence T.F_is_sequence.kp T.b_is_sequence .nil pass0 (pa_cons (pv 1) pa_nil)))) (pss_one (ps_raise rfl (takes_of rfl rfl rfl rfl) (pmk_oex T.x_BadPlaces T.xi_BadPlaces T.xt_BadPlaces (ok_BadPlaces_init T) (hr.mono (by decide)) T.b_BadPlaces___init__ .nil pass0 rfl T.m_BadPlaces (pa_cons (pe_un un_neg pe_int) pa_nil))))
    pss_nil)
  (pss_cons (ps_set (i := 2) sc_check_places.nd rfl (by first | exact Or.inl rfl | exact Or.inr rfl) pe_int)
  (pss_cons (ps_for (passes_of rfl) rfl (pi_or (pi_enum (by rfl) T.z_enumerate (pa_cons (pv 1) pa_nil)) (pi_enumT (by rfl) T.z_enumerate (pa_cons (pv 1) pa_nil))) (pg_tup rfl (pgs_cons (pg_name (i := 3) sc_check_places.nd rfl (by first | exact Or.inl rfl | exact Or.inr rfl)) (pgs_cons (pg_name (i := 4) sc_check_places.nd rfl (by first | exact Or.inl rfl | exact Or.inr rfl)) pgs_nil))) (pss_cons (ps_if (PW.pt (pw_or (pt_not (pt_val (pe_call (ok_is_placeG T) (hr.mono (by decide)) rfl T.m_is_place T.F_is_place.kp T.b_is_place .nil pass0 (pa_cons (pv 0) (pa_cons (pv 4) pa_nil))))) (pw_or1 (pt_truth (pe_op op_odd (pe_op op_shrK (pv 2) (pv 4)) pe_int) (by intro _; rfl))))) (pss_one (ps_raise rfl (takes_of rfl rfl rfl rfl) (pmk_oex T.x_BadPlaces T.xi_BadPlaces T.xt_BadPlaces (ok_BadPlaces_init T) (hr.mono (by decide)) T.b_BadPlaces___init__ .nil pass0 rfl T.m_BadPlaces (pa_cons (pv 3) pa_nil))))
    pss_nil)
  (pss_one (ps_aug (i := 2) sc_check_places.nd rfl (by first | exact Or.inl rfl | exact Or.inr rfl) (pe_op op_shlK pe_int (pv 4)) ip_orN))))
  (pss_one (ps_ret (pe_call (ok_places_in T) (hr.mono (by decide)) rfl T.m_places_in T.F_places_in.kp T.b_places_in .nil pass0 (pa_cons (pv 2) pa_nil))))))), ?_⟩
    walk_at "sm"
    refine ⟨v, rfl, hp, fun H1 e1 => ⟨_, rfl, ?_⟩⟩
    cases hs : sqV v with
    | false => exact iteT (mk1 ((k0 hs).go e1))
    | true =>
      refine iteF ?_
      cases v with
      | ref p =>
        obtain ⟨ys, l, hq, hy, ⟨nd, lt⟩, kk⟩ := k p rfl
        have hq1 := hq.go e1
        have pre : ∀ i y, ys[i]? = some y → i < l.length → ∃ m, l[i]? = some m ∧ y = .int (m : Nat) := fun i y h hi => by
          rcases kk with ⟨h1, _⟩ | ⟨y0, zs, h1, _⟩
          · rw [h1] at h
            obtain ⟨m, h2, h3⟩ := nat_at h
            exact ⟨m, h2, h3⟩
          · rw [h1, List.getElem?_append_left (by rw [nI_len]; exact hi)] at h
            obtain ⟨m, h2, h3⟩ := nat_at h
            exact ⟨m, h2, h3⟩
        refine for_sqE (xs := ys) hq1 rfl (ivCP H1 x p l) ⟨none, none, rfl, Evl.Ex.refl _, Nat.zero_le _⟩ (fun i σ HX ⟨_, _, _, h, _⟩ => h) ?_ ?_
        · rintro i σ HX Tt y hyi ⟨v1, v2, rfl, f1, hi⟩ hT
          have eT := Evl.Ex.new (o := .tup [.int (i : Nat), y]) hT
          have f2 := (e1.trans f1).trans eT
          have hpy := (hy y (List.mem_of_getElem? hyi)).go f2
          walk_at "sm"
          refine ⟨_, SqT.of upd_same, rfl, _, _, rfl, _, _, rfl, rfl, x, bs, e, y, rfl, hB.go f2, hpy, _, rfl, ?_⟩
          have bad : i = l.length → ∃ zs, ys = (nI l).map V.int ++ y :: zs ∧ PlsBad bs.length l y ∧ RzP a.c_BadPlaces "index" (.int (l.length : Nat)) H E := fun hi => by
            rcases kk with ⟨h1, _⟩ | ⟨y0, zs, h1, h2, h3⟩
            · have := (List.getElem?_eq_some_iff.mp hyi).1
              rw [h1, nI_len] at this
              omega
            · rw [h1, List.getElem?_append_right (by rw [nI_len]; omega), nI_len, hi, Nat.sub_self] at hyi
              have : y0 = y := Option.some.inj hyi
              exact ⟨zs, by rw [← this]; exact h1, by rw [← this]; exact h2, h3⟩
          have tb : ∀ m, (((msk (l.take i) / 2 ^ m % 2 : Nat) : Int) != 0) = decide (m ∈ l.take i) := fun m => by rw [tru_bit, msk_bit]
          rcases Nat.lt_or_eq_of_le hi with hlt | heq
          · obtain ⟨m, hm, rfl⟩ := pre i y hyi hlt
            have ml := lt m (List.mem_of_getElem? hm)
            have g : wiB (.int (m : Nat)) 0 ((bs.length : Int) - 1) = true := by
              show (decide ((0 : Int) ≤ (m : Nat)) && decide (((m : Nat) : Int) ≤ (bs.length : Int) - 1)) = true
              rw [decide_eq_true (by omega), decide_eq_true (by omega)]
              rfl
            have nin : decide (m ∈ l.take i) = false := decide_eq_false fun z => by
              obtain ⟨j, hj⟩ := List.mem_iff_getElem?.mp z
              rw [List.getElem?_take] at hj
              by_cases c : j < i
              · rw [if_pos c] at hj
                obtain ⟨h1, h2⟩ := List.getElem?_eq_some_iff.mp hj
                obtain ⟨h3, h4⟩ := List.getElem?_eq_some_iff.mp hm
                have := (List.getElem_inj nd).mp (h2.trans h4.symm)
                omega
              · rw [if_neg c] at hj
                cases hj
            rw [g]
            refine iteF ⟨_, rfl, _, rfl, _, rfl, _, rfl, ?_⟩
            rw [tb, nin]
            refine iteF ⟨_, rfl, by omega, _, rfl, _, rfl, some (V.int (i : Nat)), some (V.int (m : Nat)), ?_, f1.trans eT, hlt⟩
            rw [List.take_succ, hm, Option.toList_some, msk_snoc]
          · obtain ⟨zs, _, hb, rz⟩ := bad heq
            have rz2 := rz.go f2
            rw [← heq] at rz2
            cases g : wiB y 0 ((bs.length : Int) - 1) with
            | false => exact iteT (mk1 rz2)
            | true =>
              obtain ⟨kq, hk, rfl⟩ := hb.resolve_left fun z => by
                have z : wiB y 0 ((bs.length : Int) - 1) = false := z
                rw [g] at z
                cases z
              refine iteF ⟨_, rfl, _, rfl, _, rfl, _, rfl, ?_⟩
              rw [tb, heq, List.take_of_length_le (Nat.le_refl _), decide_eq_true hk]
              refine iteT (mk1 ?_)
              rw [← heq]
              exact rz2
        · rintro σ HX ⟨v1, v2, rfl, f1, hi⟩
          walk_at "sm"
          rcases kk with ⟨h1, kk⟩ | ⟨y0, zs, h1, _⟩
          · have ly : ys.length = l.length := by rw [h1, nI_len]
            rw [ly, List.take_of_length_le (Nat.le_refl _)]
            refine ⟨bs.length, msk l, rfl, msk_lt lt, hn, fun q H' f hq2 => kk q H' ((e1.trans f1).trans f) hq2⟩
          · rw [h1, List.length_append, nI_len, List.length_cons] at hi
            omega
      | _ => cases hs
end


/-! ### least_way -/
section
variable {P : Program} {w : World} {K : PySem.W.Frag} {mg : Str → Option Value} {base : Heap} {a : Ad}
/-- places as they are told: the index of the first that is wrong, or the places -/
def PlAt (H : Hp) (v : V) (n : Nat) : Int ⊕ List Nat → Prop
  | .inl j => (sqV v = false ∧ PlainV H v ∧ j = -1) ∨ ∃ (p : Addr) (ys : List V) (l : List Nat) (y : V) (zs : List V), v = .ref p ∧ SqAt H p ys ∧ (∀ y ∈ ys, PlainV H y) ∧ PlsOk n l ∧ ys = (nI l).map V.int ++ y :: zs ∧ PlsBad n l y ∧ j = (l.length : Nat)
  | .inr l => ∃ p : Addr, v = .ref p ∧ SqAt H p ((nI l).map V.int) ∧ PlsOk n l
theorem PlAt.go {H H' : Hp} {v : V} {n : Nat} (f : Evl.Ex H H') : ∀ {r : Int ⊕ List Nat}, PlAt H v n r → PlAt H' v n r
  | .inl j, .inl ⟨h1, h2, h3⟩ => .inl ⟨h1, h2.go f, h3⟩
  | .inl j, .inr ⟨p, ys, l, y, zs, h1, h2, h3, h4⟩ => .inr ⟨p, ys, l, y, zs, h1, h2.go f, fun y hy => (h3 y hy).go f, h4⟩
  | .inr l, ⟨p, h1, h2, h3⟩ => ⟨p, h1, h2.go f, h3⟩
def PlQ (a : Ad) (n : Nat) (H : Hp) (Q : VK) (E : XK) : Int ⊕ List Nat → Prop
  | .inl j => RzP a.c_BadPlaces "index" (.int j) H E
  | .inr l => ∀ q H', Evl.Ex H H' → H' q = some (.tup ((nI (pcs n (msk l))).map V.int)) → Q (.ref q) H'
theorem cp_of {H : Hp} {x : Addr} {v : V} {bs : List (List Nat)} {e : Nat} {Q : VK} {E : XK} {r : Int ⊕ List Nat} (hB : BareAt a.c_Bare H x bs e) (hn : bs.length ≤ 200) (h : PlAt H v bs.length r) (k : PlQ a bs.length H Q E r) : spCP a [.ref x, v] H Q E := by
  cases r with
  | inl j =>
    rcases h with ⟨h1, h2, rfl⟩ | ⟨p, ys, l, y, zs, rfl, h2, h3, h4, h5, h6, rfl⟩
    · refine ⟨x, bs, e, v, rfl, hB, hn, h2, fun _ => k, fun p hp => ?_⟩
      subst hp
      cases h1
    · refine ⟨x, bs, e, .ref p, rfl, hB, hn, h2.plain, (fun z => by cases z), fun p' hp => ?_⟩
      cases hp
      exact ⟨ys, l, h2, h3, h4, .inr ⟨y, zs, h5, h6, k⟩⟩
  | inr l =>
    obtain ⟨p, rfl, h2, h3⟩ := h
    refine ⟨x, bs, e, .ref p, rfl, hB, hn, h2.plain, (fun z => by cases z), fun p' hp => ?_⟩
    cases hp
    refine ⟨_, l, h2, fun y hy => ?_, h3, .inl ⟨rfl, k⟩⟩
    obtain ⟨i, _, rfl⟩ := List.mem_map.mp hy
    exact plain_int
inductive Lw where
  | room | pls (j : Int) | many | noway | way (l : List Nat)
def ivN : V → Nat
  | .int i => i.toNat
  | _ => 0
def lwO : Option (List Nat) → Lw
  | none => .noway
  | some l => .way l
def lwR (bs : List (List Nat)) (rv : V) (r1 r2 : Int ⊕ List Nat) : Lw :=
  if wiB rv 1 200 = true then
    match r1, r2 with
    | .inl j, _ => .pls j
    | .inr _, .inl j => .pls j
    | .inr l1, .inr l2 => if 8 < bs.length then .many else lwO (lwy bs (ivN rv) (msk l1) (msk l2))
  else .room
def LwQ (a : Ad) (H : Hp) (Q : VK) (E : XK) : Lw → Prop
  | .room => ∀ H', Evl.Ex H H' → E (.ref a.c_BadRoom) none H'
  | .pls j => RzP a.c_BadPlaces "index" (.int j) H E
  | .many => RzP a.c_TooMany "most" (.int 8) H E
  | .noway => ∀ H', Evl.Ex H H' → E (.ref a.c_NoWay) none H'
  | .way l => ∀ q H', Evl.Ex H H' → H' q = some (.tup ((nI l).map V.int)) → Q (.ref q) H'
def spLW (a : Ad) : Sp := fun vs H Q E => ∃ (x : Addr) (rv v1 v2 : V) (bs : List (List Nat)) (e : Nat) (r1 r2 : Int ⊕ List Nat), vs = [.ref x, rv, v1, v2] ∧ BareAt a.c_Bare H x bs e ∧ WebOk bs e ∧ PlainV H rv ∧ PlAt H v1 bs.length r1 ∧ PlAt H v2 bs.length r2 ∧ LwQ a H Q E (lwR bs rv r1 r2)
theorem msk_pcs {n m : Nat} (h : m < 2 ^ n) : msk (pcs n m) = m := Nat.eq_of_testBit_eq fun i => by
  rw [msk_bit]
  by_cases c : i < n
  · cases t : m.testBit i with
    | true => exact decide_eq_true (pcs_mem.mpr ⟨c, t⟩)
    | false =>
      refine decide_eq_false fun z => ?_
      rw [(pcs_mem.mp z).2] at t
      cases t
  · rw [decide_eq_false fun z => c (pcs_mem.mp z).1]
    exact (Nat.testBit_lt_two_pow (Nat.lt_of_lt_of_le h (Nat.pow_le_pow_right (by decide) (by omega)))).symm
theorem ok_least_way (T : Txt K mg a) : FnOk P w K mg base (L2.CX P w) 5 a.f_least_way a.d_least_way ["bare", "room", "first", "last"] (spLW a) := by
  refine T.F_least_way.okX sc_least_way (fun vs H Q E h => ?_) (fun cdv A outer s H vs Q E hr h => ?_)
  · obtain ⟨_, _, _, _, _, _, _, _, rfl, _⟩ := h
    rfl
  · obtain ⟨x, rv, v1, v2, bs, e, r1, r2, rfl, hB, hw, hp, h1, h2, k⟩ := h
    refine ⟨_, (pss_cons (ps_expr (pe_call (ok_check_room T) (hr.mono (by decide)) rfl T.m_check_room T.F_check_room.kp T.b_check_room .nil (passes_call (takes_of rfl rfl rfl rfl) (fun _ _ _ _ q => q)) (pa_cons (pv 1) pa_nil)))
  (pss_cons (ps_set (i := 4) sc_least_way.nd rfl (by first | exact Or.inl rfl | exact Or.inr rfl) (pe_call (ok_mask_of T) (hr.mono (by decide)) rfl T.m_mask_of T.F_mask_of.kp T.b_mask_of .nil pass0 (pa_cons (pe_call (ok_check_places T) (hr.mono (by decide)) rfl T.m_check_places T.F_check_places.kp T.b_check_places .nil (passes_call (takes_of rfl rfl rfl rfl) (fun _ _ _ _ q => q)) (pa_cons (pv 0) (pa_cons (pv 2) pa_nil))) pa_nil)))
  (pss_cons (ps_set (i := 5) sc_least_way.nd rfl (by first | exact Or.inl rfl | exact Or.inr rfl) (pe_call (ok_mask_of T) (hr.mono (by decide)) rfl T.m_mask_of T.F_mask_of.kp T.b_mask_of .nil pass0 (pa_cons (pe_call (ok_check_places T) (hr.mono (by decide)) rfl T.m_check_places T.F_check_places.kp T.b_check_places .nil (passes_call (takes_of rfl rfl rfl rfl) (fun _ _ _ _ q => q)) (pa_cons (pv 0) (pa_cons (pv 3) pa_nil))) pa_nil)))
  (pss_cons (ps_expr (pe_call (ok_check_small T) (hr.mono (by decide)) rfl T.m_check_small T.F_check_small.kp T.b_check_small .nil (passes_call (takes_of rfl rfl rfl rfl) (fun _ _ _ _ q => q)) (pa_cons (pv 0) pa_nil)))
  (pss_cons (ps_set (i := 6) sc_least_way.nd rfl (by first | exact Or.inl rfl | exact Or.inr rfl) (pe_call (ok_way_between T) (hr.mono (by decide)) rfl T.m_way_between T.F_way_between.kp T.b_way_between .nil pass0 (pa_cons (pv 0) (pa_cons (pv 1) (pa_cons (pv 4) (pa_cons (pv 5) pa_nil))))))
  (pss_cons (ps_if (pt_cmpR op_isN (pv 6) pe_non (nomark _)) (pss_one (ps_raise rfl (takes_of rfl rfl rfl rfl) (pmk_own0 PySem.F.excBase_ValueError T.q_NoWay T.m_NoWay T.k_NoWay (raises_own T.sb_NoWay T.ty_NoWay) rfl)))
    pss_nil)
  (pss_one (ps_ret (pv 6))))))))), ?_⟩
    walk_at "sm"
    have n200 := hw.ok.2.1
    have nself : ∀ q, q ∉ row bs q := ns hw
    have pc2 : ∀ l q, q ∈ pcs bs.length (msk l) → q ≤ 1000 := fun l q hq => by
      have := (pcs_mem.mp hq).1
      omega
    unfold lwR at k
    refine ⟨rv, rfl, hp, fun hwi => ?_, fun hwi => ?_⟩
    · rw [if_pos hwi] at k
      cases r1 with
      | inl j1 => exact cp_of hB n200 h1 k
      | inr l1 =>
        have ok1 : PlsOk bs.length l1 := by
          obtain ⟨_, _, _, h⟩ := h1
          exact h
        refine cp_of hB n200 h1 fun q1 H1 f1 hq1 => ⟨q1, _, rfl, .inl hq1, pc2 l1, ?_⟩
        rw [msk_pcs (msk_lt ok1.2)]
        cases r2 with
        | inl j2 => exact cp_of (hB.go f1) n200 (h2.go f1) (k.go f1)
        | inr l2 =>
          have ok2 : PlsOk bs.length l2 := by
            obtain ⟨_, _, _, h⟩ := h2
            exact h
          refine cp_of (hB.go f1) n200 (h2.go f1) fun q2 H2 f2 hq2 => ⟨q2, _, rfl, .inl hq2, pc2 l2, ?_⟩
          rw [msk_pcs (msk_lt ok2.2)]
          have f12 := f1.trans f2
          refine ⟨x, bs, e, rfl, hB.go f12, n200, fun hn => ?_, fun hn d H' f hd => ?_⟩
          · have k : LwQ a H Q E (if 8 < bs.length then .many else lwO (lwy bs (ivN rv) (msk l1) (msk l2))) := k
            rw [if_neg (by omega)] at k
            obtain ⟨r, rfl, r1, r2⟩ := wiB_nat (lo := 1) hwi
            refine ⟨x, bs, e, r, msk l1, msk l2, rfl, hB.go f12, hn, nself, msk_lt ok1.2, msk_lt ok2.2, fun v H3 f3 hv => ?_⟩
            have k : LwQ a H Q E (lwO (lwy bs r (msk l1) (msk l2))) := k
            cases c : lwy bs r (msk l1) (msk l2) with
            | none =>
              rw [c] at k hv
              have hv : v = .non := hv
              show if v = V.non then E (.ref a.c_NoWay) none H3 else Q v H3
              rw [if_pos hv]
              exact k H3 (f12.trans f3)
            | some l =>
              rw [c] at k hv
              obtain ⟨q, rfl, hq⟩ := hv
              show if V.ref q = V.non then E (.ref a.c_NoWay) none H3 else Q (V.ref q) H3
              rw [if_neg (fun z => by cases z)]
              exact k q H3 (f12.trans f3) hq
          · have k : LwQ a H Q E (if 8 < bs.length then .many else lwO (lwy bs (ivN rv) (msk l1) (msk l2))) := k
            rw [if_pos hn] at k
            exact k d H' (f12.trans f) hd
    · rw [if_neg (by rw [hwi]; exact Bool.false_ne_true)] at k
      exact k H (Evl.Ex.refl _)
end


/-! ### the law's prices -/
section
variable {P : Program} {w : World} {K : PySem.W.Frag} {mg : Str → Option Value} {base : Heap} {a : Ad}
def spPL : Sp := fun vs H Q _ => ∃ (p : Addr) (ls : List Addr) (f : Nat → List Nat) (n e pr : Nat), vs = [.ref p, .int (e : Nat)] ∧ AfAt H p ls f ∧ ls.length = n ∧ n ≤ 8 ∧ e < n ∧ (∀ i, i < n → (f i).Pairwise (· < ·) ∧ ∀ x ∈ f i, x < n) ∧ LsOk ((List.range n).map f) (fun y => decide (y = 2 ^ e)) pr ∧ ∀ H', Evl.Ex H H' → Q (.int (pr : Nat)) H'
def ivPL (H : Hp) (p : Addr) (e pr : Nat) : Nat → L2.St → Hp → Prop := fun k σ H' => ∃ v, σ = [some (.ref p), some (.int (e : Nat)), v] ∧ k < pr ∧ Evl.Ex H H'
theorem ok_law_price (T : Txt K mg a) : FnOk P w K mg base CX0 5 a.f_law_price a.d_law_price ["_law_befores", "_law_end"] spPL := by
  refine T.F_law_price.ok sc_law_price (fun vs H Q E h => ?_) (fun cdv A outer s H vs Q E hr h => ?_)
  · obtain ⟨_, _, _, _, _, _, rfl, _⟩ := h
    rfl
  · obtain ⟨p, ls, f, n, e, pr, rfl, ha, hl, hn, he, hf, hpr, k⟩ := h
    refine ⟨_, (pss_cons (ps_for PassesOwn.never rfl (pi_range2 (by rfl) T.z_range (pa_cons pe_int (pa_cons (pe_op op_add (pe_callB call_len_seq (by rfl) T.z_len (by decide +kernel) (pa_cons (pv 0) pa_nil)) pe_int) pa_nil))) (pg_name (i := 2) sc_law_price.nd rfl (by first | exact Or.inl rfl | exact Or.inr rfl)) (pss_one (ps_if (pt_cmp (pc_din (hu1 hr.units) (pe_call (ok_law_two T) (hr.mono (by decide)) rfl T.m_law_two T.F_law_two.kp T.b_law_two .nil pass0 (pa_cons (pv 1) pa_nil)) (pe_call (ok_law_reach T) (hr.mono (by decide)) rfl T.m_law_reach T.F_law_reach.kp T.b_law_reach .nil pass0 (pa_cons (pv 0) (pa_cons (pv 2) (pa_cons pe_int pa_nil)))))) (pss_one (ps_ret (pv 2)))
    pss_nil)))
  (pss_one (ps_ret pe_int))), ?_⟩
    have bl : ((List.range n).map f).length = n := by rw [List.length_map, List.length_range]
    walk_at "sm"
    refine ⟨_, rfl, p, rfl, _, .inl (SqL.of ha.1), ?_⟩
    rw [List.length_map, hl]
    have hp1 := hpr.one
    have hp2 := hpr.le
    rw [bl] at hp2
    refine ⟨_, _, rfl, rfl, _, _, rfl, ⟨by omega, by omega, by omega, by omega⟩, ?_⟩
    refine for_range (lo := 1) (n := ((n : Int) + 1 - 1).toNat) (fun k => ivPL H p e pr k) ⟨none, rfl, by omega, Evl.Ex.refl _⟩ ?_ ?_
    · rintro i σ HX hi ⟨v, rfl, hk, f1⟩
      rw [show (1 : Int) + (i : Int) = ((i + 1 : Nat) : Int) by omega]
      walk_at "sm"
      have p2 : (2 : Int) ^ e = ((2 ^ e : Nat) : Int) := by rw [Int.natCast_pow]; rfl
      refine ⟨e, rfl, by omega, ?_⟩
      rw [p2]
      refine ⟨p, ls, f, n, i + 1, 0, rfl, ha.go f1, hl, by omega, hf, Nat.two_pow_pos _, hn, fun d H2 f2 hd0 hd => ⟨d, rfl, _, DGet.k (k := .inl ((2 ^ e : Nat) : Int)) hd, ?_⟩⟩
      rw [kvQ_in]
      by_cases c : i + 1 = pr
      · have : decide (2 ^ e ∈ (fin ((List.range n).map f) (i + 1) 0).map Prod.fst) = true := decide_eq_true (by
          obtain ⟨y, h1, h2⟩ := hpr.yes
          rw [of_decide_eq_true h2] at h1
          rw [c]
          exact h1)
        rw [this]
        refine iteT ?_
        rw [c]
        exact k H2 (f1.trans f2)
      · have : decide (2 ^ e ∈ (fin ((List.range n).map f) (i + 1) 0).map Prod.fst) = false := decide_eq_false fun z => by
          have := hpr.no (i + 1) (by omega) (by omega) _ z
          rw [decide_eq_true rfl] at this
          cases this
        rw [this]
        exact iteF ⟨_, rfl, by omega, f1.trans f2⟩
    · rintro σ HX ⟨v, rfl, hk, f1⟩
      exact absurd hk (by omega)
def spRF : Sp := fun vs H Q _ => ∃ (p : Addr) (ls : List Addr) (f : Nat → List Nat) (n wm r : Nat), vs = [.ref p, .int (wm : Nat)] ∧ AfAt H p ls f ∧ ls.length = n ∧ n ≤ 8 ∧ (∀ i, i < n → (f i).Pairwise (· < ·) ∧ ∀ x ∈ f i, x < n) ∧ r ≤ n ∧
  (∃ y, y ∈ (fin ((List.range n).map f) r 0).map Prod.fst ∧ (y &&& wm) = wm) ∧ (∀ r', r' < r → ∀ y ∈ (fin ((List.range n).map f) r' 0).map Prod.fst, (y &&& wm) ≠ wm) ∧ ∀ H', Evl.Ex H H' → Q (.int (r : Nat)) H'
theorem ok_law_room_for (T : Txt K mg a) : FnOk P w K mg base CX0 5 a.f_law_room_for a.d_law_room_for ["_law_befores", "_law_wanted"] spRF := by
  refine T.F_law_room_for.ok sc_law_room_for (fun vs H Q E h => ?_) (fun cdv A outer s H vs Q E hr h => ?_)
  · obtain ⟨_, _, _, _, _, _, rfl, _⟩ := h
    rfl
  · obtain ⟨p, ls, f, n, wm, r, rfl, ha, hl, hn, hf, hrn, hyes, hno, k⟩ := h
    refine ⟨_, (pss_cons (ps_for PassesOwn.never rfl (pi_range1 (by rfl) T.z_range (pa_cons (pe_op op_add (pe_callB call_len_seq (by rfl) T.z_len (by decide +kernel) (pa_cons (pv 0) pa_nil)) pe_int) pa_nil)) (pg_name (i := 2) sc_law_room_for.nd rfl (by first | exact Or.inl rfl | exact Or.inr rfl)) (pss_one (ps_if (pt_val (pe_callB (cr_any rfl) (by rfl) T.z_any (by decide +kernel) (pa_cons (pe_lc (own := [("_law_mask", 3)]) (g := gName 3) (tt := tYes) rfl sc_law_room_for.nd (pi_list (pe_callTy (call_listD rfl) (by rfl) T.z_list (by decide +kernel) (pa_cons (pe_call (ok_law_reach T) (hr.mono (by decide)) rfl T.m_law_reach T.F_law_reach.kp T.b_law_reach .nil pass0 (pa_cons (pv 0) (pa_cons (pv 2) (pa_cons pe_int pa_nil)))) pa_nil))) (blkOk_by (own := [("_law_mask", 3)]) (N := ["_law_befores", "_law_wanted", "_law_room", "_law_mask"]) (sc := defScope s_law_room_for) (by decide +kernel)) (fun _ _ _ _ _ => pg_name (i := 3) sc_law_room_for.nd rfl (Or.inl rfl)) (fun _ _ _ _ _ => pts_nil) (fun _ _ _ _ _ => (pe_call (ok_law_held T) (hr.mono (by decide)) rfl T.m_law_held T.F_law_held.kp T.b_law_held .nil pass0 (pa_cons (pv 3) (pa_cons (pv 1) pa_nil))))) pa_nil))) (pss_one (ps_ret (pv 2)))
    pss_nil)))
  (pss_one (ps_ret (pe_un un_neg pe_int)))), ?_⟩
    walk_at "sm"
    refine ⟨_, rfl, p, rfl, _, .inl (SqL.of ha.1), ?_⟩
    rw [List.length_map, hl]
    refine ⟨_, _, rfl, rfl, _, rfl, by omega, by omega, ?_⟩
    refine for_range (lo := 0) (n := ((n : Int) + 1).toNat) (fun k σ H' => ∃ v2 v3, σ = [some (.ref p), some (.int (wm : Nat)), v2, v3] ∧ k ≤ r ∧ Evl.Ex H H') ⟨none, none, rfl, by omega, Evl.Ex.refl _⟩ ?_ ?_
    · rintro i σ HX hi ⟨v2, v3, rfl, hk, f1⟩
      rw [show (0 : Int) + (i : Int) = ((i : Nat) : Int) by omega]
      walk_at "sm"
      refine ⟨p, ls, f, n, i, 0, rfl, ha.go f1, hl, by omega, hf, Nat.two_pow_pos _, hn, fun d H2 f2 hd0 hd => ⟨d, rfl, _, Rd.of hd, fun l hl0 => ?_⟩⟩
      have bg : (fin ((List.range n).map f) i 0).length ≤ 256 := Nat.le_trans (rn_len (Nat.two_pow_pos _) _) (show 2 ^ ((List.range n).map f).length ≤ 2 ^ 8 from Nat.pow_le_pow_right (by decide) (by rw [List.length_map, List.length_range]; exact hn))
      have ek : (kvQ Prod.snd (fin ((List.range n).map f) i 0)).map (fun kv => kV kv.1) = (nI ((fin ((List.range n).map f) i 0).map Prod.fst)).map V.int := by
        unfold kvQ
        rw [List.map_map, List.map_map, List.map_map]
        rfl
      rw [ek]
      have fl := Evl.Ex.new (o := .lst ((nI ((fin ((List.range n).map f) i 0).map Prod.fst)).map V.int)) hl0
      have hL : upd H2 l (.lst ((nI ((fin ((List.range n).map f) i 0).map Prod.fst)).map V.int)) l = some (.lst ((nI ((fin ((List.range n).map f) i 0).map Prod.fst)).map V.int)) := upd_same
      have f12 := (f1.trans f2).trans fl
      generalize upd H2 l (.lst ((nI ((fin ((List.range n).map f) i 0).map Prod.fst)).map V.int)) = H3 at fl hL f12 ⊢
      have lk : ((fin ((List.range n).map f) i 0).map Prod.fst).length ≤ 256 := by rw [List.length_map]; exact bg
      have ky : ∀ y ∈ (fin ((List.range n).map f) i 0).map Prod.fst, ((y &&& wm) = wm ↔ i = r) ∨ i = r := fun y hy => by
        by_cases c : i = r
        · exact .inr c
        · exact .inl ⟨fun z => absurd z (hno i (by omega) y hy), fun z => absurd z c⟩
      generalize hks : (fin ((List.range n).map f) i 0).map Prod.fst = ks at hL lk ky ⊢
      refine ⟨⟨_, SqL.of hL⟩, lcg_list (K := K) (a := l) (xs := (nI ks).map V.int) (fun D j H' => Evl.Ex H3 H' ∧ H' D = some (.lst (((ks.take j).map fun y => decide ((y &&& wm) = wm)).map V.bl))) (fun D hD => ⟨Evl.Ex.new hD, upd_same⟩) (fun D j HY hD hj h => SqL.of (h.1 _ _ hL)) ?_ ?_⟩
      · rintro D j y HY hD hj ⟨h1, h2⟩
        obtain ⟨m, hm, rfl⟩ := nat_at hj
        have jl := (List.getElem?_eq_some_iff.mp hm).1
        walk_at "sm"
        refine ⟨m, wm, rfl, fun kb hkb => ⟨_, h2, by rw [List.length_map, List.length_map, List.length_take, sizeLine_eq]; omega, h1.mut hD, ?_⟩⟩
        rw [upd_same, List.take_succ, hm, Option.toList_some, List.map_append, List.map_append]
        have : kb = decide ((m &&& wm) = wm) := by
          rw [Bool.eq_iff_iff, decide_eq_true_eq, hkb]
          constructor
          · intro h
            refine Nat.eq_of_testBit_eq fun i => ?_
            rw [Nat.testBit_and]
            cases c : wm.testBit i with
            | false => rw [Bool.and_false]
            | true => rw [h i c]; rfl
          · intro h i hi
            rw [← h, Nat.testBit_and] at hi
            exact (Bool.and_eq_true _ _ ▸ hi : _ ∧ _).1
        rw [this]
        rfl
      · rintro D HY hD ⟨h1, h2⟩
        rw [nI_len, List.take_of_length_le (Nat.le_refl _)] at h2
        have f13 := f12.trans h1
        refine ⟨D, _, rfl, SqL.of h2, ?_⟩
        by_cases c : i = r
        · subst c
          have : (ks.map fun y => decide ((y &&& wm) = wm)).any id = true := by
            obtain ⟨y, y1, y2⟩ := hyes
            rw [hks] at y1
            exact List.any_eq_true.mpr ⟨true, List.mem_map.mpr ⟨y, y1, decide_eq_true y2⟩, rfl⟩
          rw [this]
          refine ⟨true, rfl, iteT ?_⟩
          walk_at "sm"
          exact k HY f13
        · have : (ks.map fun y => decide ((y &&& wm) = wm)).any id = false := by
            rw [List.any_eq_false]
            intro b hb
            obtain ⟨y, y1, rfl⟩ := List.mem_map.mp hb
            rw [← hks] at y1
            rw [decide_eq_false (hno i (by omega) y y1)]
            exact Bool.false_ne_true
          rw [this]
          refine ⟨false, rfl, iteF ?_⟩
          walk_at "sm"
          exact ⟨by omega, f13⟩
    · rintro σ HX ⟨v2, v3, rfl, hk, f1⟩
      exact absurd hk (by omega)
def spSh : Sp := fun vs H Q _ => ∃ (p c q : Addr) (l : List Nat), vs = [.ref p, .ref q] ∧ HandAt H p c ∧ H q = some (.lst ((nI l).map V.int)) ∧ l.length ≤ 10 ∧ q ≠ p ∧ ∀ D l' H', Fr p H H' → HandAt H' p c → H D = none → H' D = some (.lst ((nI l').map V.int)) → l'.Perm l → Q (.ref D) H'
theorem ok_law_shuffled (T : Txt K mg a) : FnOk P w K mg base CX0 5 a.f_law_shuffled a.d_law_shuffled ["_law_hand_here", "_law_things"] spSh := by
  refine T.F_law_shuffled.ok sc_law_shuffled (fun vs H Q E h => ?_) (fun cdv A outer s H vs Q E hr h => ?_)
  · obtain ⟨_, _, _, _, rfl, _⟩ := h
    rfl
  · obtain ⟨p, c, q, l, rfl, hh, hq, hl, hqp, k⟩ := h
    refine ⟨_, (pss_one (ps_ret (pe_lc (own := [("_law_at", 2)]) (g := gName 2) (tt := tYes) rfl sc_law_shuffled.nd (pi_list (pe_call (ok_law_order T) (hr.mono (by decide)) rfl T.m_law_order T.F_law_order.kp T.b_law_order .nil pass0 (pa_cons (pv 0) (pa_cons (pe_callB call_len_seq (by rfl) T.z_len (by decide +kernel) (pa_cons (pv 1) pa_nil)) pa_nil)))) (blkOk_by (own := [("_law_at", 2)]) (N := ["_law_hand_here", "_law_things", "_law_at"]) (sc := defScope s_law_shuffled) (by decide +kernel)) (fun _ _ _ _ _ => pg_name (i := 2) sc_law_shuffled.nd rfl (Or.inl rfl)) (fun _ _ _ _ _ => pts_nil) (fun _ _ _ _ _ => (pe_ix ix_list_b (pv 1) (pv 2) (fun _ _ => rfl)))))), ?_⟩
    walk_at "sm"
    refine ⟨_, .inl (SqL.of hq), p, c, _, rfl, hh, by rw [nI_len]; exact hl, fun o ol H1 f1 g1 ho hop ho0 pm => ?_⟩
    rw [nI_len] at pm
    have hq1 := f1 _ _ hqp hq
    refine ⟨o, rfl, ⟨_, SqL.of ho⟩, lcg_list (K := K) (a := o) (xs := (nI ol).map V.int) (fun D j H' => Fr p H1 H' ∧ HandAt H' p c ∧ H' D = some (.lst ((nI ((ol.take j).map fun i => l.getD i 0)).map V.int))) (fun D hD => ?_) (fun D j HY hD hj h => SqL.of (h.1 _ _ hop ho)) ?_ ?_⟩
    · obtain ⟨z1, z2, z3⟩ := hand_new (o := .lst []) (Fr.refl H1) g1 hD
      exact ⟨z1, z2, upd_same⟩
    · rintro D j y HY hD hj ⟨h1, h2, h3⟩
      obtain ⟨i, hi, rfl⟩ := nat_at hj
      have il : i < l.length := List.mem_range.mp (pm.mem_iff.mp (List.mem_of_getElem? hi))
      walk_at "sm"
      have jl := (List.getElem?_eq_some_iff.mp hi).1
      have ol10 := pm.length_eq
      rw [List.length_range] at ol10
      refine ⟨q, _, _, _, rfl, rfl, SqL.of (h1 _ _ hqp hq1), atI_nat (at_nat (List.getElem?_eq_getElem il)), _, h3, by rw [nI_len, List.length_map, List.length_take, sizeLine_eq]; omega, h1.mut hD, h2.upd (g1.lt hD) (g1.lc hD), ?_⟩
      rw [upd_same, List.take_succ, hi, Option.toList_some, List.map_append, List.map_singleton, nI_snoc, List.getD_eq_getElem?_getD, List.getElem?_eq_getElem il]
      rfl
    · rintro D HY hD ⟨h1, h2, h3⟩
      rw [nI_len, List.take_of_length_le (Nat.le_refl _)] at h3
      have hD0 : H D = none := by
        cases z : H D with
        | none => rfl
        | some o =>
          have := f1 _ _ (g1.lt hD) z
          rw [hD] at this
          cases this
      refine k D _ HY (f1.trans h1) h2 hD0 h3 ?_
      refine (pm.map _).trans ?_
      have : (List.range l.length).map (fun i => l.getD i 0) = l := List.ext_getElem (by rw [List.length_map, List.length_range]) fun i h1 h2 => by
        rw [List.getElem_map, List.getElem_range, List.getD_eq_getElem?_getD, List.getElem?_eq_getElem h2]
        rfl
      rw [this]
end


/-! ### try with several clauses, each with a name or without -/
/-- the ends of a suite whose name goes behind it -/
def enM (o : Option Nat) (D : Ends) : Ends := match o with
  | none => D
  | some i => { nx := fun σ H => D.nx (σ.set i none) H, rt := D.rt, bk := fun σ H => D.bk (σ.set i none) H, ct := fun σ H => D.ct (σ.set i none) H }
def stM (o : Option Nat) (σ : L2.St) (e : Addr) : L2.St := match o with
  | none => σ
  | some i => σ.set i (some (.ref e))
abbrev Cla := Value × Option Nat × (Addr → Value → Option Addr → TS)
/-- what such clauses wish of an exception of the body -/
def wM (K : PySem.W.Frag) (W : L2.WX) (D : Ends) : List Cla → L2.WX
  | [] => W
  | p :: l => fun cls d σ H => ∃ b, PySem.W.exmOne K cls p.1 = some b ∧ (b = true → ∀ e, H e = none → p.2.2 e cls d (enM p.2.1 D) (stM p.2.1 σ e) H) ∧ (b = false → wM K W D l cls d σ H)
inductive ClaOk (X : Cx) : List ExceptHandler → List Cla → Prop
  | nil : ClaOk X [] []
  | bare {x : Str} {c : Value} {ts : Addr → Value → Option Addr → TS} {f : Stmt} {fs : List Stmt} {p1 p2 : Pos} {hs : List ExceptHandler} {l : List Cla} (n : Names X x c)
      (su : ∀ (e : Addr) (o : Obj) (cls : Value) (d : Option Addr) (pn : List (Addr × Obj)), Zc cls d o → (∃ vs, o.data = .fields vs) → PSs (X.suite e ((e, o) :: pn)) (f :: fs) (ts e cls d)) (r : ClaOk X hs l) : ClaOk X (.ExceptHandler (some (.Name x p1)) none (f :: fs) p2 :: hs) ((c, none, ts) :: l)
  | named {x n : Str} {c : Value} {i : Nat} {ts : Addr → Value → Option Addr → TS} {f : Stmt} {fs : List Stmt} {p1 p2 : Pos} {hs : List ExceptHandler} {l : List Cla} (nd : X.N.Nodup) (hi : X.N[i]? = some n) (hl : X.env.kindOf n = some .local) (nm : Names X x c)
      (su : ∀ (e : Addr) (o : Obj) (cls : Value) (d : Option Addr) (pn : List (Addr × Obj)), Zc cls d o → (∃ vs, o.data = .fields vs) → PSs (X.suite e ((e, o) :: pn)) (f :: fs) (ts e cls d)) (r : ClaOk X hs l) : ClaOk X (.ExceptHandler (some (.Name x p1)) (some n) (f :: fs) p2 :: hs) ((c, some i, ts) :: l)
theorem ps_try_m {X : Cx} {body : List Stmt} {h1 : ExceptHandler} {hs : List ExceptHandler} {l : List Cla} {pos : Pos} {tb : L2.WX → TS} {W : L2.WX} (es : X.stack = X.env :: X.outer) (ef : X.env.frame = some X.env.locals) (tk : Takes X W)
    (hb : ∀ (V : L2.WX) (pn : List (Addr × Obj)) (xe : Value → Shared → Prop), Takes (X.tr pn xe) V → PassesOwn (model X.prog X.w) X.A X.env xe → PSs (X.tr pn xe) body (tb V)) (hh : ClaOk X (h1 :: hs) l) : PS X (.Try body (h1 :: hs) [] [] pos) (fun D σ H => tb (wM X.K W D l) D σ H) := by
  refine ⟨fun pins s σ H D I h => wpAny_Try_except ?_⟩
  have ok := I.ok
  have fr : X.A.frames = some (X.env :: X.outer) := ok.frames.trans (by rw [es])
  refine wpAny_mono ((hb (wM X.K W D l) (X.pn ++ pins) (fun e t1 => wpAny (model X.prog X.w) X.A (noteFrame e X.env) (fun _ t2 => wpAny (model X.prog X.w) X.A (setFlight e none) (fun _ t3 => wpAny (model X.prog X.w) X.A (handleBy e X.env (h1 :: hs)) (SP X pins D) X.xe t3) X.xe t2) X.xe t1) (fun u t xx => ?_) PassesOwn.looking).run [] s σ H D (I.toTry _) h) (fun f t hsp => ?_) fun _ _ z => z
  · obtain ⟨e, B, sI, pz, σ1, H1, cls, d, rfl, Jt, nb, up, sky, na, os, ag, w⟩ := xx
    have J : Inv X pins σ1 H1 sI := Jt.ofTry ok
    have sky2 : Sky B (X.env :: X.outer) e (Zc cls d) X.env.locals t.heap := by rw [← es]; exact sky
    show wpAny (model X.prog X.w) X.A (noteFrame (.ref e) X.env) _ _ _
    refine Sky.land Zc.steady fr ef sky2 fun hp fl u3 => ?_
    have J3 : Inv X pins σ1 H1 { t with heap := hp } := J.landed nb fl.1 (up.trans u3) os ag
    obtain ⟨o3, v3, g3, z3, d3⟩ := fl.there
    have far : e ∉ frs (X.env :: X.outer) := fun hm => by
      obtain ⟨_, o, q, hn⟩ := fl.2.2.1.mem hm
      rw [g3] at q; injection q with q; subst q
      exact hn _ d3
    have nL : e ≠ X.env.locals := fun z => far (List.mem_filterMap.mpr ⟨_, List.mem_cons_self, by rw [ef, z]⟩)
    have nF : e ∉ X.fs := fun hm => by
      obtain ⟨v, hv, q⟩ := List.mem_filterMap.mp hm
      exact far (List.mem_filterMap.mpr ⟨v, List.mem_cons_of_mem _ hv, q⟩)
    have S3 := J3.suite g3 d3 na nL nF
    have LT : PySem.W.Looks (model X.prog X.w) hp (typeOf (.ref e)) cls := fun A Q E s k q => wpAny_typeOf_ref (k _ _ g3) (by rw [z3.1]; exact q)
    have test : ∀ {x : Str} {c : Value} {np : Pos} {Q E : Value → Shared → Prop}, Names X x c → Q c { t with heap := hp } → wpAny (model X.prog X.w) (X.A.mark (some (.ref e))) (eval (.Name x np) X.env) Q E { t with heap := hp } := fun {x c np Q E} hc q => by
      obtain ⟨g, db, m | ⟨m, bt, nn⟩⟩ := hc
      · exact ld_glob (X := X.suite e ((e, o3) :: (X.pn ++ pins))) S3 g m q db
      · exact ld_blt (X := X.suite e ((e, o3) :: (X.pn ++ pins))) S3 g m bt q nn db
    have go : ∀ {hs2 : List ExceptHandler} {l2 : List Cla}, ClaOk X hs2 l2 → wM X.K W D l2 cls d σ1 H1 → wpAny (model X.prog X.w) X.A (handleBy (.ref e) X.env hs2) (SP X pins D) X.xe { t with heap := hp } := by
      intro hs2 l2 hk
      induction hk with
      | nil =>
        intro w
        refine wpAny_handleBy_nil ?_
        obtain ⟨_, _, _, oe, vs, T, oT, ts2, he, hz, hd, hh1, hr⟩ := id fl
        unfold PySem.passOn
        refine wpAny_bind (wpAny_field he hd hh1 ?_)
        have nn : ¬ ((Value.ref T == Value.none) = true) := by simp
        rw [if_neg nn]
        have fin : wpAny (model X.prog X.w) X.A (setFlight (.ref e) X.env.frame) (fun _ s4 => wpAny (model X.prog X.w) X.A (throw (.ref e) : Sem Flow) (SP X pins D) X.xe s4) X.xe { t with heap := hp } := by
          rw [ef]
          exact HandSPX.setFlight_upZ fl fun h4 hh4 u4 => wpAny_throw (tk _ _ ⟨e, B, sI, pins, σ1, H1, cls, d, rfl, J, nb, (up.trans u3).trans u4, .inr (.inr (by rw [es]; exact hh4)), na, os, ag, w⟩)
        first
          | exact wpAny_bind (wpAny_pure (wpAny_bind fin))
          | exact wpAny_bind fin
      | @bare x c ts f fs p1 p2 hs3 l3 hc su r ih =>
        rintro ⟨b, hb1, yes, no⟩
        refine wpAny_handleBy_cons (codeAny_handlers_test (test hc ((PySem.W.exm_one (M := model X.prog X.w) J3.kIn LT hb1).here ?_))) (by intro q; cases q)
        cases b with
        | false => exact ih (no rfl)
        | true =>
          refine codeAny_handlers_suite (HandSPX.lands_againZ fl fun h4 fl4 u4 => ?_)
          have J4 : Inv X pins σ1 H1 { t with heap := h4 } := J.landed nb fl4.1 ((up.trans u3).trans u4) os ag
          obtain ⟨o4, v4, g4, z4, d4⟩ := fl4.there
          refine wpAny_mono ((su e o4 cls d (X.pn ++ pins) z4 ⟨_, d4⟩).run [] _ _ H1 _ (J4.suite g4 d4 na nL nF) (yes rfl e na)) (fun f s6 q => ?_) fun _ _ z => z.elim
          cases f with
          | ret u => obtain ⟨v6, σ6, H6, S6, r6, q6⟩ := q; exact ⟨_, _, _, S6.unsuite ok, r6, q6⟩
          | next => obtain ⟨σ6, H6, S6, q6⟩ := q; exact ⟨_, _, S6.unsuite ok, q6⟩
          | brk => obtain ⟨σ6, H6, S6, q6⟩ := q; exact ⟨_, _, S6.unsuite ok, q6⟩
          | cont => obtain ⟨σ6, H6, S6, q6⟩ := q; exact ⟨_, _, S6.unsuite ok, q6⟩
      | @named x n c i ts f fs p1 p2 hs3 l3 nd hi hl hc su r ih =>
        rintro ⟨b, hb1, yes, no⟩
        refine wpAny_handleBy_cons (codeAny_handlers_test (test hc ((PySem.W.exm_one (M := model X.prog X.w) J3.kIn LT hb1).here ?_))) (by intro q; cases q)
        cases b with
        | false => exact ih (no rfl)
        | true =>
          refine codeAny_handlers_suite_as (HandSPX.lands_againZ fl fun h4 fl4 u4 => ?_)
          have J4 : Inv X pins σ1 H1 { t with heap := h4 } := J.landed nb fl4.1 ((up.trans u3).trans u4) os ag
          obtain ⟨o4, v4, g4, z4, d4⟩ := fl4.there
          refine store_ok (X := X.suite e ((e, o4) :: (X.pn ++ pins))) (v := .ref e) (J4.suite g4 d4 na nL nF) nd hi (.inl hl) rfl (fun s5 S5 => ?_) (.inr hl)
          refine wpAny_mono ((su e o4 cls d (X.pn ++ pins) z4 ⟨_, d4⟩).run [] s5 _ H1 _ S5 (yes rfl e na)) (fun f s6 q => ?_) fun _ _ z => z.elim
          have fin : ∀ {σ6 : L2.St} {H6 : Hp} {Q : Shared → Prop}, Inv (X.suite e ((e, o4) :: (X.pn ++ pins))) [] σ6 H6 s6 → (∀ s7, Inv X pins (σ6.set i none) H6 s7 → Q s7) → wpAny (model X.prog X.w) X.A (do bindName X.env n .none; unbindBehindTheSuite X.env n p2) (fun _ s7 => Q s7) X.xe s6 := fun S6 k => gone_ok (S6.unsuite ok) nd hi hl k
          cases f with
          | ret u => obtain ⟨v6, σ6, H6, S6, r6, q6⟩ := q; exact fin S6 fun s7 J7 => ⟨_, _, _, J7, r6, q6⟩
          | next => obtain ⟨σ6, H6, S6, q6⟩ := q; exact fin S6 fun s7 J7 => ⟨_, _, J7, q6⟩
          | brk => obtain ⟨σ6, H6, S6, q6⟩ := q; exact fin S6 fun s7 J7 => ⟨_, _, J7, q6⟩
          | cont => obtain ⟨σ6, H6, S6, q6⟩ := q; exact fin S6 fun s7 J7 => ⟨_, _, J7, q6⟩
    exact go hh w
  · cases f with
    | ret u => obtain ⟨v, σ1, H1, J, r, q⟩ := hsp; exact ⟨v, σ1, H1, J.ofTry ok, r, q⟩
    | next => obtain ⟨σ1, H1, J, q⟩ := hsp; exact wpAny_execs_nil ⟨σ1, H1, J.ofTry ok, q⟩
    | brk => obtain ⟨σ1, H1, J, q⟩ := hsp; exact ⟨σ1, H1, J.ofTry ok, q⟩
    | cont => obtain ⟨σ1, H1, J, q⟩ := hsp; exact ⟨σ1, H1, J.ofTry ok, q⟩


/-! ### what is told of a way -/
/-- isinstance of the exception that the suite holds, made without arguments -/
def rIsR (K : PySem.W.Frag) (e : Addr) (cls : Value) (d : Option Addr) : List V → Hp → VK → Prop := fun xs H Q => ∃ (C : Addr) (c : V) (cv : Value) (b : Bool), xs = [.ref e, c] ∧ cls = .ref C ∧ ClsV c cv ∧ ExcC K C ∧ PySem.W.kitOne K (.ref C) cv = some b ∧ d = none ∧ Q (.bl b) H
theorem call_isR {X : Cx} {e : Addr} {o : Obj} {cls : Value} {d : Option Addr} {pn : List (Addr × Obj)} (hz : Zc cls d o) (hf : ∃ vs, o.data = .fields vs) : CallR (X.suite e ((e, o) :: pn)) (.builtin "isinstance") (rIsR X.K e cls d) := by
  intro pins s σ H xs us Q I r h
  obtain ⟨C, c, cv, b, rfl, rfl, hc, T, k, rfl, q⟩ := h
  obtain ⟨u1, u2, rfl, r1, r2⟩ := vals2 r
  obtain rfl : u1 = Value.ref e := r1
  obtain rfl := hc.eq r2
  obtain ⟨here, _⟩ := I.pin (e, o) (List.mem_append.mpr (.inl List.mem_cons_self))
  obtain ⟨vs, hv⟩ := hf
  have J : PySem.W.InstAt s.heap e o C none := ⟨here, hz.1, by unfold PySem.W.notCls; rw [hv] <;> rfl, by rw [hz.2] <;> trivial⟩
  exact PySem.W.kia_one (PySem.W.handS_kitx_exc T.hg T.hk T.hs T.hd T.ha T.hn T.ht T.hm) I.kIn J k (fun z => nomatch z) fun tk => ⟨.bl b, H, I.kept (t' := tk) fun _ _ z => z, rfl, q⟩
section
variable {P : Program} {w : World} {K : PySem.W.Frag} {mg : Str → Option Value} {base : Heap} {a : Ad}
def Lw.D : Lw → PyData
  | .room => .tuple [.str "BadRoom"]
  | .pls j => .tuple [.str "BadPlaces", .int j]
  | .many => .tuple [.str "TooMany", .int 8]
  | .noway => .tuple [.str "NoWay"]
  | .way l => .tuple [.str "way", .tuple (iD l)]
def LwTo (H : Hp) (v : V) : Lw → Prop
  | .room => ∃ t, v = .ref t ∧ H t = some (.tup [.str "BadRoom"])
  | .pls j => ∃ t, v = .ref t ∧ H t = some (.tup [.str "BadPlaces", .int j])
  | .many => ∃ t, v = .ref t ∧ H t = some (.tup [.str "TooMany", .int 8])
  | .noway => ∃ t, v = .ref t ∧ H t = some (.tup [.str "NoWay"])
  | .way l => ∃ t q, v = .ref t ∧ H t = some (.tup [.str "way", .ref q]) ∧ H q = some (.tup ((nI l).map V.int))
structure Txw (K : PySem.W.Frag) (mg : Str → Option Value) (a : Ad) : Prop where
  mU : mg "UndoError" = some (.ref a.c_UndoError)
  ex : ExcC K a.c_NoWay
  u : PySem.W.kitOne K (.ref a.c_NoWay) (.ref a.c_UndoError) = some true
  pb : PySem.W.exmOne K (.ref a.c_BadPlaces) (.ref a.c_BadRoom) = some false
  tb : PySem.W.exmOne K (.ref a.c_TooMany) (.ref a.c_BadRoom) = some false
  tp : PySem.W.exmOne K (.ref a.c_TooMany) (.ref a.c_BadPlaces) = some false
  nb : PySem.W.exmOne K (.ref a.c_NoWay) (.ref a.c_BadRoom) = some false
  np : PySem.W.exmOne K (.ref a.c_NoWay) (.ref a.c_BadPlaces) = some false
  nt : PySem.W.exmOne K (.ref a.c_NoWay) (.ref a.c_TooMany) = some false
def spWT (a : Ad) : Sp := fun vs H Q _ => ∃ (x : Addr) (rv v1 v2 : V) (bs : List (List Nat)) (e : Nat) (r1 r2 : Int ⊕ List Nat), vs = [.ref x, rv, v1, v2] ∧ BareAt a.c_Bare H x bs e ∧ WebOk bs e ∧ PlainV H rv ∧ PlAt H v1 bs.length r1 ∧ PlAt H v2 bs.length r2 ∧ ∀ v H', Evl.Ex H H' → LwTo H' v (lwR bs rv r1 r2) → Q v H'
theorem ok_law_way_told (T : Txt K mg a) (Y : Txw K mg a) : FnOk P w K mg base CX0 6 a.f_law_way_told a.d_law_way_told ["_law_bare_here", "_law_room", "_law_first", "_law_last"] (spWT a) := by
  refine T.F_law_way_told.ok sc_law_way_told (fun vs H Q E h => ?_) (fun cdv A outer s H vs Q E hr h => ?_)
  · obtain ⟨_, _, _, _, _, _, _, _, rfl, _⟩ := h
    rfl
  · obtain ⟨x, rv, v1, v2, bs, e, r1, r2, rfl, hB, hw, hp, h1, h2, k⟩ := h
    refine ⟨_, (pss_cons (ps_try_m (W := fun _ _ _ _ => False) rfl rfl takes0 (fun V pn xe tk _ => (pss_one (ps_set (i := 4) sc_law_way_told.nd rfl (by first | exact Or.inl rfl | exact Or.inr rfl) (pe_callS (ok_least_way T) (hr.mono (by decide)) rfl T.m_least_way T.F_least_way.kp T.b_least_way (fun σ => passAt tk σ) (pa_cons (pv 0) (pa_cons (pv 1) (pa_cons (pv 2) (pa_cons (pv 3) pa_nil)))))))) (ClaOk.bare ⟨rfl, by decide, Or.inl T.m_BadRoom⟩ (fun e o cls d pn hz hf => (pss_one (ps_ret (pe_tup (pa_cons pe_str pa_nil))))) (ClaOk.named (i := 5) sc_law_way_told.nd rfl rfl ⟨rfl, by decide, Or.inl T.m_BadPlaces⟩ (fun e o cls d pn hz hf => (pss_one (ps_ret (pe_tup (pa_cons pe_str (pa_cons (pe_xf T.xf_BadPlaces T.xn_BadPlaces_index hz hf (pv 5)) pa_nil)))))) (ClaOk.named (i := 5) sc_law_way_told.nd rfl rfl ⟨rfl, by decide, Or.inl T.m_TooMany⟩ (fun e o cls d pn hz hf => (pss_one (ps_ret (pe_tup (pa_cons pe_str (pa_cons (pe_xf T.xf_TooMany T.xn_TooMany_most hz hf (pv 5)) pa_nil)))))) (ClaOk.named (i := 5) sc_law_way_told.nd rfl rfl ⟨rfl, by decide, Or.inl T.m_NoWay⟩ (fun e o cls d pn hz hf => (pss_one (ps_ret (pe_ifExp (pt_val (pe_callB (call_isR hz hf) (by rfl) T.z_isinstance (by decide +kernel) (pa_cons (pv 5) (pa_cons (pe_glob (v := .ref a.c_UndoError) (by rfl) Y.mU (by rfl)) pa_nil)))) (pe_tup (pa_cons pe_str pa_nil)) (pe_tup (pa_cons pe_str pa_nil)))))) ClaOk.nil)))))
  (pss_one (ps_ret (pe_tup (pa_cons pe_str (pa_cons (pv 4) pa_nil)))))), ?_⟩
    walk_at "sm"
    refine ⟨x, rv, v1, v2, bs, e, r1, r2, rfl, hB, hw, hp, h1, h2, ?_⟩
    generalize lwR bs rv r1 r2 = res at k ⊢
    cases res with
    | room =>
      intro H' e'
      refine ⟨true, T.xe_BadRoom, fun _ eo heo => ?_, fun q => (nomatch q)⟩
      dsimp only [enM, stM]
      walk_at "sm"
      exact ⟨sz (by decide), fun t ht => k _ _ (e'.trans (Evl.Ex.new ht)) ⟨t, rfl, upd_same⟩⟩
    | pls j =>
      intro d H' e' hd
      refine ⟨false, Y.pb, fun q => (nomatch q), fun _ => ⟨true, T.xe_BadPlaces, fun _ eo heo => ?_, fun q => (nomatch q)⟩⟩
      dsimp only [enM, stM]
      walk_at "sm"
      refine ⟨_, hd, _, rfl, sz (by decide), fun t ht => k _ _ (e'.trans (Evl.Ex.new ht)) ⟨t, rfl, upd_same⟩⟩
    | many =>
      intro d H' e' hd
      refine ⟨false, Y.tb, fun q => (nomatch q), fun _ => ⟨false, Y.tp, fun q => (nomatch q), fun _ => ⟨true, T.xe_TooMany, fun _ eo heo => ?_, fun q => (nomatch q)⟩⟩⟩
      dsimp only [enM, stM]
      walk_at "sm"
      refine ⟨_, hd, _, rfl, sz (by decide), fun t ht => k _ _ (e'.trans (Evl.Ex.new ht)) ⟨t, rfl, upd_same⟩⟩
    | noway =>
      intro H' e'
      refine ⟨false, Y.nb, fun q => (nomatch q), fun _ => ⟨false, Y.np, fun q => (nomatch q), fun _ => ⟨false, Y.nt, fun q => (nomatch q), fun _ => ⟨true, T.xe_NoWay, fun _ eo heo => ?_, fun q => (nomatch q)⟩⟩⟩⟩
      dsimp only [enM, stM]
      walk_at "sm"
      refine ⟨_, _, _, true, rfl, rfl, .own _, Y.ex, Y.u, rfl, _, rfl, iteT ⟨sz (by decide), fun t ht => k _ _ (e'.trans (Evl.Ex.new ht)) ⟨t, rfl, upd_same⟩⟩⟩
    | way l =>
      intro q H' e' hq
      refine ⟨sz (by decide), fun t ht => ?_⟩
      have e2 := Evl.Ex.new (o := .tup [V.str "way", V.ref q]) ht
      exact k _ _ (e'.trans e2) ⟨t, q, rfl, upd_same, e2 _ _ hq⟩
end


/-! ### webs that are too great; places spoilt -/
open LamX (CodeO TabS Tabs ExtN TabB)
section
variable {P : Program} {w : World} {K : PySem.W.Frag} {mg : Str → Option Value} {base : Heap} {a : Ad}
/-- the table of code objects of a def with one lambda -/
def TbAt (base : Heap) (mg : Str → Option Value) (TL : List (Addr × Str)) (x : Str) (fd : FuncData) : Prop := ∃ c Pt : Addr, TabB base mg c Pt ∧ fd.code = .ref c ∧ (Pt, lamQ x) ∈ TL ∧ ∀ p ∈ TL, p.1 = Pt → p.2 = lamQ x
structure Tb4 (base : Heap) (mg : Str → Option Value) (a : Ad) (TL : List (Addr × Str)) : Prop where
  p : TbAt base mg TL "price_of" a.d_price_of
  s : TbAt base mg TL "shown_price_of" a.d_shown_price_of
  r : TbAt base mg TL "ready_price_of" a.d_ready_price_of
  g : TbAt base mg TL "reached_standings" a.d_reached_standings
variable {TL : List (Addr × Str)}
theorem ok_priceT (T : Txt K mg a) (B : Tb4 base mg a TL) : FnOk P w K mg base (L2.CX P w) 4 a.f_price_of a.d_price_of ["bare"] (spPO_ a TL Wprice) := by
  obtain ⟨c, Pt, h1, h2, h3, h4⟩ := B.p
  exact ok_price_of T h1 h2 h3 h4
theorem ok_shownT (T : Txt K mg a) (B : Tb4 base mg a TL) : FnOk P w K mg base (L2.CX P w) 4 a.f_shown_price_of a.d_shown_price_of ["bare"] (spPO_ a TL Wshown) := by
  obtain ⟨c, Pt, h1, h2, h3, h4⟩ := B.s
  exact ok_shown_price_of T h1 h2 h3 h4
theorem ok_readyT (T : Txt K mg a) (B : Tb4 base mg a TL) : FnOk P w K mg base (L2.CX P w) 4 a.f_ready_price_of a.d_ready_price_of ["bare"] (spPO_ a TL Wready) := by
  obtain ⟨c, Pt, h1, h2, h3, h4⟩ := B.r
  exact ok_ready_price_of T h1 h2 h3 h4
theorem ok_reachedT (T : Txt K mg a) (B : Tb4 base mg a TL) : FnOk P w K mg base (L2.CX P w) 5 a.f_reached_standings a.d_reached_standings ["bare", "room"] (spRS_ a TL) := by
  obtain ⟨c, Pt, h1, h2, h3, h4⟩ := B.g
  exact ok_reached_standings T h1 h2 h3 h4
def spGR (a : Ad) (TL : List (Addr × Str)) : Sp := fun vs H Q _ => ∃ (k : Nat) (x : Addr) (bs : List (List Nat)) (e : Nat), vs = [.int (k : Nat), .ref x] ∧ BareAt a.c_Bare H x bs e ∧ WebOk bs e ∧ Tabs TL H ∧ 8 < bs.length ∧ ∀ H', Evl.Ex H H' → Q (.bl true) H'
theorem ok_law_great_refused (T : Txt K mg a) (B : Tb4 base mg a TL) : FnOk P w K mg base CX0 6 a.f_law_great_refused a.d_law_great_refused ["_law_which", "_law_bare_here"] (spGR a TL) := by
  refine T.F_law_great_refused.ok sc_law_great_refused (fun vs H Q E h => ?_) (fun cdv A outer s H vs Q E hr h => ?_)
  · obtain ⟨_, _, _, _, rfl, _⟩ := h
    rfl
  · obtain ⟨k, x, bs, e, rfl, hB, hw, hT, hn, q⟩ := h
    refine ⟨_, (pss_cons (ps_try_as (i := 2) (Wout := fun _ _ _ _ => False) rfl rfl sc_law_great_refused.nd rfl rfl ⟨rfl, by decide, Or.inl T.m_TooMany⟩ takes0 (fun W pn xe tk _ => (pss_one (ps_if (pt_cmpR op_eq (pv 0) pe_int (nomark _)) (pss_one (ps_expr (pe_callS (ok_priceT T B) (hr.mono (by decide)) rfl T.m_price_of T.F_price_of.kp T.b_price_of (fun σ => passAt tk σ) (pa_cons (pv 1) pa_nil))))
    (pss_one (ps_if (pt_cmpR op_eq (pv 0) pe_int (nomark _)) (pss_one (ps_expr (pe_callS (ok_shownT T B) (hr.mono (by decide)) rfl T.m_shown_price_of T.F_shown_price_of.kp T.b_shown_price_of (fun σ => passAt tk σ) (pa_cons (pv 1) pa_nil))))
    (pss_one (ps_if (pt_cmpR op_eq (pv 0) pe_int (nomark _)) (pss_one (ps_expr (pe_callS (ok_readyT T B) (hr.mono (by decide)) rfl T.m_ready_price_of T.F_ready_price_of.kp T.b_ready_price_of (fun σ => passAt tk σ) (pa_cons (pv 1) pa_nil))))
    (pss_one (ps_expr (pe_callS (ok_reachedT T B) (hr.mono (by decide)) rfl T.m_reached_standings T.F_reached_standings.kp T.b_reached_standings (fun σ => passAt tk σ) (pa_cons (pv 1) (pa_cons pe_int pa_nil)))))))))))) (fun ae oe cls d pn hz hf => (pss_one (ps_ret (pe_cmpR op_eq (pe_xf T.xf_TooMany T.xn_TooMany_most hz hf (pv 2)) pe_int (nomark _))))))
  (pss_one (ps_ret pe_bl))), ?_⟩
    walk_at "sm"
    have s3 : wiB (.int 3) 1 200 = true := by decide
    refine ite2 (fun _ => ?_) fun _ => ite2 (fun _ => ?_) fun _ => ite2 (fun _ => ?_) fun _ => ?_
    · refine ⟨x, bs, e, rfl, hB, hw, hT, (fun _ d H' e' hd => was_true T.xe_TooMany fun ae hae => ?_), fun z => absurd z (by omega)⟩
      walk_at "sm"
      exact ⟨_, hd, _, rfl, rfl, by rw [decide_eq_true rfl]; exact q _ e'⟩
    · refine ⟨x, bs, e, rfl, hB, hw, hT, (fun _ d H' e' hd => was_true T.xe_TooMany fun ae hae => ?_), fun z => absurd z (by omega)⟩
      walk_at "sm"
      exact ⟨_, hd, _, rfl, rfl, by rw [decide_eq_true rfl]; exact q _ e'⟩
    · refine ⟨x, bs, e, rfl, hB, hw, hT, (fun _ d H' e' hd => was_true T.xe_TooMany fun ae hae => ?_), fun z => absurd z (by omega)⟩
      walk_at "sm"
      exact ⟨_, hd, _, rfl, rfl, by rw [decide_eq_true rfl]; exact q _ e'⟩
    · refine ⟨x, .int 3, bs, e, rfl, hB, hw, hT, plain_int, (fun z => by rw [s3] at z; cases z), (fun _ _ d H' e' hd => was_true T.xe_TooMany fun ae hae => ?_), fun _ _ _ _ z => absurd z (by omega)⟩
      walk_at "sm"
      exact ⟨_, hd, _, rfl, rfl, by rw [decide_eq_true rfl]; exact q _ e'⟩
theorem cut_take {xs : List V} {j : Nat} (h : j ≤ xs.length) : cutV xs none (some (j : Int)) = xs.take j := by
  unfold cutV
  rw [HT.sIx_none, HT.sIx_nat, Nat.min_eq_left h, List.drop_zero, Nat.sub_zero]
theorem cut_drop {xs : List V} {j : Nat} (h : j ≤ xs.length) : cutV xs (some (j : Int)) none = xs.drop j := by
  unfold cutV
  rw [HT.sIx_none, HT.sIx_nat, Nat.min_eq_left h]
  exact List.take_of_length_le (by rw [List.length_drop]; exact Nat.le_refl _)
def spSp : Sp := fun vs H Q _ => ∃ (p c q : Addr) (l : List Nat) (n : Nat), vs = [.ref p, .ref q, .int (n : Nat)] ∧ HandAt H p c ∧ H q = some (.lst ((nI l).map V.int)) ∧ PlsOk n l ∧ n ≤ 8 ∧ q ≠ p ∧ ∀ (t : Addr) (v : V) (j : Int) H', Fr p H H' → HandAt H' p c → H' t = some (.tup [v, .int j]) → PlAt H' v n (.inl j) → 0 ≤ j → Q (.ref t) H'
theorem ok_law_spoilt (T : Txt K mg a) : FnOk P w K mg base CX0 5 a.f_law_spoilt a.d_law_spoilt ["_law_hand_here", "_law_places_here", "_law_many"] spSp := by
  refine T.F_law_spoilt.ok sc_law_spoilt (fun vs H Q E h => ?_) (fun cdv A outer s H vs Q E hr h => ?_)
  · obtain ⟨_, _, _, _, _, rfl, _⟩ := h
    rfl
  · obtain ⟨p, c, q, l, n, rfl, hh, hq, hl, hn, hqp, k⟩ := h
    refine ⟨_, (pss_cons (ps_set (i := 3) sc_law_spoilt.nd rfl (by first | exact Or.inl rfl | exact Or.inr rfl) (pe_call (ok_law_take T) (hr.mono (by decide)) rfl T.m_law_take T.F_law_take.kp T.b_law_take .nil pass0 (pa_cons (pv 0) (pa_cons (pe_op op_add (pe_callB call_len_seq (by rfl) T.z_len (by decide +kernel) (pa_cons (pv 1) pa_nil)) pe_int) pa_nil))))
  (pss_cons (ps_set (i := 4) sc_law_spoilt.nd rfl (by first | exact Or.inl rfl | exact Or.inr rfl) (pe_ix ix_list (pe_lst (pa_cons pe_bl (pa_cons (pv 2) (pa_cons (pe_un un_neg pe_int) (pa_cons pe_str (pa_cons pe_non (pa_cons (pe_op op_add (pv 2) pe_int) pa_nil))))))) (pe_call (ok_law_take T) (hr.mono (by decide)) rfl T.m_law_take T.F_law_take.kp T.b_law_take .nil pass0 (pa_cons (pv 0) (pa_cons pe_int pa_nil))) (fun _ _ => rfl)))
  (pss_cons (ps_if (PW.pt (pw_and (pt_cmpR op_gt (pv 3) pe_int (nomark _)) (pw_and1 (pt_cmpR op_eq (pe_call (ok_law_take T) (hr.mono (by decide)) rfl T.m_law_take T.F_law_take.kp T.b_law_take .nil pass0 (pa_cons (pv 0) (pa_cons pe_int pa_nil))) pe_int (nomark _))))) (pss_one (ps_set (i := 4) sc_law_spoilt.nd rfl (by first | exact Or.inl rfl | exact Or.inr rfl) (pe_ix ix_list (pv 1) (pe_call (ok_law_take T) (hr.mono (by decide)) rfl T.m_law_take T.F_law_take.kp T.b_law_take .nil pass0 (pa_cons (pv 0) (pa_cons (pv 3) pa_nil))) (fun _ _ => rfl))))
    pss_nil)
  (pss_one (ps_ret (pe_tup (pa_cons (pe_op op_cat (pe_op op_cat (pe_slice sl_list (pv 1) po_none (po_some (pv 3))) (pe_lst (pa_cons (pv 4) pa_nil))) (pe_slice sl_list (pv 1) (po_some (pv 3)) po_none)) (pa_cons (pv 3) pa_nil)))))))), ?_⟩
    walk_at "sm"
    have ll : l.length ≤ n := by
      have := hl.1.length_le_of_subset (l₂ := List.range n) fun x hx => List.mem_range.mpr (hl.2 x hx)
      rw [List.length_range] at this
      exact this
    refine ⟨_, .inl (SqL.of hq), ?_⟩
    rw [nI_len]
    refine tk hh (by omega) (by omega) fun r H1 r0 r1 f1 g1 => ?_
    obtain ⟨j, rfl⟩ : ∃ j : Nat, r = j := ⟨r.toNat, by omega⟩
    have jl : j ≤ l.length := by omega
    have fin : ∀ (odd : V) (HX : Hp), Fr p H HX → HandAt HX p c → (∀ H, PlainV H odd) → PlsBad n (l.take j) odd → ∃ i : Int, V.int (j : Int) = V.int i ∧ rSlL K (V.ref q) none (some i) HX fun x_2 H1 => 0 + 1 ≤ sizeLine ∧ ∀ p, H1 p = none → rCat x_2 (V.ref p) (upd H1 p (HO.lst [odd])) fun x_3 H1 => ∃ i : Int, V.int (j : Int) = V.int i ∧ rSlL K (V.ref q) (some i) none H1 fun y H2 => rCat x_3 y H2 fun x_4 H1 => 0 + 1 + 1 ≤ sizeLine ∧ ∀ p, H1 p = none → Q (V.ref p) (upd H1 p (HO.tup [x_4, V.int (j : Int)])) := by
      intro odd HX f2 g2 pl bad
      have l6 : ((nI l).map V.int).length ≤ 8 := by rw [nI_len]; omega
      have jl' : j ≤ ((nI l).map V.int).length := by rw [nI_len]; exact jl
      refine ⟨_, rfl, q, _, rfl, SqL.of (f2 _ _ hqp hq), fun s1 h1 => ?_⟩
      rw [cut_take jl']
      refine ⟨sz (by decide), fun s2 h2 => ?_⟩
      obtain ⟨f3, g3, n3⟩ := hand_new (o := .lst (((nI l).map V.int).take j)) f2 g2 h1
      obtain ⟨f4, g4, n4⟩ := hand_new (o := .lst [odd]) f3 g3 h2
      have s12 : s1 ≠ s2 := fun z => by rw [← z, upd_same] at h2; cases h2
      refine ⟨s1, s2, _, _, rfl, rfl, by rw [upd_ne s12, upd_same], upd_same, by rw [List.length_take, sizeLine_eq]; show _ + 1 ≤ _; omega, fun s3 h3 => ⟨_, rfl, q, (nI l).map V.int, rfl, ?_, fun s4 h4 => ?_⟩⟩
      · exact SqL.of ((hand_new (o := .lst (((nI l).map V.int).take j ++ [odd])) f4 g4 h3).1 _ _ hqp hq)
      obtain ⟨f5, g5, n5⟩ := hand_new (o := .lst (((nI l).map V.int).take j ++ [odd])) f4 g4 h3
      rw [cut_drop jl']
      obtain ⟨f6, g6, n6⟩ := hand_new (o := .lst (((nI l).map V.int).drop j)) f5 g5 h4
      have s34 : s3 ≠ s4 := fun z => by rw [← z, upd_same] at h4; cases h4
      refine ⟨s3, s4, _, _, rfl, rfl, by rw [upd_ne s34, upd_same], upd_same, by rw [List.length_append, List.length_take, List.length_drop, sizeLine_eq]; show _ + 1 + _ ≤ _; omega, fun s5 h5 => ⟨sz (by decide), fun t ht => ?_⟩⟩
      obtain ⟨f7, g7, n7⟩ := hand_new (o := .lst (((nI l).map V.int).take j ++ [odd] ++ ((nI l).map V.int).drop j)) f6 g6 h5
      obtain ⟨f8, g8, n8⟩ := hand_new (o := .tup [V.ref s5, V.int (j : Int)]) f7 g7 ht
      have s5t : s5 ≠ t := fun z => by rw [← z, upd_same] at ht; cases ht
      refine k t (.ref s5) (j : Nat) _ f8 g8 upd_same (.inr ⟨s5, _, l.take j, odd, (nI (l.drop j)).map V.int, rfl, .inr (by rw [upd_ne s5t, upd_same]), fun y hy => ?_, ⟨hl.1.sublist (List.take_sublist _ _), fun x hx => hl.2 x (List.mem_of_mem_take hx)⟩, ?_, bad, ?_⟩) (by omega)
      · rcases List.mem_append.mp hy with hy | hy
        · rcases List.mem_append.mp hy with hy | hy
          · obtain ⟨z, _, rfl⟩ := List.mem_map.mp (List.mem_of_mem_take hy)
            exact plain_int
          · rw [List.mem_singleton.mp hy]
            exact pl _
        · obtain ⟨z, _, rfl⟩ := List.mem_map.mp (List.mem_of_mem_drop hy)
          exact plain_int
      · rw [List.append_assoc, nI, nI, nI, ← List.map_take, ← List.map_take, ← List.map_drop, ← List.map_drop]
        rfl
      · rw [List.length_take, Nat.min_eq_left jl]
    refine ⟨sz (by decide), fun s0 h0 => ?_⟩
    obtain ⟨f2, g2, n2⟩ := hand_new (o := .lst [V.bl true, V.int n, V.int (-1), V.str "0", V.non, V.int ((n : Int) + 5)]) f1 g1 h0
    refine tk g2 (by decide) (by decide) fun r2 H2 r20 r21 f3 g3 => ?_
    have h02 := f3 _ _ n2 upd_same
    have f23 := f2.trans f3
    obtain ⟨odd, ho, hpl, hbad⟩ : ∃ odd, atI [V.bl true, V.int n, V.int (-1), V.str "0", V.non, V.int ((n : Int) + 5)] r2 = some odd ∧ (∀ H, PlainV H odd) ∧ isP n odd = false := by
      rcases (show r2 = 0 ∨ r2 = 1 ∨ r2 = 2 ∨ r2 = 3 ∨ r2 = 4 ∨ r2 = 5 by omega) with rfl | rfl | rfl | rfl | rfl | rfl
      · exact ⟨_, rfl, fun _ => .inr (.inl ⟨_, rfl⟩), rfl⟩
      · exact ⟨_, rfl, fun _ => plain_int, by
          show (decide ((0 : Int) ≤ n) && decide ((n : Int) ≤ (n : Int) - 1)) = false
          rw [decide_eq_false (show ¬ (n : Int) ≤ (n : Int) - 1 by omega), Bool.and_false]⟩
      · exact ⟨_, rfl, fun _ => plain_int, rfl⟩
      · exact ⟨_, rfl, fun _ => .inr (.inr (.inr (.inl ⟨_, rfl⟩))), rfl⟩
      · exact ⟨_, rfl, fun _ => .inl rfl, rfl⟩
      · exact ⟨_, rfl, fun _ => plain_int, by
          show (decide ((0 : Int) ≤ (n : Int) + 5) && decide ((n : Int) + 5 ≤ (n : Int) - 1)) = false
          rw [decide_eq_false (show ¬ (n : Int) + 5 ≤ (n : Int) - 1 by omega), Bool.and_false]⟩
    refine ⟨s0, _, _, odd, rfl, rfl, SqL.of h02, ho, _, rfl, ite2 (fun hj => ?_) fun hj => fin odd H2 f23 g3 hpl (.inl hbad)⟩
    refine tk g3 (by decide) (by decide) fun r3 H3 r30 r31 f4 g4 => ⟨rfl, ite2 (fun _ => ?_) fun _ => fin odd H3 (f23.trans f4) g4 hpl (.inl hbad)⟩
    refine tk g4 (by omega) (by omega) fun r4 H4 r40 r41 f5 g5 => ?_
    obtain ⟨i4, rfl⟩ : ∃ i : Nat, r4 = i := ⟨r4.toNat, by omega⟩
    have f25 := (f23.trans f4).trans f5
    have i4l : i4 < l.length := by omega
    refine ⟨q, _, _, _, rfl, rfl, SqL.of (f25 _ _ hqp hq), atI_nat (at_nat (List.getElem?_eq_getElem i4l)), fin _ H4 f25 g5 (fun _ => plain_int) (.inr ⟨l[i4], ?_, rfl⟩)⟩
    refine List.mem_of_getElem? (i := i4) ?_
    rw [List.getElem?_take, if_pos (by omega), List.getElem?_eq_getElem i4l]
end


/-! ### what the law is told, what it holds -/
open LamX (CodeO TabS Tabs ExtN TabB)
theorem dp_ints {K : PySem.W.Frag} {H : Hp} : ∀ l : List Nat, DpAll K H ((nI l).map V.int) (iD l)
  | [] => .nil
  | x :: l => .cons (.int _) (dp_ints l)
theorem iD_lay (l : List Nat) : ∀ d ∈ iD l, d.canLay0 = true ∧ d.depth ≤ 1 := fun d hd => by
  obtain ⟨x, _, rfl⟩ := List.mem_map.mp hd
  exact ⟨rfl, Nat.zero_le _⟩
theorem mem_c {α : Type} {P : α → Prop} {x : α} {l : List α} (h : P x) (t : ∀ y ∈ l, P y) : ∀ y ∈ x :: l, P y := fun y hy => by
  rcases List.mem_cons.mp hy with rfl | hy
  · exact h
  · exact t y hy
theorem str_lay {x : Str} (h : (PyData.str x).canLay0 = true) : (PyData.str x).canLay0 = true ∧ (PyData.str x).depth ≤ 2 := ⟨h, Nat.zero_le _⟩
theorem int_lay (i : Int) : (PyData.int i).canLay0 = true ∧ (PyData.int i).depth ≤ 2 := ⟨rfl, Nat.zero_le _⟩
theorem LwTo.go {H H' : Hp} {v : V} {r : Lw} (e : Evl.Ex H H') (h : LwTo H v r) : LwTo H' v r := by
  cases r with
  | room => obtain ⟨t, h1, h2⟩ := h; exact ⟨t, h1, e _ _ h2⟩
  | pls j => obtain ⟨t, h1, h2⟩ := h; exact ⟨t, h1, e _ _ h2⟩
  | many => obtain ⟨t, h1, h2⟩ := h; exact ⟨t, h1, e _ _ h2⟩
  | noway => obtain ⟨t, h1, h2⟩ := h; exact ⟨t, h1, e _ _ h2⟩
  | way l => obtain ⟨t, q, h1, h2, h3⟩ := h; exact ⟨t, q, h1, e _ _ h2, e _ _ h3⟩
theorem LwTo.dp {K : PySem.W.Frag} {H : Hp} {v : V} {r : Lw} (h : LwTo H v r) : Dp K H v r.D := by
  cases r with
  | room =>
    obtain ⟨t, rfl, h⟩ := h
    exact .tup (SqT.of h) (.cons (.str _) .nil)
  | pls j =>
    obtain ⟨t, rfl, h⟩ := h
    exact .tup (SqT.of h) (.cons (.str _) (.cons (.int _) .nil))
  | many =>
    obtain ⟨t, rfl, h⟩ := h
    exact .tup (SqT.of h) (.cons (.str _) (.cons (.int _) .nil))
  | noway =>
    obtain ⟨t, rfl, h⟩ := h
    exact .tup (SqT.of h) (.cons (.str _) .nil)
  | way l =>
    obtain ⟨t, q, rfl, h, hq⟩ := h
    exact .tup (SqT.of h) (.cons (.str _) (.cons (.tup (SqT.of hq) (dp_ints l)) .nil))
theorem Lw.shaped (r : Lw) : SeqAt.shaped r.D = true := by
  cases r with
  | room => exact shaped_of (lay_tup (n := 2) (fun d hd => by rw [List.mem_singleton.mp hd]; exact str_lay (by decide +kernel))) (by decide)
  | pls j => exact shaped_of (lay_tup (n := 2) (mem_c (str_lay (by decide +kernel)) (mem_c (int_lay _) (fun d hd => nomatch hd)))) (by decide)
  | many => exact shaped_of (lay_tup (n := 2) (mem_c (str_lay (by decide +kernel)) (mem_c (int_lay _) (fun d hd => nomatch hd)))) (by decide)
  | noway => exact shaped_of (lay_tup (n := 2) (fun d hd => by rw [List.mem_singleton.mp hd]; exact str_lay (by decide +kernel))) (by decide)
  | way l => exact shaped_of (lay_tup (n := 2) (mem_c (str_lay (by decide +kernel)) (mem_c (lay_tup (iD_lay l)) (fun d hd => nomatch hd)))) (by decide)
theorem HandAt.nx {H H' : Hp} {h c : Addr} (k : ExtN H H') (l : HandAt H h c) : HandAt H' h c := by
  obtain ⟨cells, i, g, t, h1, h2, r⟩ := l
  exact ⟨cells, i, g, t, k _ _ h1 (fun _ z => nomatch z), k _ _ h2 (fun _ z => nomatch z), r⟩
theorem AfAt.nx {H H' : Hp} {l : Addr} {ls : List Addr} {f : Nat → List Nat} (k : ExtN H H') (h : AfAt H l ls f) : AfAt H' l ls f := ⟨k _ _ h.1 (fun _ z => nomatch z), h.2.1, h.2.2.1, fun q c hc => k _ _ (h.2.2.2 q c hc) (fun _ z => nomatch z)⟩
theorem Tabs.fr {TL : List (Addr × Str)} {H H' : Hp} {h : Addr} {xs : List V} (k : Fr h H H') (hh : H h = some (.lst xs)) (t : Tabs TL H) : Tabs TL H' := fun p hp => by
  obtain ⟨ps, h1, h2, h3⟩ := t p hp
  refine ⟨ps, k _ _ (fun z => by rw [z, hh] at h1; cases h1) h1, h2, fun pos cv hc => ?_⟩
  obtain ⟨c, ec, e2⟩ := h3 pos cv hc
  exact ⟨c, ec, k _ _ (fun z => by
    rw [z, hh] at e2
    unfold CodeO at e2
    cases e2) e2⟩
theorem OwAt.go {H H' : Hp} {v : V} {o : Option (List Nat)} (k : Evl.Ex H H') (h : OwAt H v o) : OwAt H' v o := by
  cases o with
  | none => exact h
  | some l =>
    obtain ⟨q, h1, h2⟩ := h
    exact ⟨q, h1, k _ _ h2⟩
theorem OwAt.nx {H H' : Hp} {v : V} {o : Option (List Nat)} (k : ExtN H H') (h : OwAt H v o) : OwAt H' v o := by
  cases o with
  | none => exact h
  | some l =>
    obtain ⟨q, h1, h2⟩ := h
    exact ⟨q, h1, k _ _ h2 (fun _ z => nomatch z)⟩
theorem pcs_one {e : Nat} : ∀ n, pcs n (2 ^ e) = if e < n then [e] else []
  | 0 => by rw [if_neg (Nat.not_lt_zero _)]; rfl
  | n + 1 => by
    rw [pcs_succ, pcs_one n, bit_pow]
    by_cases c : n = e
    · subst c
      rw [if_neg (Nat.lt_irrefl _), if_pos (decide_eq_true rfl), if_pos (by omega)]
      rfl
    · rw [if_neg (show ¬ decide (n = e) = true by simpa using c), List.append_nil]
      by_cases c2 : e < n
      · rw [if_pos c2, if_pos (by omega)]
      · rw [if_neg c2, if_neg (by omega)]
theorem BareAt.frH {C : Addr} {H H' : Hp} {h : Addr} {ys : List V} {x : Addr} {bs : List (List Nat)} {e : Nat} (k : Fr h H H') (hh : H h = some (.lst ys)) (l : BareAt C H x bs e) : BareAt C H' x bs e := by
  obtain ⟨dx, p, af, od, nd, h1, ⟨xs, h2, h3⟩, ⟨ys', h4, h5⟩, h6, h7⟩ := l
  have t : ∀ b zs, H b = some (.tup zs) → H' b = some (.tup zs) := fun b zs hb => k _ _ (fun z => by rw [z, hh] at hb; cases hb) hb
  have row : ∀ {xs : List V} {bs : List (List Nat)}, Paired (rowR H) xs bs → Paired (rowR H') xs bs := fun hp => Paired.mapP hp fun v b ⟨q, z1, z2⟩ => ⟨q, z1, t _ _ z2⟩
  exact ⟨dx, p, af, od, nd, k _ _ (fun z => by rw [z, hh] at h1; cases h1) h1, ⟨xs, t _ _ h2, row h3⟩, ⟨ys', t _ _ h4, row h5⟩, t _ _ h6, t _ _ h7⟩
def nnF (i : Nat) : List Nat := if i = 0 then [] else [i - 1]
def ivNn (H : Hp) (D : Addr) (i : Nat) (H' : Hp) : Prop := Evl.Ex H H' ∧ ∃ xs, H' D = some (.lst xs) ∧ Paired (fun x b => ∃ q, x = V.ref q ∧ q ≠ D ∧ H' q = some (.lst ((nI b).map V.int))) xs ((List.range i).map nnF)
theorem nn_ok : WebOk ((List.range 9).map nnF) 8 := web_ok0 (n := 9) (f := nnF) (by decide) (by decide) ⟨fun i hi => by unfold nnF; split; exact .nil; exact List.pairwise_singleton .., fun i hi x hx => by unfold nnF at hx; split at hx; cases hx; rw [List.mem_singleton.mp hx]; omega, fun q hq => ⟨q + 1, hq, by unfold nnF; rw [if_neg (by omega)]; exact List.mem_singleton.mpr (by omega)⟩⟩
theorem ints_all {l : List Nat} : ∀ x ∈ (nI l).map V.int, ∃ n : Int, x = .int n := fun x hx => by
  obtain ⟨n, _, rfl⟩ := List.mem_map.mp hx
  exact ⟨n, rfl⟩
section
variable {P : Program} {w : World} {K : PySem.W.Frag} {mg : Str → Option Value} {base : Heap} {a : Ad}
def spAB : Sp := fun vs H Q _ => ∃ (p c : Addr) (n : Nat), vs = [.ref p, .int n] ∧ HandAt H p c ∧ 1 ≤ n ∧ n ≤ 8 ∧ ∀ v bs e H', Fr p H H' → HandAt H' p c → LwAt H' v n bs e → WebOk bs e → Q v H'
theorem ok_law_any_bare (T : Txt K mg a) : FnOk P w K mg base CX0 5 a.f_law_any_bare a.d_law_any_bare ["_law_hand_here", "_law_many"] spAB := by
  refine T.F_law_any_bare.ok sc_law_any_bare (fun vs H Q E h => ?_) (fun cdv A outer s H vs Q E hr h => ?_)
  · obtain ⟨_, _, _, rfl, _⟩ := h
    rfl
  · obtain ⟨p, c, n, rfl, hh, h1, h8, k⟩ := h
    refine ⟨_, (pss_cons (ps_set (i := 2) sc_law_any_bare.nd rfl (by first | exact Or.inl rfl | exact Or.inr rfl) (pe_cmpR op_eq (pe_call (ok_law_take T) (hr.mono (by decide)) rfl T.m_law_take T.F_law_take.kp T.b_law_take .nil pass0 (pa_cons (pv 0) (pa_cons pe_int pa_nil))) pe_int (nomark _)))
  (pss_cons (ps_if (pt_cmpR op_eq (pe_call (ok_law_take T) (hr.mono (by decide)) rfl T.m_law_take T.F_law_take.kp T.b_law_take .nil pass0 (pa_cons (pv 0) (pa_cons pe_int pa_nil))) pe_int (nomark _)) (pss_one (ps_ret (pe_call (ok_law_tree T) (hr.mono (by decide)) rfl T.m_law_tree T.F_law_tree.kp T.b_law_tree .nil pass0 (pa_cons (pv 0) (pa_cons (pv 1) (pa_cons (pv 2) pa_nil))))))
    pss_nil)
  (pss_one (ps_ret (pe_call (ok_law_bare T) (hr.mono (by decide)) rfl T.m_law_bare T.F_law_bare.kp T.b_law_bare .nil pass0 (pa_cons (pv 0) (pa_cons (pv 1) (pa_cons (pe_op op_add pe_int (pe_call (ok_law_take T) (hr.mono (by decide)) rfl T.m_law_take T.F_law_take.kp T.b_law_take .nil pass0 (pa_cons (pv 0) (pa_cons pe_int pa_nil)))) (pa_cons (pv 2) pa_nil))))))))), ?_⟩
    walk_at "sm"
    refine tk hh (by decide) (by decide) fun r H1 _ _ f1 g1 => ⟨rfl, tk g1 (by decide) (by decide) fun r2 H2 _ _ f2 g2 => ⟨rfl, ite2 (fun _ => ?_) (fun _ => ?_)⟩⟩
    · exact ⟨p, c, n, _, rfl, g2, h1, h8, fun v bs e H' f3 g3 l3 w3 => k v bs e H' ((f1.trans f2).trans f3) g3 l3 w3⟩
    · refine tk g2 (by decide) (by decide) fun y H3 y1 y2 f3 g3 => ⟨y, rfl, ?_⟩
      obtain ⟨y, rfl⟩ : ∃ e : Nat, y = e := ⟨y.toNat, by omega⟩
      rw [show (1 : Int) + (y : Int) = ((1 + y : Nat) : Int) by omega]
      exact ⟨p, c, n, 1 + y, _, rfl, g3, h1, h8, by omega, by omega, fun v bs e H' f4 g4 l4 w4 => k v bs e H' (((f1.trans f2).trans f3).trans f4) g4 l4 w4⟩
end


/-! ### what is refused -/
open LamX (CodeO TabS Tabs ExtN TabB)
/-- a op1 b op2 c op3 d -/
def tChain3 (r r' r'' : R2) (ta tb tc td : TE) : TE := fun σ H Q => ta σ H fun x H1 => tb σ H1 fun y H2 => r x y H2 fun z H3 => ∃ k, z = .bl k ∧
  (if k = true then tc σ H3 fun w' H4 => r' y w' H4 fun z2 H5 => ∃ k2, z2 = .bl k2 ∧ (if k2 = true then td σ H5 fun w3 H6 => r'' w' w3 H6 Q else Q (.bl false) H5) else Q (.bl false) H3)
theorem pe_chain3 {X : Cx} {op op' op'' : CmpOp} {r r' r'' : R2} {a b c d : Expr} {pos : Pos} {ta tb tc td : TE} (ho : OpR X (compareOp op) r) (ho' : OpR X (compareOp op') r') (ho'' : OpR X (compareOp op'') r'') (ha : PE X a ta) (hb : PE X b tb) (hc : PE X c tc) (hd : PE X d td)
    (hm : lastMarks [op, op', op''] [b, c, d] = false := by with_unfolding_all rfl) : PE X (.Compare a [op, op', op''] [b, c, d] pos) (tChain3 r r' r'' ta tb tc td) := by
  refine ⟨fun pins s σ H Q I h => ?_⟩
  refine Compare_chain (thn (ha.run pins s σ H _ I h) fun v s1 ⟨x, H1, I1, r1, q1⟩ => chain_link (thn (hb.run pins s1 σ H1 _ I1 q1) fun u s2 ⟨y, H2, I2, r2, q2⟩ =>
    thn (ho pins s2 σ H2 x y v u _ I2 r1 r2 q2) fun d' s3 ⟨z, H3, I3, r3, k, e, q3⟩ => ?_)) hm
  subst e
  cases r3
  refine wpAny_truthy_bool ?_
  cases k with
  | false => exact ⟨.bl false, H3, I3, rfl, q3⟩
  | true =>
    refine chain_link (thn (hc.run pins s3 σ H3 _ I3 q3) fun w' s4 ⟨z', H4, I4, r4, q4⟩ => thn (ho' pins s4 σ H4 y z' u w' _ I4 r2 r4 q4) fun d2 s5 ⟨z2, H5, I5, r5, k2, e2, q5⟩ => ?_)
    subst e2
    cases r5
    refine wpAny_truthy_bool ?_
    cases k2 with
    | false => exact ⟨.bl false, H5, I5, rfl, q5⟩
    | true => exact chain_last (thn (hd.run pins s5 σ H5 _ I5 q5) fun w3 s6 ⟨z3, H6, I6, r6, q6⟩ => ho'' pins s6 σ H6 z' z3 w' w3 Q I6 r4 r6 q6)
section
variable {P : Program} {w : World} {K : PySem.W.Frag} {mg : Str → Option Value} {base : Heap} {a : Ad} {TL : List (Addr × Str)}
theorem lw_room {bs : List (List Nat)} {rv : V} {r1 r2 : Int ⊕ List Nat} (h : wiB rv 1 200 = false) : lwR bs rv r1 r2 = .room := by
  unfold lwR
  rw [if_neg (by rw [h]; exact Bool.false_ne_true)]
theorem lw_pls {bs : List (List Nat)} {rv : V} {j : Int} {r2 : Int ⊕ List Nat} (h : wiB rv 1 200 = true) : lwR bs rv (.inl j) r2 = .pls j := by
  unfold lwR
  rw [if_pos h]
theorem lw_pls2 {bs : List (List Nat)} {rv : V} {j : Int} {l : List Nat} (h : wiB rv 1 200 = true) : lwR bs rv (.inr l) (.inl j) = .pls j := by
  unfold lwR
  rw [if_pos h]
theorem lw_many {bs : List (List Nat)} {rv : V} {l1 l2 : List Nat} (h : wiB rv 1 200 = true) (hn : 8 < bs.length) : lwR bs rv (.inr l1) (.inr l2) = .many := by
  unfold lwR
  rw [if_pos h]
  show (if 8 < bs.length then Lw.many else _) = _
  rw [if_pos hn]
theorem LwTo.pd {K : PySem.W.Frag} {H : Hp} {v : V} {r r' : Lw} (e : r = r') (h : LwTo H v r) : Dp K H v r'.D := by
  rw [← e]
  exact h.dp
theorem ls_uniq {bs : List (List Nat)} {wn : Nat → Bool} {r r' : Nat} (h : LsOk bs wn r) (h' : LsOk bs wn r') : r = r' := by
  rcases Nat.lt_trichotomy r r' with c | c | c
  · obtain ⟨y, h1, h2⟩ := h.yes
    rw [h'.no r c h.one y h1] at h2
    cases h2
  · exact c
  · obtain ⟨y, h1, h2⟩ := h'.yes
    rw [h.no r' c h'.one y h1] at h2
    cases h2
theorem rd_uniq {bs : List (List Nat)} {e r r' : Nat} (h : Wready bs e r) (h' : Wready bs e r') : r = r' := by
  rcases h with ⟨h1, rfl⟩ | ⟨h1, h2⟩
  · rcases h' with ⟨_, rfl⟩ | ⟨h3, _⟩
    · rfl
    · exact absurd h1 h3
  · rcases h' with ⟨h3, _⟩ | ⟨_, h4⟩
    · exact absurd h3 h1
    · exact ls_uniq h2 h4
theorem and_sub {m b : Nat} : (m &&& b) = b ↔ ∀ i, b.testBit i = true → m.testBit i = true := by
  constructor
  · intro h i hi
    rw [← h, Nat.testBit_and] at hi
    exact (Bool.and_eq_true _ _ ▸ hi : _ ∧ _).1
  · intro h
    refine Nat.eq_of_testBit_eq fun i => ?_
    rw [Nat.testBit_and]
    cases c : b.testBit i with
    | false => rw [Bool.and_false]
    | true => rw [h i c]; rfl
theorem and_pow {m e : Nat} : (m &&& 2 ^ e) = 2 ^ e ↔ m.testBit e = true := by
  rw [and_sub]
  constructor
  · intro h
    exact h e (by rw [bit_pow]; exact decide_eq_true rfl)
  · intro h i hi
    rw [bit_pow] at hi
    rw [of_decide_eq_true hi]
    exact h
theorem fin0 {bs : List (List Nat)} {y : Nat} (h : y ∈ (fin bs 0 0).map Prod.fst) : y = 0 := by
  have F := fin_fi (bs := bs) (room := 0) (Nat.two_pow_pos _ : 0 < 2 ^ bs.length)
  rw [fin_key (Nat.two_pow_pos _)] at h
  obtain ⟨d, hd⟩ := Option.isSome_iff_exists.mp h
  have h1 := fin_pc F (by rw [pc_zero]; exact Nat.le_refl _) hd
  have h2 := F.lt _ _ hd
  have h3 : pcs bs.length y = [] := List.length_eq_zero_iff.mp (show pc bs.length y = 0 by omega)
  rw [← msk_pcs h2, h3]
  rfl
theorem ready_rf {bs : List (List Nat)} {e rd : Nat} (hw : WebOk bs e) (hn : bs.length ≤ 8) (h : Wready bs e rd) : rd ≤ bs.length ∧ (∃ y, y ∈ (fin bs rd 0).map Prod.fst ∧ (y &&& msk (row bs e)) = msk (row bs e)) ∧ ∀ r', r' < rd → ∀ y ∈ (fin bs r' 0).map Prod.fst, (y &&& msk (row bs e)) ≠ msk (row bs e) := by
  have hh : ∀ y, (y &&& msk (row bs e)) = msk (row bs e) ↔ hld bs y e = true := fun y => by rw [and_sub, hld_msk]
  rcases h with ⟨h1, rfl⟩ | ⟨h1, h2⟩
  · refine ⟨Nat.zero_le _, ⟨0, ?_, by rw [h1]; rfl⟩, fun r' h => absurd h (Nat.not_lt_zero _)⟩
    rw [fin_key (Nat.two_pow_pos _), (fin_fi (bs := bs) (room := 0) (Nat.two_pow_pos _ : 0 < 2 ^ bs.length)).z]
    rfl
  · refine ⟨h2.le, ?_, fun r' hr y hy z => ?_⟩
    · obtain ⟨y, y1, y2⟩ := h2.yes
      exact ⟨y, y1, (hh y).mpr y2⟩
    · by_cases c : r' = 0
      · subst c
        rw [fin0 hy, Nat.zero_and] at z
        exact h1 z.symm
      · have := h2.no r' hr (by omega) y hy
        rw [(hh y).mp z] at this
        cases this
theorem shown_rf {bs : List (List Nat)} {e sh : Nat} (hw : WebOk bs e) (hn : bs.length ≤ 8) (h : Wshown bs e sh) : sh ≤ bs.length ∧ (∃ y, y ∈ (fin bs sh 0).map Prod.fst ∧ (y &&& 2 ^ e) = 2 ^ e) ∧ ∀ r', r' < sh → ∀ y ∈ (fin bs r' 0).map Prod.fst, (y &&& 2 ^ e) ≠ 2 ^ e := by
  refine ⟨h.le, ?_, fun r' hr y hy z => ?_⟩
  · obtain ⟨y, y1, y2⟩ := h.yes
    exact ⟨y, y1, and_pow.mpr y2⟩
  · by_cases c : r' = 0
    · subst c
      rw [fin0 hy, Nat.zero_and] at z
      exact absurd z.symm (Nat.ne_of_gt (Nat.two_pow_pos _))
    · have h1 := h.no r' hr (by omega) y hy
      have h2 : y.testBit e = false := h1
      rw [and_pow.mp z] at h2
      cases h2
theorem hf_of {n e : Nat} {f : Nat → List Nat} (hw : WebOk ((List.range n).map f) e) : ∀ i, i < n → (f i).Pairwise (· < ·) ∧ ∀ x ∈ f i, x < n := fun i hi => by
  obtain ⟨h1, h2, _⟩ := hw.ok.2.2 i (f i) (get_rg hi)
  exact ⟨h1, fun x hx => by have := (h2 x hx).1; rwa [List.length_map, List.length_range] at this⟩
def spRs (a : Ad) (TL : List (Addr × Str)) : Sp := fun vs H Q _ => ∃ (h c x q1 q2 : Addr) (bs : List (List Nat)) (e n : Nat) (l1 l2 : List Nat), vs = [.ref h, .ref x, .int (n : Nat), .ref q1, .ref q2] ∧ HandAt H h c ∧ BareAt a.c_Bare H x bs e ∧ WebOk bs e ∧ bs.length = n ∧ n ≤ 8 ∧ Tabs TL H ∧
  H q1 = some (.lst ((nI l1).map V.int)) ∧ H q2 = some (.lst ((nI l2).map V.int)) ∧ PlsOk n l1 ∧ PlsOk n l2 ∧ q1 ≠ h ∧ q2 ≠ h ∧ ∀ H', Q (.bl true) H'
theorem ok_law_refusals (T : Txt K mg a) (Y : Txw K mg a) (B : Tb4 base mg a TL) : FnOk P w K mg base CX0 7 a.f_law_refusals a.d_law_refusals ["_law_hand_here", "_law_bare_here", "_law_many", "_law_first", "_law_last"] (spRs a TL) := by
  refine T.F_law_refusals.ok sc_law_refusals (fun vs H Q E h => ?_) (fun cdv A outer s H vs Q E hr h => ?_)
  · obtain ⟨_, _, _, _, _, _, _, _, _, _, rfl, _⟩ := h
    rfl
  · obtain ⟨h, c, x, q1, q2, bs, e, n, l1, l2, rfl, hh, hB, hw, hbl, hn, hT, hq1, hq2, ho1, ho2, n1, n2, k⟩ := h
    refine ⟨_, (pss_cons (ps_set (i := 5) sc_law_refusals.nd rfl (by first | exact Or.inl rfl | exact Or.inr rfl) (pe_ix ix_list (pe_lst (pa_cons pe_int (pa_cons pe_int (pa_cons pe_bl (pa_cons pe_str (pa_cons pe_non (pa_cons (pe_un un_neg pe_int) pa_nil))))))) (pe_call (ok_law_take T) (hr.mono (by decide)) rfl T.m_law_take T.F_law_take.kp T.b_law_take .nil pass0 (pa_cons (pv 0) (pa_cons pe_int pa_nil))) (fun _ _ => rfl)))
  (pss_cons (ps_asg (pe_call (ok_law_spoilt T) (hr.mono (by decide)) rfl T.m_law_spoilt T.F_law_spoilt.kp T.b_law_spoilt .nil pass0 (pa_cons (pv 0) (pa_cons (pv 3) (pa_cons (pv 2) pa_nil)))) (pg_tup rfl (pgs_cons (pg_name (i := 6) sc_law_refusals.nd rfl (by first | exact Or.inl rfl | exact Or.inr rfl)) (pgs_cons (pg_name (i := 7) sc_law_refusals.nd rfl (by first | exact Or.inl rfl | exact Or.inr rfl)) pgs_nil))))
  (pss_cons (ps_if (pt_cmpR (op_neD hr.units) (pe_call (ok_law_way_told T Y) (hr.mono (by decide)) rfl T.m_law_way_told T.F_law_way_told.kp T.b_law_way_told .nil pass0 (pa_cons (pv 1) (pa_cons (pv 5) (pa_cons (pv 6) (pa_cons (pv 4) pa_nil))))) (pe_tup (pa_cons pe_str pa_nil)) (nomark _)) (pss_one (ps_ret pe_bl))
    pss_nil)
  (pss_cons (ps_if (pt_cmpR (op_neD hr.units) (pe_call (ok_law_way_told T Y) (hr.mono (by decide)) rfl T.m_law_way_told T.F_law_way_told.kp T.b_law_way_told .nil pass0 (pa_cons (pv 1) (pa_cons pe_int (pa_cons (pv 6) (pa_cons (pe_lst (pa_cons (pv 2) pa_nil)) pa_nil))))) (pe_tup (pa_cons pe_str (pa_cons (pv 7) pa_nil))) (nomark _)) (pss_one (ps_ret pe_bl))
    pss_nil)
  (pss_cons (ps_asg (pe_call (ok_law_spoilt T) (hr.mono (by decide)) rfl T.m_law_spoilt T.F_law_spoilt.kp T.b_law_spoilt .nil pass0 (pa_cons (pv 0) (pa_cons (pv 4) (pa_cons (pv 2) pa_nil)))) (pg_tup rfl (pgs_cons (pg_name (i := 6) sc_law_refusals.nd rfl (by first | exact Or.inl rfl | exact Or.inr rfl)) (pgs_cons (pg_name (i := 7) sc_law_refusals.nd rfl (by first | exact Or.inl rfl | exact Or.inr rfl)) pgs_nil))))
  (pss_cons (ps_if (pt_cmpR (op_neD hr.units) (pe_call (ok_law_way_told T Y) (hr.mono (by decide)) rfl T.m_law_way_told T.F_law_way_told.kp T.b_law_way_told .nil pass0 (pa_cons (pv 1) (pa_cons pe_int (pa_cons (pv 3) (pa_cons (pv 6) pa_nil))))) (pe_tup (pa_cons pe_str (pa_cons (pv 7) pa_nil))) (nomark _)) (pss_one (ps_ret pe_bl))
    pss_nil)
  (pss_cons (ps_if (pt_cmpR (op_neD hr.units) (pe_call (ok_law_way_told T Y) (hr.mono (by decide)) rfl T.m_law_way_told T.F_law_way_told.kp T.b_law_way_told .nil pass0 (pa_cons (pv 1) (pa_cons pe_int (pa_cons pe_non (pa_cons (pv 6) pa_nil))))) (pe_tup (pa_cons pe_str (pa_cons (pe_un un_neg pe_int) pa_nil))) (nomark _)) (pss_one (ps_ret pe_bl))
    pss_nil)
  (pss_cons (ps_set (i := 8) sc_law_refusals.nd rfl (by first | exact Or.inl rfl | exact Or.inr rfl) (pe_make T.mk_Bare (ok_Bare_init T) (hr.mono (by decide)) rfl T.m_Bare T.b_Bare___init__ .nil passL (pa_cons (pe_lc (own := [("_law_place", 9)]) (g := gName 9) (tt := tYes) rfl sc_law_refusals.nd (pi_range1 (by rfl) T.z_range (pa_cons pe_int pa_nil)) (blkOk_by (own := [("_law_place", 9)]) (N := ["_law_hand_here", "_law_bare_here", "_law_many", "_law_first", "_law_last", "_law_odd_room", "_law_wrong", "_law_index", "_law_chain", "_law_place"]) (sc := defScope s_law_refusals) (by decide +kernel)) (fun _ _ _ _ _ => pg_name (i := 9) sc_law_refusals.nd rfl (Or.inl rfl)) (fun _ _ _ _ _ => pts_nil) (fun _ _ _ _ _ => (pe_ifExp (pt_cmpR op_gt (pv 9) pe_int (nomark _)) (pe_lst (pa_cons (pe_op op_sub (pv 9) pe_int) pa_nil)) (pe_lst pa_nil)))) (pa_cons pe_int pa_nil))))
  (pss_cons (ps_if (pt_cmpR (op_neD hr.units) (pe_call (ok_law_way_told T Y) (hr.mono (by decide)) rfl T.m_law_way_told T.F_law_way_told.kp T.b_law_way_told .nil pass0 (pa_cons (pv 8) (pa_cons pe_int (pa_cons (pe_lst (pa_cons pe_int pa_nil)) (pa_cons (pe_lst (pa_cons pe_int (pa_cons pe_int pa_nil))) pa_nil))))) (pe_tup (pa_cons pe_str (pa_cons pe_int pa_nil))) (nomark _)) (pss_one (ps_ret pe_bl))
    pss_nil)
  (pss_cons (ps_if (pt_cmpR (op_neD hr.units) (pe_call (ok_law_way_told T Y) (hr.mono (by decide)) rfl T.m_law_way_told T.F_law_way_told.kp T.b_law_way_told .nil pass0 (pa_cons (pv 8) (pa_cons pe_int (pa_cons (pe_lst (pa_cons pe_int pa_nil)) (pa_cons (pe_lst (pa_cons pe_int (pa_cons pe_int pa_nil))) pa_nil))))) (pe_tup (pa_cons pe_str pa_nil)) (nomark _)) (pss_one (ps_ret pe_bl))
    pss_nil)
  (pss_one (ps_ret (pe_call (ok_law_great_refused T B) (hr.mono (by decide)) rfl T.m_law_great_refused T.F_law_great_refused.kp T.b_law_great_refused .nil pass0 (pa_cons (pe_call (ok_law_take T) (hr.mono (by decide)) rfl T.m_law_take T.F_law_take.kp T.b_law_take .nil pass0 (pa_cons (pv 0) (pa_cons pe_int pa_nil))) (pa_cons (pv 8) pa_nil))))))))))))))), ?_⟩
    walk_at "sm"
    refine ⟨sz (by decide), fun p hp => ?_⟩
    have e1 := Evl.Ex.new (o := .lst [V.int 0, V.int 201, V.bl true, V.str "2", V.non, V.int (-1)]) hp
    have nph : p ≠ h := hh.lt hp
    obtain ⟨ys, hy⟩ := hand_lst hh
    refine tk (hh.go e1) (by decide) (by decide) fun r H1 r0 r1 f1 g1 => ?_
    have hp1 : H1 p = some (.lst [V.int 0, V.int 201, V.bl true, V.str "2", V.non, V.int (-1)]) := f1 _ _ nph upd_same
    obtain ⟨odd, ho, hpl, hbad⟩ : ∃ odd, atI [V.int 0, V.int 201, V.bl true, V.str "2", V.non, V.int (-1)] r = some odd ∧ (∀ H, PlainV H odd) ∧ wiB odd 1 200 = false := by
      rcases (show r = 0 ∨ r = 1 ∨ r = 2 ∨ r = 3 ∨ r = 4 ∨ r = 5 by omega) with rfl | rfl | rfl | rfl | rfl | rfl
      · exact ⟨_, rfl, fun _ => plain_int, rfl⟩
      · exact ⟨_, rfl, fun _ => plain_int, rfl⟩
      · exact ⟨_, rfl, fun _ => .inr (.inl ⟨_, rfl⟩), rfl⟩
      · exact ⟨_, rfl, fun _ => .inr (.inr (.inr (.inl ⟨_, rfl⟩))), rfl⟩
      · exact ⟨_, rfl, fun _ => .inl rfl, rfl⟩
      · exact ⟨_, rfl, fun _ => plain_int, rfl⟩
    refine ⟨p, _, _, odd, rfl, rfl, SqL.of hp1, ho, ?_⟩
    have fh1 : Fr h H H1 := fun b o nb hb => f1 b o nb (e1 b o hb)
    refine ⟨h, c, q1, l1, n, rfl, g1, fh1 _ _ n1 hq1, ho1, hn, n1, fun t v j H2 f2 g2 ht hpv j0 => ⟨t, rfl, _, SqT.of ht, rfl, _, _, rfl, _, _, rfl, rfl, ?_⟩⟩
    have fh2 := fh1.trans f2
    have B2 : BareAt a.c_Bare H2 x bs e := hB.frH fh2 hy
    have w200 : wiB (.int 200) 1 200 = true := by decide
    have w1 : wiB (.int 1) 1 200 = true := by decide
    have pl2 : PlAt H2 (.ref q2) bs.length (.inr l2) := ⟨q2, rfl, .inr (fh2 _ _ n2 hq2), by rw [hbl]; exact ho2⟩
    have pl1 : PlAt H2 (.ref q1) bs.length (.inr l1) := ⟨q1, rfl, .inr (fh2 _ _ n1 hq1), by rw [hbl]; exact ho1⟩
    rw [← hbl] at hpv
    refine ⟨x, odd, v, .ref q2, bs, e, .inl j, .inr l2, rfl, B2, hw, hpl _, hpv, pl2, fun u H3 e3 L3 => ⟨sz (by decide), fun t3 ht3 => ?_⟩⟩
    have e4 := Evl.Ex.new (o := .tup [V.str "BadRoom"]) ht3
    refine ne_same (d := Lw.room.D) (LwTo.pd (lw_room hbad) (L3.go e4)) (.tup (SqT.of upd_same) (.cons (.str _) .nil)) (Lw.shaped .room) ⟨false, rfl, iteN (by decide) ⟨sz (by decide), fun s4 hs4 => ?_⟩⟩
    have e5 := Evl.Ex.new (o := .lst [V.int (n : Nat)]) hs4
    have e25 := (e3.trans e4).trans e5
    have bn : isP bs.length (V.int (n : Nat)) = false := by
      rw [hbl]
      show (decide ((0 : Int) ≤ n) && decide ((n : Int) ≤ (n : Int) - 1)) = false
      rw [decide_eq_false (show ¬ (n : Int) ≤ (n : Int) - 1 by omega), Bool.and_false]
    refine ⟨x, .int 200, v, .ref s4, bs, e, .inl j, .inl 0, rfl, B2.go e25, hw, plain_int, hpv.go e25, .inr ⟨s4, [V.int (n : Nat)], [], V.int (n : Nat), [], rfl, .inr upd_same, (fun y hy => by rw [List.mem_singleton.mp hy]; exact plain_int), ⟨List.nodup_nil, fun _ h => nomatch h⟩, rfl, .inl bn, rfl⟩, fun u6 H6 e6 L6 => ⟨sz (by decide), fun t6 ht6 => ?_⟩⟩
    have e7 := Evl.Ex.new (o := .tup [V.str "BadPlaces", V.int j]) ht6
    have e27 := (e25.trans e6).trans e7
    refine ne_same (d := (Lw.pls j).D) (LwTo.pd (lw_pls w200) (L6.go e7)) (.tup (SqT.of upd_same) (.cons (.str _) (.cons (.int _) .nil))) (Lw.shaped (.pls j)) ⟨false, rfl, iteN (by decide) ?_⟩
    refine ⟨h, c, q2, l2, n, rfl, g2.go e27, e27 _ _ (fh2 _ _ n2 hq2), ho2, hn, n2, fun t v j H8 f8 g8 ht hpv j0 => ⟨t, rfl, _, SqT.of ht, rfl, _, _, rfl, _, _, rfl, rfl, ?_⟩⟩
    have fh8 : Fr h H H8 := fun b o nb hb => f8 b o nb (e27 _ _ (fh2 _ _ nb hb))
    have B8 : BareAt a.c_Bare H8 x bs e := hB.frH fh8 hy
    rw [← hbl] at hpv
    refine ⟨x, .int 1, .ref q1, v, bs, e, .inr l1, .inl j, rfl, B8, hw, plain_int, ⟨q1, rfl, .inr (fh8 _ _ n1 hq1), by rw [hbl]; exact ho1⟩, hpv, fun u9 H9 e9 L9 => ⟨sz (by decide), fun t9 ht9 => ?_⟩⟩
    have e10 := Evl.Ex.new (o := .tup [V.str "BadPlaces", V.int j]) ht9
    refine ne_same (d := (Lw.pls j).D) (LwTo.pd (lw_pls2 w1) (L9.go e10)) (.tup (SqT.of upd_same) (.cons (.str _) (.cons (.int _) .nil))) (Lw.shaped (.pls j)) ⟨false, rfl, iteN (by decide) ?_⟩
    have e8a := e9.trans e10
    refine ⟨x, .int 1, .non, v, bs, e, .inl (-1), .inl j, rfl, B8.go e8a, hw, plain_int, .inl ⟨rfl, .inl rfl, rfl⟩, hpv.go e8a, fun u11 H11 e11 L11 => ⟨sz (by decide), fun t11 ht11 => ?_⟩⟩
    have e12 := Evl.Ex.new (o := .tup [V.str "BadPlaces", V.int (-1)]) ht11
    refine ne_same (d := (Lw.pls (-1)).D) (LwTo.pd (lw_pls w1) (L11.go e12)) (.tup (SqT.of upd_same) (.cons (.str _) (.cons (.int _) .nil))) (Lw.shaped (.pls (-1))) ⟨false, rfl, iteN (by decide) ?_⟩
    have e8b := (e8a.trans e11).trans e12
    have T8 : Tabs TL H8 := Tabs.fr fh8 hy hT
    have g8b := g8.go e8b
    have T8b := LamX.Tabs.ext T8 e8b
    generalize upd H11 t11 (.tup [V.str "BadPlaces", V.int (-1)]) = HI at g8b T8b ⊢
    clear L11 L9 L6 L3
    refine ⟨by decide, by decide, lcg_range (lo := 0) (n := (9 : Int).toNat) (ivNn HI) (fun D hD => ⟨Evl.Ex.new hD, [], upd_same, .nil⟩) ?_ ?_⟩
    · rintro D i HX hD hi ⟨f1, xs, f2, f3⟩
      rw [show (0 : Int) + (i : Int) = ((i : Nat) : Int) by omega]
      have hi2 : i < 9 := hi
      have lx := paired_len f3
      rw [List.length_map, List.length_range] at lx
      have put : ∀ (q : Addr) (H' : Hp), Evl.Ex HX H' → HX q = none → H' q = some (.lst ((nI (nnF i)).map V.int)) → ∃ acc, H' D = some (.lst acc) ∧ acc.length < sizeLine ∧ ivNn HI D (i + 1) (upd H' D (.lst (acc ++ [V.ref q]))) := fun q H' e' hq0 hq => by
        have qD : q ≠ D := fun z => by rw [z, f2] at hq0; cases hq0
        refine ⟨xs, e' _ _ f2, by rw [sizeLine_eq]; omega, (f1.trans e').mut hD, _, upd_same, ?_⟩
        rw [List.range_succ, List.map_append]
        refine Paired.snoc ⟨q, rfl, qD, by rw [upd_ne qD]; exact hq⟩ (Paired.mapP f3 fun x b ⟨u, z1, z2, z3⟩ => ⟨u, z1, z2, by rw [upd_ne z2]; exact e' _ _ z3⟩)
      walk_at "sm"
      by_cases c : 0 < i
      · refine iteP (by exact_mod_cast c) ⟨sz (by decide), fun q hq => ?_⟩
        refine put q _ (Evl.Ex.new hq) hq ?_
        rw [upd_same]
        unfold nnF
        rw [if_neg (by omega)]
        show some (HO.lst [V.int ((i : Nat) - 1)]) = some (HO.lst [V.int ((i - 1 : Nat) : Int)])
        rw [show ((i : Nat) : Int) - 1 = ((i - 1 : Nat) : Int) by omega]
      · refine iteN (by exact_mod_cast c) ⟨sz (by decide), fun q hq => ?_⟩
        refine put q _ (Evl.Ex.new hq) hq ?_
        rw [upd_same]
        unfold nnF
        rw [if_pos (by omega)]
        rfl
    · rintro D HX hD ⟨f1, xs, f2, f3⟩ ch dx hx hdx ne
      refine bare_fin nn_ok ⟨xs, .inr f2, Paired.mapP f3 fun x b ⟨u, z1, _, z3⟩ => ⟨u, z1, .inr z3⟩⟩ hx hdx ne fun H12 e12 BC => ⟨rfl, ?_⟩
      have gI := g8b.go (f1.trans e12)
      have TI := LamX.Tabs.ext T8b (f1.trans e12)
      clear f3 f2 f1
      walk_at "sm"
      have ok3 : PlsOk ((List.range 9).map nnF).length [3] := ⟨by decide, by decide⟩
      have ok21 : PlsOk ((List.range 9).map nnF).length [2, 1] := ⟨by decide, by decide⟩
      have w9 : wiB (.int 9) 1 200 = true := by decide
      have w0 : wiB (.int 0) 1 200 = false := by decide
      refine ⟨sz (by decide), fun s1 h1 => ⟨sz (by decide), fun s2 h2 => ?_⟩⟩
      have s12 : s1 ≠ s2 := fun z => by rw [← z, upd_same] at h2; cases h2
      have e13 := (Evl.Ex.new (o := .lst [V.int 3]) h1).trans (Evl.Ex.new (o := .lst [V.int 2, V.int 1]) h2)
      refine ⟨ch, .int 9, .ref s1, .ref s2, _, 8, .inr [3], .inr [2, 1], rfl, BC.go e13, nn_ok, plain_int, ⟨s1, rfl, .inr (by rw [upd_ne s12, upd_same]; rfl), ok3⟩, ⟨s2, rfl, .inr upd_same, ok21⟩, fun u14 H14 e14 L14 => ⟨sz (by decide), fun t14 ht14 => ?_⟩⟩
      have e15 := Evl.Ex.new (o := .tup [V.str "TooMany", V.int 8]) ht14
      refine ne_same (d := Lw.many.D) (LwTo.pd (lw_many w9 (by decide)) (L14.go e15)) (.tup (SqT.of upd_same) (.cons (.str _) (.cons (.int _) .nil))) (Lw.shaped .many) ⟨false, rfl, iteN (by decide) ?_⟩
      have e1215 := (e13.trans e14).trans e15
      refine ⟨sz (by decide), fun s3 h3 => ⟨sz (by decide), fun s4 h4 => ?_⟩⟩
      have s34 : s3 ≠ s4 := fun z => by rw [← z, upd_same] at h4; cases h4
      have e16 := e1215.trans ((Evl.Ex.new (o := .lst [V.int 3]) h3).trans (Evl.Ex.new (o := .lst [V.int 2, V.int 1]) h4))
      refine ⟨ch, .int 0, .ref s3, .ref s4, _, 8, .inr [3], .inr [2, 1], rfl, BC.go e16, nn_ok, plain_int, ⟨s3, rfl, .inr (by rw [upd_ne s34, upd_same]; rfl), ok3⟩, ⟨s4, rfl, .inr upd_same, ok21⟩, fun u17 H17 e17 L17 => ⟨sz (by decide), fun t17 ht17 => ?_⟩⟩
      have e18 := Evl.Ex.new (o := .tup [V.str "BadRoom"]) ht17
      refine ne_same (d := Lw.room.D) (LwTo.pd (lw_room w0) (L17.go e18)) (.tup (SqT.of upd_same) (.cons (.str _) .nil)) (Lw.shaped .room) ⟨false, rfl, iteN (by decide) ?_⟩
      have e19 := (e16.trans e17).trans e18
      obtain ⟨yz, hyz⟩ := hand_lst (gI.go e19)
      refine tk (gI.go e19) (by decide) (by decide) fun r4 H20 r40 r41 f20 g20 => ?_
      obtain ⟨i4, rfl⟩ : ∃ i : Nat, r4 = i := ⟨r4.toNat, by omega⟩
      exact ⟨i4, ch, _, 8, rfl, (BC.go e19).frH f20 hyz, nn_ok, Tabs.fr f20 hyz (LamX.Tabs.ext TI e19), by decide, fun H' _ => k H'⟩
def spPr (a : Ad) (TL : List (Addr × Str)) : Sp := fun vs H Q _ => ∃ (p x : Addr) (ls : List Addr) (f : Nat → List Nat) (n e pr sh rd : Nat), vs = [.ref p, .int (e : Nat), .ref x] ∧ AfAt H p ls f ∧ ls.length = n ∧ n ≤ 8 ∧ BareAt a.c_Bare H x ((List.range n).map f) e ∧ WebOk ((List.range n).map f) e ∧ Tabs TL H ∧ Wprice ((List.range n).map f) e pr ∧ Wshown ((List.range n).map f) e sh ∧ Wready ((List.range n).map f) e rd ∧ pr = rd + 1 ∧ pr ≤ sh + 1 ∧ sh ≤ pr ∧ pr ≤ n ∧ ∀ H', ExtN H H' → Tabs TL H' → Q (.bl true) H'
theorem ok_law_prices (T : Txt K mg a) (B : Tb4 base mg a TL) : FnOk P w K mg base CX0 6 a.f_law_prices a.d_law_prices ["_law_befores", "_law_end", "_law_bare_here"] (spPr a TL) := by
  refine T.F_law_prices.ok sc_law_prices (fun vs H Q E h => ?_) (fun cdv A outer s H vs Q E hr h => ?_)
  · obtain ⟨_, _, _, _, _, _, _, _, _, rfl, _⟩ := h
    rfl
  · obtain ⟨p, x, ls, f, n, e, pr, sh, rd, rfl, ha, hl, hn, hB, hw, hT, hpr, hsh, hrd, m1, m2, m3, m4, k⟩ := h
    refine ⟨_, (pss_cons (ps_set (i := 3) sc_law_prices.nd rfl (by first | exact Or.inl rfl | exact Or.inr rfl) (pe_call (ok_law_price T) (hr.mono (by decide)) rfl T.m_law_price T.F_law_price.kp T.b_law_price .nil pass0 (pa_cons (pv 0) (pa_cons (pv 1) pa_nil))))
  (pss_cons (ps_set (i := 4) sc_law_prices.nd rfl (by first | exact Or.inl rfl | exact Or.inr rfl) (pe_call (ok_law_room_for T) (hr.mono (by decide)) rfl T.m_law_room_for T.F_law_room_for.kp T.b_law_room_for .nil pass0 (pa_cons (pv 0) (pa_cons (pe_ix ix_list (pe_call (ok_law_masks T) (hr.mono (by decide)) rfl T.m_law_masks T.F_law_masks.kp T.b_law_masks .nil pass0 (pa_cons (pv 0) pa_nil)) (pv 1) (fun _ _ => rfl)) pa_nil))))
  (pss_cons (ps_set (i := 5) sc_law_prices.nd rfl (by first | exact Or.inl rfl | exact Or.inr rfl) (pe_call (ok_law_room_for T) (hr.mono (by decide)) rfl T.m_law_room_for T.F_law_room_for.kp T.b_law_room_for .nil pass0 (pa_cons (pv 0) (pa_cons (pe_call (ok_law_two T) (hr.mono (by decide)) rfl T.m_law_two T.F_law_two.kp T.b_law_two .nil pass0 (pa_cons (pv 1) pa_nil)) pa_nil))))
  (pss_cons (ps_set (i := 6) sc_law_prices.nd rfl (by first | exact Or.inl rfl | exact Or.inr rfl) (pe_tup (pa_cons (pe_call (ok_priceT T B) (hr.mono (by decide)) rfl T.m_price_of T.F_price_of.kp T.b_price_of .nil passL (pa_cons (pv 2) pa_nil)) (pa_cons (pe_call (ok_readyT T B) (hr.mono (by decide)) rfl T.m_ready_price_of T.F_ready_price_of.kp T.b_ready_price_of .nil passL (pa_cons (pv 2) pa_nil)) (pa_cons (pe_call (ok_shownT T B) (hr.mono (by decide)) rfl T.m_shown_price_of T.F_shown_price_of.kp T.b_shown_price_of .nil passL (pa_cons (pv 2) pa_nil)) pa_nil)))))
  (pss_cons (ps_if (PW.pt (pw_or (pt_not (pt_val (pe_call (ok_law_places T) (hr.mono (by decide)) rfl T.m_law_places T.F_law_places.kp T.b_law_places .nil pass0 (pa_cons (pv 6) pa_nil)))) (pw_or1 (pt_cmpR (op_neD hr.units) (pv 6) (pe_tup (pa_cons (pv 3) (pa_cons (pv 4) (pa_cons (pv 5) pa_nil)))) (nomark _))))) (pss_one (ps_ret pe_bl))
    pss_nil)
  (pss_one (ps_ret (pe_and (pe_cmpR op_eq (pe_ix ix_tup (pv 6) pe_int (fun _ _ => rfl)) (pe_op op_add (pe_ix ix_tup (pv 6) pe_int (fun _ _ => rfl)) pe_int) (nomark _)) (pe_one (pe_chain3 op_le op_le op_le (pe_op op_sub (pe_ix ix_tup (pv 6) pe_int (fun _ _ => rfl)) pe_int) (pe_ix ix_tup (pv 6) pe_int (fun _ _ => rfl)) (pe_ix ix_tup (pv 6) pe_int (fun _ _ => rfl)) (pe_callB call_len_seq (by rfl) T.z_len (by decide +kernel) (pa_cons (pv 0) pa_nil)))))))))))), ?_⟩
    walk_at "sm"
    have bl : ((List.range n).map f).length = n := by rw [List.length_map, List.length_range]
    have hf := hf_of hw
    have el := hw.lt
    rw [bl] at el
    have rowe : row ((List.range n).map f) e = f e := row_rg el
    refine ⟨p, ls, f, n, e, pr, rfl, ha, hl, hn, el, hf, hpr, fun H1 f1 => ?_⟩
    refine ⟨p, ls, f, n, rfl, ha.go f1, hl, by omega, hf, fun M H2 f2 hM => ?_⟩
    refine ⟨M, _, _, _, rfl, rfl, SqL.of hM, atI_nat (at_nat (n := msk (f e)) (by rw [List.getElem?_map, List.getElem?_range el]; rfl)), ?_⟩
    have f12 := f1.trans f2
    obtain ⟨y1, y2, y3⟩ := ready_rf hw (by rw [bl]; exact hn) hrd
    rw [bl] at y1
    rw [rowe] at y2 y3
    refine ⟨p, ls, f, n, msk (f e), rd, rfl, ha.go f12, hl, hn, hf, y1, y2, y3, fun H3 f3 => ⟨e, rfl, by omega, ?_⟩⟩
    rw [show (2 : Int) ^ e = ((2 ^ e : Nat) : Int) by rw [Int.natCast_pow]; rfl]
    have f13 := f12.trans f3
    obtain ⟨z1, z2, z3⟩ := shown_rf hw (by rw [bl]; exact hn) hsh
    rw [bl] at z1
    refine ⟨p, ls, f, n, 2 ^ e, sh, rfl, ha.go f13, hl, hn, hf, z1, z2, z3, fun H4 f4 => ?_⟩
    have f14 := f13.trans f4
    refine ⟨x, _, e, rfl, hB.go f14, hw, LamX.Tabs.ext hT f14, fun h => absurd h (by rw [bl]; omega), fun _ pr' H5 n5 T5 w5 => ?_⟩
    obtain rfl := ls_uniq w5 hpr
    refine ⟨x, _, e, rfl, (hB.go f14).nx n5, hw, T5, fun h => absurd h (by rw [bl]; omega), fun _ rd' H6 n6 T6 w6 => ?_⟩
    obtain rfl := rd_uniq w6 hrd
    refine ⟨x, _, e, rfl, ((hB.go f14).nx n5).nx n6, hw, T6, fun h => absurd h (by rw [bl]; omega), fun _ sh' H7 n7 T7 w7 => ?_⟩
    obtain rfl := ls_uniq w7 hsh
    have n17 := (((ExtN.of f14).trans n5).trans n6).trans n7
    refine ⟨sz (by decide), fun t ht => ⟨t, _, rfl, upd_same, (by show 3 ≤ 1000; omega), (fun x hx => ?_), fun H8 e8 => ⟨true, rfl, iteF ⟨sz (by decide), fun t2 ht2 => ?_⟩⟩⟩⟩
    · rcases List.mem_cons.mp hx with rfl | hx
      · exact ⟨_, rfl⟩
      · rcases List.mem_cons.mp hx with rfl | hx
        · exact ⟨_, rfl⟩
        · rw [List.mem_singleton.mp hx]
          exact ⟨_, rfl⟩
    have e9 := Evl.Ex.new (o := .tup [V.int (pr' : Nat), V.int (rd' : Nat), V.int (sh' : Nat)]) ht2
    have h8 := e8 _ _ (show upd H7 t (.tup [V.int (pr' : Nat), V.int (rd' : Nat), V.int (sh' : Nat)]) t = some (.tup [V.int (pr' : Nat), V.int (rd' : Nat), V.int (sh' : Nat)]) from upd_same)
    have h9 := e9 _ _ h8
    have e79 := ((Evl.Ex.new ht).trans e8).trans e9
    refine ne_same (d := .tuple [.int (pr' : Nat), .int (rd' : Nat), .int (sh' : Nat)]) (.tup (SqT.of h9) (.cons (.int _) (.cons (.int _) (.cons (.int _) .nil)))) (.tup (SqT.of upd_same) (.cons (.int _) (.cons (.int _) (.cons (.int _) .nil)))) (shaped_of (lay_tup (n := 2) (mem_c (int_lay _) (mem_c (int_lay _) (mem_c (int_lay _) (fun d hd => nomatch hd))))) (by decide)) ⟨false, rfl, iteN (by decide) ?_⟩
    have i0 : atI [V.int (pr' : Nat), V.int (rd' : Nat), V.int (sh' : Nat)] 0 = some (.int (pr' : Nat)) := rfl
    have i1 : atI [V.int (pr' : Nat), V.int (rd' : Nat), V.int (sh' : Nat)] 1 = some (.int (rd' : Nat)) := rfl
    have i2 : atI [V.int (pr' : Nat), V.int (rd' : Nat), V.int (sh' : Nat)] 2 = some (.int (sh' : Nat)) := rfl
    refine ixt h9 i0 (ixt h9 i1 ⟨_, rfl, rfl, iteP (congrArg V.int (by omega)) ?_⟩)
    unfold tChain3
    walk_at "sm"
    refine ixt h9 i0 ⟨_, rfl, ixt h9 i2 ⟨_, rfl, iteP (by omega) (ixt h9 i0 ⟨_, rfl, _, rfl, iteP (by omega) ?_⟩)⟩⟩
    have ap : AfAt _ p ls f := AfAt.go e79 (AfAt.nx (((ExtN.of (Evl.Ex.refl _)).trans n5).trans (n6.trans n7)) (ha.go f14))
    refine ⟨_, .inl (SqL.of ap.1), _, rfl, ?_⟩
    rw [List.length_map, hl, decide_eq_true (by omega)]
    exact k _ (n17.trans (ExtN.of e79)) (LamX.Tabs.ext T7 e79)
end


/-! ### the standings listed -/
open LamX (CodeO TabS Tabs ExtN TabB)
/-- sorted of a list of couples: a number of places, the places -/
def rSortKD (K : PySem.W.Frag) : List V → Hp → VK → Prop := fun vs H Q => ∃ (a : Addr) (zs : List (Addr × Addr × List Nat)), vs = [.ref a] ∧ SqL K H a (zs.map fun z => .ref z.1) ∧ (∀ z ∈ zs, H z.1 = some (.tup [.int (z.2.2.length : Nat), .ref z.2.1]) ∧ H z.2.1 = some (.tup ((nI z.2.2).map V.int))) ∧
  ∀ (D : Addr) (zs' : List (Addr × Addr × List Nat)), H D = none → zs'.Perm zs → (zs'.map fun z => z.2.2).Pairwise (fun p q => kLe p q = true) → Q (.ref D) (upd H D (.lst (zs'.map fun z => .ref z.1)))
theorem vals_refs3 : ∀ {out : List Value} {zs : List (Addr × Addr × List Nat)}, PySem.W.EachIs (fun v x => v = Value.ref x.1) out zs → Vals (zs.map fun z => V.ref z.1) out
  | _, _, .nil => .nil
  | _, _, .cons h r => .cons (by rw [h]; rfl) (vals_refs3 r)
theorem each_refs3 : ∀ {zs : List (Addr × Addr × List Nat)} {its : List Value}, Vals (zs.map fun z => V.ref z.1) its → PySem.W.EachIs (fun v x => v = Value.ref x.1) its zs
  | [], _, r => by
    cases r
    exact .nil
  | z :: zs, _, r => by
    cases r with
    | cons r1 r2 => exact .cons r1 (each_refs3 r2)
theorem each_m {R R' : Value → Addr × Addr × List Nat → Prop} : ∀ {vs : List Value} {zs : List (Addr × Addr × List Nat)}, PySem.W.EachIs R vs zs → (∀ v z, z ∈ zs → R v z → R' v z) → PySem.W.EachIs R' vs zs
  | _, _, .nil, _ => .nil
  | _, _, .cons h r, k => .cons (k _ _ List.mem_cons_self h) (each_m r fun v z hz => k v z (List.mem_cons_of_mem _ hz))
theorem cr_sortedKD {X : Cx} (hu : X.A.units + 64 < cLine) : CallR X (.builtin "sorted") (rSortKD X.K) := by
  intro pins s σ H vs us Q I r h
  obtain ⟨a, zs, rfl, hs, hz, q⟩ := h
  obtain ⟨its, rv, pl, hzz⟩ := I.list hs
  rw [Vals.ref1 r]
  refine PySem.W.sorted_data (vs := its) (bs := zs) (R := fun v x => v = Value.ref x.1) (enc := fun x => kkey x.2.2) pl.isList (each_refs3 rv) ?_ ?_ ?_ (by rw [List.length_map] at hzz; exact hzz) ?_ ?_
  · refine each_m (each_refs3 rv) fun v z hzm e => ?_
    obtain ⟨k1, k2⟩ := hz z hzm
    obtain ⟨us1, ru1, ⟨o1, ho1, hc1, n1, hd1⟩, _⟩ := I.tuple (SqT.of k1)
    obtain ⟨us2, ru2, ⟨o2, ho2, hc2, n2, hd2⟩, _⟩ := I.tuple (SqT.of k2)
    refine ⟨[], ?_⟩
    rw [e]
    cases ru1 with
    | cons r1 r2 =>
      cases r2 with
      | cons r2 r3 =>
        cases r3 with
        | nil =>
          obtain ⟨t, rfl⟩ := r1
          cases r2
          exact Reads.tuple ho1 hc1 hd1 (ReadsAll.cons (as := []) (Reads.int _ _) (ReadsAll.cons (as := []) (Reads.tuple ho2 hc2 hd2 (reads_ints ru2)) .nil))
  · intro d hd d' hd'
    obtain ⟨z, _, rfl⟩ := List.mem_map.mp hd
    obtain ⟨z', _, rfl⟩ := List.mem_map.mp hd'
    exact alike_key _ _
  · refine .inl fun d hd => ?_
    obtain ⟨z, _, rfl⟩ := List.mem_map.mp hd
    exact ⟨_, _, rfl⟩
  · intro z hz'
    have dp : (kkey z.2.2).depth ≤ 2 := by
      have : PyData.depthAll (iD z.2.2) ≤ 0 := (lay_all (n := 0) fun d hd => by
        obtain ⟨x, _, rfl⟩ := List.mem_map.mp hd
        exact ⟨rfl, Nat.le_refl _⟩).2
      show max 0 (max (PyData.depthAll (iD z.2.2) + 1) 0) + 1 ≤ 2
      omega
    omega
  · intro out ol eo
    obtain ⟨ep, he'⟩ := PyProof.Rows.sortedAll_at s.heap its out.toArray
    have pm : (zs.mergeSort (PySem.W.dataLe false fun x => kkey x.2.2)).Perm zs := List.mergeSort_perm _ _
    refine ⟨V.ref (s.heap.objs.size + 1), upd H (s.heap.objs.size + 1) (HO.lst ((zs.mergeSort (PySem.W.dataLe false fun x => kkey x.2.2)).map fun z => V.ref z.1)), Inv.laid I (fun x x1 => PyProof.Rows.sortedAll_old) (Nat.le_succ s.heap.objs.size) ⟨?_, out, ep, vals_refs3 eo, he'⟩, rfl, q _ _ (HOk.fresh I.hok (Nat.le_succ s.heap.objs.size)) pm ?_⟩
    · rw [List.length_map, pm.length_eq]
      rw [List.length_map] at hzz
      exact hzz
    · have := PySem.W.sort_pairwise (le := PySem.W.dataLe false fun x : Addr × Addr × List Nat => kkey x.2.2) (PySem.W.sortLe_total (listOrd itemOrd) false fun b : Addr × Addr × List Nat => PySem.W.keyToks (kkey b.2.2)) zs
      exact List.pairwise_map.mpr this
section
variable {P : Program} {w : World} {K : PySem.W.Frag} {mg : Str → Option Value} {base : Heap} {a : Ad} {TL : List (Addr × Str)}
def spLi : Sp := fun vs H Q _ => ∃ (p : Addr) (ms : List Nat) (n : Nat), vs = [.ref p, .int (n : Nat)] ∧ H p = some (.lst ((nI ms).map V.int)) ∧ n ≤ 8 ∧ ms.length ≤ 1000 ∧ ∀ (D : Addr) (zs : List (Addr × List Nat)) (H' : Hp), Evl.Ex H H' → H' D = some (.tup ((zs.map Prod.fst).map V.ref)) → TsAt H' zs →
    (zs.map Prod.snd).Perm (ms.map (pcs n)) → (zs.map Prod.snd).Pairwise (fun p q => kLe p q = true) → Q (.ref D) H'
theorem ok_law_listed (T : Txt K mg a) : FnOk P w K mg base CX0 5 a.f_law_listed a.d_law_listed ["_law_masks_here", "_law_many"] spLi := by
  refine T.F_law_listed.ok sc_law_listed (fun vs H Q E h => ?_) (fun cdv A outer s H vs Q E hr h => ?_)
  · obtain ⟨_, _, _, rfl, _⟩ := h
    rfl
  · obtain ⟨p, ms, n, rfl, hp, hn, hl, k⟩ := h
    refine ⟨_, (pss_cons (ps_setLc (i := 2) (own := [("_law_mask", 3)]) (g := gName 3) (tt := tYes) rfl sc_law_listed.nd rfl rfl (sw_true rfl rfl rfl (by decide +kernel)) (pi_list (pv 0)) (blkOk_by (own := [("_law_mask", 3)]) (N := ["_law_masks_here", "_law_many", "_law_filled_here", "_law_mask", "_law_part", "_law_places_here"]) (sc := defScope s_law_listed) (by decide +kernel)) (fun _ _ _ _ _ => pg_name (i := 3) sc_law_listed.nd rfl (Or.inl rfl)) (fun _ _ _ _ _ => pts_nil) (fun _ _ _ _ _ => (pe_call (ok_law_filled T) (hr.mono (by decide)) rfl T.m_law_filled T.F_law_filled.kp T.b_law_filled .nil pass0 (pa_cons (pv 3) (pa_cons (pv 1) pa_nil)))))
  (pss_one (ps_ret (pe_callTy call_tuple_of (by rfl) T.z_tuple (by decide +kernel) (pa_cons (pe_lc (own := [("_law_part", 4)]) (g := gName 4) (tt := tYes) rfl sc_law_listed.nd (pi_list (pe_callB (cr_sortedKD hr.units) (by rfl) T.z_sorted (by decide +kernel) (pa_cons (pe_lc (own := [("_law_places_here", 5)]) (g := gName 5) (tt := tYes) rfl sc_law_listed.nd (pi_list (pv 2)) (blkOk_by (own := [("_law_places_here", 5)]) (N := ["_law_masks_here", "_law_many", "_law_filled_here", "_law_mask", "_law_part", "_law_places_here"]) (sc := defScope s_law_listed) (by decide +kernel)) (fun _ _ _ _ _ => pg_name (i := 5) sc_law_listed.nd rfl (Or.inl rfl)) (fun _ _ _ _ _ => pts_nil) (fun _ _ _ _ _ => (pe_tup (pa_cons (pe_callB call_len_seq_b (by rfl) T.z_len (by decide +kernel) (pa_cons (pv 5) pa_nil)) (pa_cons (pv 5) pa_nil))))) pa_nil))) (blkOk_by (own := [("_law_part", 4)]) (N := ["_law_masks_here", "_law_many", "_law_filled_here", "_law_mask", "_law_part", "_law_places_here"]) (sc := defScope s_law_listed) (by decide +kernel)) (fun _ _ _ _ _ => pg_name (i := 4) sc_law_listed.nd rfl (Or.inl rfl)) (fun _ _ _ _ _ => pts_nil) (fun _ _ _ _ _ => (pe_ix ix_tup_b (pv 4) pe_int (fun _ _ => rfl)))) pa_nil))))), ?_⟩
    walk_at "sm"
    refine ⟨⟨_, SqL.of hp⟩, lcg_list (K := K) (a := p) (xs := (nI ms).map V.int) (fun D j H' => Evl.Ex H H' ∧ ∃ zs : List (Addr × List Nat), H' D = some (.lst ((zs.map Prod.fst).map V.ref)) ∧ TsAt H' zs ∧ zs.map Prod.snd = (ms.take j).map (pcs n)) (fun D hD => ⟨Evl.Ex.new hD, [], upd_same, (fun _ h => nomatch h), rfl⟩) (fun D j HY hD hj h => SqL.of (h.1 _ _ hp)) ?_ ?_⟩
    · rintro D j y HY hD hj ⟨h1, zs, h2, h3, h4⟩
      obtain ⟨m, hm, rfl⟩ := nat_at hj
      have lz : zs.length ≤ 1000 := by
        have := congrArg List.length h4
        rw [List.length_map, List.length_map, List.length_take] at this
        omega
      walk_at "sm"
      refine ⟨n, m, rfl, by omega, fun q H4 f4 hq => ⟨_, f4 _ _ h2, by rw [List.length_map, List.length_map, sizeLine_eq]; omega, (h1.trans f4).mut hD, zs ++ [(q, pcs n m)], ?_, ?_, ?_⟩⟩
      · rw [upd_same, List.map_append, List.map_append]
        rfl
      · have hD4 := f4 _ _ h2
        intro z hz'
        have hz4 : H4 z.1 = some (.tup ((nI z.2).map V.int)) := by
          rcases List.mem_append.mp hz' with hz' | hz'
          · exact f4 _ _ (h3 z hz')
          · rw [List.mem_singleton.mp hz']
            exact hq
        rw [upd_ne (fun z1 => by rw [z1, hD4] at hz4; cases hz4)]
        exact hz4
      · rw [List.map_append, h4, List.take_succ, hm, Option.toList_some, List.map_append]
        rfl
    · rintro N HN hN ⟨h1, zs, h2, h3, h4⟩
      rw [nI_len, List.take_of_length_le (Nat.le_refl _)] at h4
      have lz : zs.length = ms.length := by
        have := congrArg List.length h4
        rw [List.length_map, List.length_map] at this
        exact this
      walk_at "sm"
      refine ⟨⟨_, SqL.of h2⟩, lcg_list (K := K) (a := N) (xs := (zs.map Prod.fst).map V.ref) (fun D j H' => Evl.Ex HN H' ∧ ∃ ws : List (Addr × Addr × List Nat), H' D = some (.lst (ws.map fun z => V.ref z.1)) ∧ (∀ z ∈ ws, H' z.1 = some (.tup [.int (z.2.2.length : Nat), .ref z.2.1])) ∧ ws.map Prod.snd = zs.take j) (fun D hD => ⟨Evl.Ex.new hD, [], upd_same, (fun _ h => nomatch h), rfl⟩) (fun D j HY hD hj h => SqL.of (h.1 _ _ h2)) ?_ ?_⟩
      · rintro D j y HY hD hj ⟨g1, ws, g2, g3, g4⟩
        obtain ⟨z, hz, rfl⟩ : ∃ z, zs[j]? = some z ∧ y = .ref z.1 := by
          rw [List.getElem?_map, List.getElem?_map] at hj
          cases e : zs[j]? with
          | none => rw [e] at hj; cases hj
          | some c => rw [e] at hj; exact ⟨c, rfl, (Option.some.inj hj).symm⟩
        have hzt := g1 _ _ (h3 z (List.mem_of_getElem? hz))
        have lw : ws.length ≤ 1000 := by
          have := congrArg List.length g4
          rw [List.length_map, List.length_take] at this
          omega
        walk_at "sm"
        refine ⟨_, .inr (SqT.of hzt), sz (by decide), fun t ht => ?_⟩
        rw [nI_len]
        have eT := Evl.Ex.new (o := .tup [V.int (z.2.length : Nat), V.ref z.1]) ht
        refine ⟨_, eT _ _ g2, by rw [List.length_map, sizeLine_eq]; omega, (g1.trans eT).mut hD, ws ++ [(t, z)], ?_, ?_, ?_⟩
        · rw [upd_same, List.map_append]
          rfl
        · have hD4 := eT _ _ g2
          intro u hu
          have hz4 : upd HY t (.tup [V.int (z.2.length : Nat), V.ref z.1]) u.1 = some (.tup [.int (u.2.2.length : Nat), .ref u.2.1]) := by
            rcases List.mem_append.mp hu with hu | hu
            · exact eT _ _ (g3 u hu)
            · rw [List.mem_singleton.mp hu]
              exact upd_same
          rw [upd_ne (fun z1 => by rw [z1, hD4] at hz4; cases hz4)]
          exact hz4
        · rw [List.map_append, g4, List.take_succ, hz, Option.toList_some]
          rfl
      · rintro M HM hM ⟨g1, ws, g2, g3, g4⟩
        rw [List.length_map, List.length_map, List.take_of_length_le (Nat.le_refl _)] at g4
        have h3M := h3.go g1
        refine ⟨M, ws, rfl, SqL.of g2, fun u hu => ⟨g3 u hu, ?_⟩, fun D ws' hD pm so => ?_⟩
        · exact h3M u.2 (by rw [← g4]; exact List.mem_map.mpr ⟨u, hu, rfl⟩)
        have pz : (ws'.map Prod.snd).Perm zs := by
          rw [← g4]
          exact pm.map _
        have eD := Evl.Ex.new (o := .lst (ws'.map fun z => V.ref z.1)) hD
        have hDD : upd HM D (.lst (ws'.map fun z => V.ref z.1)) D = some (.lst (ws'.map fun z => V.ref z.1)) := upd_same
        have g3' : ∀ u ∈ ws', upd HM D (.lst (ws'.map fun z => V.ref z.1)) u.1 = some (.tup [.int (u.2.2.length : Nat), .ref u.2.1]) := fun u hu => eD _ _ (g3 u (pm.mem_iff.mp hu))
        have eHD := (h1.trans g1).trans eD
        have h3D : TsAt (upd HM D (.lst (ws'.map fun z => V.ref z.1))) (ws'.map Prod.snd) := fun u hu => eD _ _ (h3M u (pz.mem_iff.mp hu))
        have lw : ws'.length ≤ 1000 := by
          have := pz.length_eq
          rw [List.length_map] at this
          omega
        generalize upd HM D (.lst (ws'.map fun z => V.ref z.1)) = HD at hDD g3' eHD h3D ⊢
        refine ⟨D, rfl, ⟨_, SqL.of hDD⟩, lcg_list (K := K) (a := D) (xs := ws'.map fun z => V.ref z.1) (fun L j H' => Evl.Ex HD H' ∧ H' L = some (.lst ((((ws'.take j).map Prod.snd).map Prod.fst).map V.ref))) (fun L hL => ⟨Evl.Ex.new hL, upd_same⟩) (fun L j HY hL hj h => SqL.of (h.1 _ _ hDD)) ?_ ?_⟩
        · rintro L j y HY hL hj ⟨k1, k2⟩
          obtain ⟨u, hu, rfl⟩ : ∃ u, ws'[j]? = some u ∧ y = .ref u.1 := by
            rw [List.getElem?_map] at hj
            cases e : ws'[j]? with
            | none => rw [e] at hj; cases hj
            | some c => rw [e] at hj; exact ⟨c, rfl, (Option.some.inj hj).symm⟩
          walk_at "sm"
          refine ixt (k1 _ _ (g3' u (List.mem_of_getElem? hu))) rfl ⟨_, k2, by rw [List.length_map, List.length_map, List.length_map, List.length_take, sizeLine_eq]; omega, k1.mut hL, ?_⟩
          rw [upd_same, List.take_succ, hu, Option.toList_some, List.map_append, List.map_append, List.map_append]
          rfl
        · rintro L HL hL ⟨k1, k2⟩
          rw [List.length_map, List.take_of_length_le (Nat.le_refl _)] at k2
          refine ⟨L, rfl, _, .inl ⟨SqL.of k2, fun l hl => k l (ws'.map Prod.snd) _ ((eHD.trans k1).trans (Evl.Ex.new hl)) upd_same ((h3D.go k1).go (Evl.Ex.new hl)) ?_ ?_⟩⟩
          · rw [← h4]
            exact pz.map _
          · rw [List.map_map]
            exact so
end


/-! ### the price, the shown price, the ready price -/
theorem rc_rank {bs : List (List Nat)} {rk : Nat → Nat} (h : ∀ p, ∀ x ∈ row bs p, rk x < rk p) {s q : Nat} (r : Rc bs 0 s q) : rk q < rk s := by
  induction r with
  | one h1 h2 _ => exact h _ _ (by rw [row_of h1]; exact h2)
  | more _ h1 h2 _ ih => exact Nat.lt_trans (h _ _ (by rw [row_of h1]; exact h2)) ih
/-- the end is no before -/
theorem no_after {bs : List (List Nat)} {e : Nat} (w : WebOk bs e) : ∀ p, e ∉ row bs p := fun p hp => by
  obtain ⟨rk, hrk⟩ := w.ac
  have h1 := hrk p e hp
  have hpl : p < bs.length := by
    refine Decidable.by_contra fun c => ?_
    have : row bs p = [] := by
      unfold row
      rw [List.getElem?_eq_none_iff.mpr (by omega)]
      rfl
    rw [this] at hp
    cases hp
  rcases w.rd p hpl with c | c
  · rw [c] at hp
    exact ns w e hp
  · have := rc_rank hrk c
    omega
def Ag (e m m' : Nat) : Prop := ∀ x, x ≠ e → m.testBit x = m'.testBit x
theorem ag_hld {bs : List (List Nat)} {e m m' p : Nat} (no : ∀ p, e ∉ row bs p) (h : Ag e m m') : hld bs m p = hld bs m' p := by
  rw [Bool.eq_iff_iff, hld_bit, hld_bit]
  constructor
  · intro k x hx
    rw [← h x (fun z => no p (z ▸ hx))]
    exact k x hx
  · intro k x hx
    rw [h x (fun z => no p (z ▸ hx))]
    exact k x hx
theorem ag_tg (e m : Nat) : Ag e m (tg m e) := fun x hx => by rw [tg_bit, decide_eq_false hx, Bool.xor_false]
theorem tg_comm (m p q : Nat) : tg (tg m p) q = tg (tg m q) p := Nat.eq_of_testBit_eq fun i => by
  rw [tg_bit, tg_bit, tg_bit, tg_bit, Bool.xor_assoc, Bool.xor_assoc, Bool.xor_comm (decide (i = p))]
/-- the end emptied -/
def clr (e m : Nat) : Nat := if m.testBit e = true then tg m e else m
theorem clr_bit (e m : Nat) : (clr e m).testBit e = false := by
  unfold clr
  split
  · next h => rw [tg_bit, h, decide_eq_true rfl]; rfl
  · next h => simpa using h
theorem ag_clr (e m : Nat) : Ag e m (clr e m) := by
  unfold clr
  split
  · exact ag_tg e m
  · exact fun _ _ => rfl
theorem ag_eq {e m m' : Nat} (h : Ag e m m') (k : m.testBit e = m'.testBit e) : m = m' := Nat.eq_of_testBit_eq fun i => by
  by_cases c : i = e
  · rw [c]; exact k
  · exact h i c
theorem clr_tg {e p m : Nat} (h : p ≠ e) : clr e (tg m p) = tg (clr e m) p := by
  refine ag_eq (e := e) (fun x hx => ?_) ?_
  · rw [← ag_clr e (tg m p) x hx, tg_bit, tg_bit, ag_clr e m x hx]
  · rw [clr_bit, tg_bit, clr_bit, decide_eq_false (fun z => h z.symm)]
    rfl
theorem clr_e (e m : Nat) : clr e (tg m e) = clr e m := by
  refine ag_eq (e := e) (fun x hx => ?_) ?_
  · rw [← ag_clr e (tg m e) x hx, ← ag_clr e m x hx, ag_tg e m x hx]
  · rw [clr_bit, clr_bit]
theorem clr_le {n e m : Nat} (he : e < n) : pc n (clr e m) ≤ pc n m := by
  unfold clr
  split
  · next h =>
    have := pc_dn h he
    omega
  · exact Nat.le_refl _
/-- a walk without the end's own moves -/
theorem wk_drop {bs : List (List Nat)} {e r : Nat} (he : e < bs.length) (no : ∀ p, e ∉ row bs p) : ∀ {ps : List Nat} {a b : Nat}, Wk bs r a ps b → ∃ qs, Wk bs r (clr e a) qs (clr e b) ∧ e ∉ qs
  | [], a, b, h => by
    have h : a = b := h
    exact ⟨[], by rw [h]; rfl, fun z => nomatch z⟩
  | p :: ps, a, b, ⟨h1, h2⟩ => by
    obtain ⟨qs, h3, h4⟩ := wk_drop he no h2
    by_cases c : p = e
    · subst c
      rw [clr_e] at h3
      exact ⟨qs, h3, h4⟩
    · obtain ⟨z1, z2, z3⟩ := mvs_mem.mp h1
      rw [clr_tg c] at h3
      refine ⟨p :: qs, ⟨mvs_mem.mpr ⟨z1, by rw [← ag_hld no (ag_clr e a)]; exact z2, ?_⟩, h3⟩, fun z => ?_⟩
      · rw [← clr_tg c]
        exact Nat.le_trans (clr_le he) z3
      · rcases List.mem_cons.mp z with z | z
        · exact c z.symm
        · exact h4 z
/-- a walk with the end filled all along -/
theorem wk_lift {bs : List (List Nat)} {e r : Nat} (he : e < bs.length) (no : ∀ p, e ∉ row bs p) : ∀ {ps : List Nat} {a b : Nat}, Wk bs r a ps b → a.testBit e = false → e ∉ ps → Wk bs (r + 1) (tg a e) ps (tg b e)
  | [], a, b, h, _, _ => by
    have h : a = b := h
    rw [h]
    rfl
  | p :: ps, a, b, ⟨h1, h2⟩, hb, hn => by
    obtain ⟨z1, z2, z3⟩ := mvs_mem.mp h1
    have c : p ≠ e := fun z => hn (z ▸ List.mem_cons_self)
    have hb2 : (tg a p).testBit e = false := by rw [tg_bit, hb, decide_eq_false (fun z => c z.symm)]; rfl
    have ih := wk_lift he no h2 hb2 (fun z => hn (List.mem_cons_of_mem _ z))
    rw [tg_comm] at ih
    refine ⟨mvs_mem.mpr ⟨z1, by rw [← ag_hld no (ag_tg e a)]; exact z2, ?_⟩, ih⟩
    rw [tg_comm, pc_up hb2 he]
    omega
/-- the same taken down -/
theorem wk_sink {bs : List (List Nat)} {e r : Nat} (he : e < bs.length) (no : ∀ p, e ∉ row bs p) : ∀ {ps : List Nat} {a b : Nat}, Wk bs (r + 1) a ps b → a.testBit e = true → e ∉ ps → Wk bs r (tg a e) ps (tg b e)
  | [], a, b, h, _, _ => by
    have h : a = b := h
    rw [h]
    rfl
  | p :: ps, a, b, ⟨h1, h2⟩, hb, hn => by
    obtain ⟨z1, z2, z3⟩ := mvs_mem.mp h1
    have c : p ≠ e := fun z => hn (z ▸ List.mem_cons_self)
    have hb2 : (tg a p).testBit e = true := by rw [tg_bit, hb, decide_eq_false (fun z => c z.symm)]; rfl
    have ih := wk_sink he no h2 hb2 (fun z => hn (List.mem_cons_of_mem _ z))
    rw [tg_comm] at ih
    refine ⟨mvs_mem.mpr ⟨z1, by rw [← ag_hld no (ag_tg e a)]; exact z2, ?_⟩, ih⟩
    have := pc_dn hb2 he
    rw [tg_comm]
    omega
theorem tg0 (e : Nat) : tg 0 e = 2 ^ e := by
  unfold tg
  exact Nat.zero_xor _
theorem last_split {e : Nat} : ∀ {ps : List Nat}, e ∈ ps → ∃ u v, ps = u ++ e :: v ∧ e ∉ v
  | p :: ps, h => by
    by_cases c : e ∈ ps
    · obtain ⟨u, v, h1, h2⟩ := last_split c
      exact ⟨p :: u, v, by rw [h1]; rfl, h2⟩
    · rcases List.mem_cons.mp h with h | h
      · exact ⟨[], ps, by rw [h]; rfl, c⟩
      · exact absurd h c
theorem hld_of0 {bs : List (List Nat)} {e m : Nat} (h : msk (row bs e) = 0) : hld bs m e = true := hld_msk.mp fun i hi => by
  rw [h, Nat.zero_testBit] at hi
  cases hi
/-- the price is one more than the ready price -/
theorem price_up {bs : List (List Nat)} {e pr rd : Nat} (w : WebOk bs e) (hp : Wprice bs e pr) (hr : Wready bs e rd) : pr ≤ rd + 1 := by
  have no := no_after w
  have he := w.lt
  have key : ∃ y, y ∈ (fin bs rd 0).map Prod.fst ∧ hld bs y e = true := by
    rcases hr with ⟨h1, rfl⟩ | ⟨_, h2⟩
    · refine ⟨0, ?_, hld_of0 h1⟩
      exact wk_key (ps := []) rfl
    · exact h2.yes
  obtain ⟨y, y1, y2⟩ := key
  obtain ⟨ps, wk⟩ := key_wk y1
  obtain ⟨qs, wq, hq⟩ := wk_drop he no wk
  have c0 : clr e 0 = 0 := by
    unfold clr
    rw [if_neg (by rw [zb]; exact Bool.false_ne_true)]
  rw [c0] at wq
  have pz : pc bs.length 0 ≤ rd := by rw [pc_zero]; exact Nat.zero_le _
  have wb := wq.back (ns w) pz
  have wl := wk_lift he no wb (clr_bit e y) (fun z => hq (List.mem_reverse.mp z))
  rw [tg0] at wl
  have st : e ∈ mvs bs (rd + 1) (clr e y) := mvs_mem.mpr ⟨he, by rw [← ag_hld no (ag_clr e y)]; exact y2, by
    rw [pc_up (clr_bit e y) he]
    have := wq.pcr pz
    omega⟩
  have full : Wk bs (rd + 1) 0 (qs ++ e :: qs.reverse) (2 ^ e) := (wq.mono (Nat.le_succ rd)).app ⟨st, wl⟩
  refine Decidable.by_contra fun c => ?_
  have := hp.no (rd + 1) (by omega) (by omega) _ (wk_key full)
  rw [decide_eq_true rfl] at this
  cases this
theorem price_dn {bs : List (List Nat)} {e pr rd : Nat} (w : WebOk bs e) (hp : Wprice bs e pr) (hr : Wready bs e rd) : rd + 1 ≤ pr := by
  have no := no_after w
  have he := w.lt
  have h1 := hp.one
  rcases hr with ⟨_, rfl⟩ | ⟨h0, hr⟩
  · exact h1
  obtain ⟨y, y1, y2⟩ := hp.yes
  rw [of_decide_eq_true y2] at y1
  obtain ⟨ps, wk⟩ := key_wk y1
  have hm : e ∈ ps := List.count_pos_iff.mp (by
    have := wk_bit wk e
    rw [zb, bit_pow, Bool.false_xor, decide_eq_true rfl] at this
    have := of_decide_eq_true this.symm
    omega)
  obtain ⟨u, v, rfl, hv⟩ := last_split hm
  obtain ⟨m, w1, w2⟩ := wk_split wk
  obtain ⟨hmv, w3⟩ := w2
  obtain ⟨z1, z2, z3⟩ := mvs_mem.mp hmv
  have tb : (tg m e).testBit e = true := by
    have := wk_bit w3 e
    rw [bit_pow, List.count_eq_zero.mpr hv, decide_eq_true rfl] at this
    simpa using this.symm
  have mb : m.testBit e = false := by
    rw [tg_bit, decide_eq_true rfl] at tb
    simpa using tb
  obtain ⟨q, rfl⟩ : ∃ q, pr = q + 1 := ⟨pr - 1, by omega⟩
  have ws := wk_sink he no w3 tb hv
  rw [tg_tg, ← tg0, tg_tg] at ws
  have pm : pc bs.length m ≤ q := by
    have := pc_up (n := bs.length) mb he
    omega
  have wb := ws.back (ns w) pm
  have mk := wk_key wb
  refine Decidable.by_contra fun c => ?_
  by_cases cq : q = 0
  · subst cq
    have := fin0 mk
    subst this
    apply h0
    refine Nat.eq_of_testBit_eq fun i => ?_
    rw [Nat.zero_testBit]
    cases t : (msk (row bs e)).testBit i with
    | false => rfl
    | true =>
      have := hld_msk.mpr z2 i t
      rw [Nat.zero_testBit] at this
      cases this
  · have := hr.no q (by omega) (by omega) m mk
    have : hld bs m e = false := this
    rw [z2] at this
    cases this
theorem price_ready {bs : List (List Nat)} {e pr rd : Nat} (w : WebOk bs e) (hp : Wprice bs e pr) (hr : Wready bs e rd) : pr = rd + 1 := Nat.le_antisymm (price_up w hp hr) (price_dn w hp hr)
theorem shown_le {bs : List (List Nat)} {e pr sh : Nat} (hp : Wprice bs e pr) (hs : Wshown bs e sh) : sh ≤ pr := by
  refine Decidable.by_contra fun c => ?_
  obtain ⟨y, y1, y2⟩ := hp.yes
  have h1 := hs.no pr (by omega) hp.one y y1
  have h2 : y.testBit e = false := h1
  rw [of_decide_eq_true y2, bit_pow, decide_eq_true rfl] at h2
  cases h2
theorem price_shown {bs : List (List Nat)} {e pr sh rd : Nat} (w : WebOk bs e) (hp : Wprice bs e pr) (hs : Wshown bs e sh) (hr : Wready bs e rd) : pr ≤ sh + 1 := by
  rw [price_ready w hp hr]
  rcases hr with ⟨_, rfl⟩ | ⟨_, hr⟩
  · omega
  refine Decidable.by_contra fun c => ?_
  obtain ⟨y, y1, y2⟩ := hs.yes
  obtain ⟨ps, wk⟩ := key_wk y1
  obtain ⟨y', h1, h2⟩ := ready_at wk y2
  have h3 := hr.no sh (by omega) hs.one y' h1
  have h4 : hld bs y' e = false := h3
  rw [h2] at h4
  cases h4
/-- a way there and a way back are as long -/
theorem lwy_back {bs : List (List Nat)} {r a b : Nat} (hw : ∀ q, q ∉ row bs q) (ha : a < 2 ^ bs.length) (hb : b < 2 ^ bs.length) {l : List Nat} (h : lwy bs r a b = some l) : ∃ l', lwy bs r b a = some l' ∧ l'.length = l.length := by
  have pb : pc bs.length b ≤ r := by
    unfold lwy at h
    split at h
    · next c => exact c
    · cases h
  have w1 := lwy_wk hw hb h
  have pa : pc bs.length a ≤ r := by
    unfold lwy at h
    rw [if_pos pb] at h
    obtain ⟨d, hd, _⟩ := Option.map_eq_some_iff.mp h
    exact fin_pc (fin_fi hb) pb hd
  obtain ⟨l', h1, h2⟩ := lwy_least hw ha pb (w1.back hw pa)
  rw [List.length_reverse] at h2
  have w2 := lwy_wk hw ha h1
  obtain ⟨l2, h3, h4⟩ := lwy_least hw hb pa (w2.back hw pb)
  rw [h] at h3
  cases h3
  rw [List.length_reverse] at h4
  exact ⟨l', h1, by omega⟩


/-! ### the law -/
open LamX (CodeO TabS Tabs ExtN TabB)
theorem call_list_of_b {X : Cx} {s : Shared} {H : Hp} {scope : Scope} {env : Env} {fp : List Addr} : CallR (X.blk s H scope env fp) (.type "list") (fun xs H Q => ∃ p ys, xs = [.ref p] ∧ (SqL X.K H p ys ∨ SqT X.K H p ys) ∧ ∀ l, H l = none → Q (.ref l) (upd H l (.lst ys))) := call_list_of
section
variable {P : Program} {w : World} {K : PySem.W.Frag} {mg : Str → Option Value} {base : Heap} {a : Ad} {TL : List (Addr × Str)}
def spLawT (K : PySem.W.Frag) (TL : List (Addr × Str)) : Sp := fun vs H Q _ => ∃ (s : Addr) (ns : List Int), vs = [.ref s] ∧ SqL K H s (ns.map V.int) ∧ ns.length ≤ 63 ∧ Tabs TL H ∧ ∀ H', Q (.bl true) H'
/-- what stands all along -/
structure L0 (a : Ad) (TL : List (Addr × Str)) (H : Hp) (h c lp x : Addr) (n : Nat) (ls : List Addr) (f : Nat → List Nat) (e : Nat) : Prop where
  hd : HandAt H h c
  af : AfAt H lp ls f
  nl : ls.length = n
  n1 : 1 ≤ n
  n8 : n ≤ 8
  ba : BareAt a.c_Bare H x ((List.range n).map f) e
  w : WebOk ((List.range n).map f) e
  tb : Tabs TL H
theorem L0.go {a : Ad} {H H' : Hp} {h c lp x : Addr} {n : Nat} {ls : List Addr} {f : Nat → List Nat} {e : Nat} (k : Evl.Ex H H') (l : L0 a TL H h c lp x n ls f e) : L0 a TL H' h c lp x n ls f e := ⟨l.hd.go k, l.af.go k, l.nl, l.n1, l.n8, l.ba.go k, l.w, LamX.Tabs.ext l.tb k⟩
theorem L0.nx {a : Ad} {H H' : Hp} {h c lp x : Addr} {n : Nat} {ls : List Addr} {f : Nat → List Nat} {e : Nat} (k : ExtN H H') (t : Tabs TL H') (l : L0 a TL H h c lp x n ls f e) : L0 a TL H' h c lp x n ls f e := ⟨l.hd.nx k, l.af.nx k, l.nl, l.n1, l.n8, l.ba.nx k, l.w, t⟩
theorem hand_int {H : Hp} {p c b : Addr} {l : List Nat} (hh : HandAt H p c) (h : H b = some (.lst ((nI l).map V.int))) : b ≠ p := fun z => by
  obtain ⟨cells, i, g, t, hp, _⟩ := hh
  rw [z, hp] at h
  have h := HO.lst.inj (Option.some.inj h)
  cases l with
  | nil => cases h
  | cons y l =>
    have := (List.cons.inj h).1
    cases this
theorem hand_refs {H : Hp} {p c b : Addr} {l : List Addr} (hh : HandAt H p c) (h : H b = some (.lst (l.map V.ref))) : b ≠ p := fun z => by
  obtain ⟨cells, i, g, t, hp, _⟩ := hh
  rw [z, hp] at h
  have h := HO.lst.inj (Option.some.inj h)
  cases l with
  | nil => cases h
  | cons y l =>
    cases l with
    | nil => cases (List.cons.inj h).2
    | cons y2 l =>
      have := (List.cons.inj (List.cons.inj h).2).1
      cases this
theorem hand_tup {H : Hp} {p c b : Addr} {xs : List V} (hh : HandAt H p c) (h : H b = some (.tup xs)) : b ≠ p := fun z => by
  obtain ⟨cells, i, g, t, hp, _⟩ := hh
  rw [z, hp] at h
  cases h
theorem L0.fr {a : Ad} {H H' : Hp} {h c lp x : Addr} {n : Nat} {ls : List Addr} {f : Nat → List Nat} {e : Nat} (k : Fr h H H') (hh : HandAt H' h c) (l : L0 a TL H h c lp x n ls f e) : L0 a TL H' h c lp x n ls f e := by
  obtain ⟨ys, hy⟩ := hand_lst l.hd
  exact ⟨hh, ⟨k _ _ (hand_refs l.hd l.af.1) l.af.1, l.af.2.1, l.af.2.2.1, fun q c' hc => k _ _ (hand_int l.hd (l.af.2.2.2 q c' hc)) (l.af.2.2.2 q c' hc)⟩, l.nl, l.n1, l.n8, l.ba.frH k hy, l.w, Tabs.fr k hy l.tb⟩
theorem nat_perm {ns : List Int} {l : List Nat} (h : ns.Perm (nI l)) : ∃ l', ns = nI l' ∧ l'.Perm l := by
  refine ⟨ns.map Int.toNat, ?_, ?_⟩
  · unfold nI
    rw [List.map_map]
    refine ((List.map_congr_left fun z hz => ?_).trans (List.map_id ns)).symm
    obtain ⟨m, _, rfl⟩ := List.mem_map.mp (h.mem_iff.mp hz)
    show (((m : Int).toNat : Nat) : Int) = (m : Int)
    rw [Int.toNat_natCast]
  · have := h.map Int.toNat
    unfold nI at this
    rw [List.map_map] at this
    refine this.trans ?_
    rw [show (Int.toNat ∘ fun x : Nat => (x : Int)) = id from funext fun x => Int.toNat_natCast x, List.map_id]
def M1 (a : Ad) (TL : List (Addr × Str)) (sc h c lp x : Addr) (n e r : Nat) (ls : List Addr) (f : Nat → List Nat) (σ : L2.St) (H : Hp) : Prop := ∃ v7 v8 v9 v10 v11 v12 v13 v14 v15 v16 v17, σ = [some (.ref sc), some (.ref h), some (.int (n : Nat)), some (.ref lp), some (.int (e : Nat)), some (.ref x), some (.int (r : Nat)), v7, v8, v9, v10, v11, v12, v13, v14, v15, v16, v17] ∧ L0 a TL H h c lp x n ls f e
def RcAt (H : Hp) (R : Addr) (bs : List (List Nat)) (r : Nat) : Prop := ∃ ks : List Nat, H R = some (.lst ((nI ks).map V.int)) ∧ ks.Perm ((fin bs r 0).map Prod.fst)
def M2 (a : Ad) (TL : List (Addr × Str)) (sc h c lp x R : Addr) (n e r : Nat) (ls : List Addr) (f : Nat → List Nat) (σ : L2.St) (H : Hp) : Prop := ∃ v8 v9 v10 v11 v12 v13 v14 v15 v16 v17, σ = [some (.ref sc), some (.ref h), some (.int (n : Nat)), some (.ref lp), some (.int (e : Nat)), some (.ref x), some (.int (r : Nat)), some (.ref R), v8, v9, v10, v11, v12, v13, v14, v15, v16, v17] ∧ L0 a TL H h c lp x n ls f e ∧ RcAt H R ((List.range n).map f) r
def ToAt (H : Hp) (D : Addr) (bs : List (List Nat)) (r : Nat) : Prop := ∃ zs : List (Addr × List Nat), H D = some (.tup ((zs.map Prod.fst).map V.ref)) ∧ TsAt H zs ∧ (zs.map Prod.snd).Perm (rchd bs r) ∧ (zs.map Prod.snd).Pairwise (fun p q => kLe p q = true)
def M3 (a : Ad) (TL : List (Addr × Str)) (sc h c lp x R : Addr) (n e r : Nat) (ls : List Addr) (f : Nat → List Nat) (σ : L2.St) (H : Hp) : Prop := ∃ D v9 v10 v11 v12 v13 v14 v15 v16 v17, σ = [some (.ref sc), some (.ref h), some (.int (n : Nat)), some (.ref lp), some (.int (e : Nat)), some (.ref x), some (.int (r : Nat)), some (.ref R), some (.ref D), v9, v10, v11, v12, v13, v14, v15, v16, v17] ∧ L0 a TL H h c lp x n ls f e ∧ RcAt H R ((List.range n).map f) r ∧ ToAt H D ((List.range n).map f) r
def M3b (a : Ad) (TL : List (Addr × Str)) (sc h c lp x R : Addr) (n e r : Nat) (ls : List Addr) (f : Nat → List Nat) (σ : L2.St) (H : Hp) : Prop := ∃ w8 v9 v10 v11 v12 v13 v14 v15 v16 v17, σ = [some (.ref sc), some (.ref h), some (.int (n : Nat)), some (.ref lp), some (.int (e : Nat)), some (.ref x), some (.int (r : Nat)), some (.ref R), w8, v9, v10, v11, v12, v13, v14, v15, v16, v17] ∧ L0 a TL H h c lp x n ls f e ∧ RcAt H R ((List.range n).map f) r
theorem RcAt.go {H H' : Hp} {R : Addr} {bs : List (List Nat)} {r : Nat} (k : Evl.Ex H H') (h : RcAt H R bs r) : RcAt H' R bs r := by
  obtain ⟨ks, h1, h2⟩ := h
  exact ⟨ks, k _ _ h1, h2⟩
theorem RcAt.nx {H H' : Hp} {R : Addr} {bs : List (List Nat)} {r : Nat} (k : ExtN H H') (h : RcAt H R bs r) : RcAt H' R bs r := by
  obtain ⟨ks, h1, h2⟩ := h
  exact ⟨ks, k _ _ h1 (fun _ z => nomatch z), h2⟩
theorem RcAt.fr {H H' : Hp} {R h c : Addr} {bs : List (List Nat)} {r : Nat} (k : Fr h H H') (hh : HandAt H h c) (q : RcAt H R bs r) : RcAt H' R bs r := by
  obtain ⟨ks, h1, h2⟩ := q
  exact ⟨ks, k _ _ (hand_int hh h1) h1, h2⟩
def tsD (l : List (List Nat)) : List PyData := l.map fun x => .tuple (iD x)
theorem dp_ts {K : PySem.W.Frag} {H : Hp} : ∀ {zs : List (Addr × List Nat)}, TsAt H zs → DpAll K H ((zs.map Prod.fst).map V.ref) (tsD (zs.map Prod.snd))
  | [], _ => .nil
  | z :: zs, h => .cons (.tup (SqT.of (h z List.mem_cons_self)) (dp_ints z.2)) (dp_ts fun u hu => h u (List.mem_cons_of_mem _ hu))
theorem tsD_sh (l : List (List Nat)) : SeqAt.shaped (.tuple (tsD l)) = true := shaped_of (lay_tup (n := 3) fun d hd => by
  obtain ⟨c, _, rfl⟩ := List.mem_map.mp hd
  obtain ⟨h1, h2⟩ := lay_tup (iD_lay c)
  exact ⟨h1, by omega⟩) (by decide)
/-- two rows of places -/
def TwAt (H : Hp) (W : V) (h : Addr) (n : Nat) (l1 l2 : List Nat) : Prop := ∃ t q1 q2, W = .ref t ∧ H t = some (.lst [.ref q1, .ref q2]) ∧ H q1 = some (.lst ((nI l1).map V.int)) ∧ H q2 = some (.lst ((nI l2).map V.int)) ∧ PlsOk n l1 ∧ PlsOk n l2
def M4 (a : Ad) (TL : List (Addr × Str)) (sc h c lp x R : Addr) (n e r : Nat) (ls : List Addr) (f : Nat → List Nat) (j : Nat) (σ : L2.St) (H : Hp) : Prop := ∃ w8 w9 v10 v11 v12 v13 v14 v15 v16 v17, σ = [some (.ref sc), some (.ref h), some (.int (n : Nat)), some (.ref lp), some (.int (e : Nat)), some (.ref x), some (.int (r : Nat)), some (.ref R), w8, some w9, v10, v11, v12, v13, v14, v15, v16, v17] ∧ L0 a TL H h c lp x n ls f e ∧ RcAt H R ((List.range n).map f) r ∧ (j = 0 ∨ ∃ l1 l2, TwAt H w9 h n l1 l2)
theorem lwy_le {bs : List (List Nat)} {r a b : Nat} {l : List Nat} (hn : bs.length ≤ 8) (h : lwy bs r a b = some l) : l.length ≤ 256 := by
  unfold lwy at h
  split at h
  · obtain ⟨d, hd, rfl⟩ := Option.map_eq_some_iff.mp h
    rw [wyF_len]
    exact dst_le hn hd
  · cases h
theorem rc_lt {bs : List (List Nat)} {r m : Nat} (h : m ∈ (fin bs r 0).map Prod.fst) : m < 2 ^ bs.length := by
  obtain ⟨e, he, rfl⟩ := List.mem_map.mp h
  exact (rn_qi (room := r) (Nat.two_pow_pos _) _).lt _ he
theorem msk_perm {l m : List Nat} (h : l.Perm m) : msk l = msk m := Nat.eq_of_testBit_eq fun i => by
  rw [msk_bit, msk_bit]
  exact decide_eq_decide.mpr h.mem_iff
theorem pls_perm {n m : Nat} {l : List Nat} (h : l.Perm (pcs n m)) : PlsOk n l := ⟨(h.nodup_iff).mpr (pcs_nd n m), fun x hx => (pcs_mem.mp (h.mem_iff.mp hx)).1⟩
theorem lw_go {bs : List (List Nat)} {r m1 m2 : Nat} {l1 l2 : List Nat} (hn : bs.length ≤ 8) (r1 : 1 ≤ r) (r2 : r ≤ 200) (e1 : msk l1 = m1) (e2 : msk l2 = m2) : lwR bs (.int (r : Nat)) (.inr l1) (.inr l2) = lwO (lwy bs r m1 m2) := by
  have : wiB (.int (r : Nat)) 1 200 = true := by
    show (decide ((1 : Int) ≤ r) && decide ((r : Int) ≤ 200)) = true
    rw [decide_eq_true (by omega), decide_eq_true (by omega)]
    rfl
  unfold lwR
  rw [if_pos this]
  show (if 8 < bs.length then Lw.many else lwO (lwy bs (ivN (.int (r : Nat))) (msk l1) (msk l2))) = _
  rw [if_neg (by omega), e1, e2]
  rfl
def MkAt (HX : Hp) (h c D n i : Nat) (H' : Hp) : Prop := Fr h HX H' ∧ HandAt H' h c ∧ ∃ ms : List Nat, H' D = some (.lst ((nI ms).map V.int)) ∧ ms.length = i ∧ ∀ m ∈ ms, m < 2 ^ n
def QsAt (HX : Hp) (h c D n : Nat) (ms : List Nat) (H' : Hp) : Prop := Fr h HX H' ∧ HandAt H' h c ∧ ∃ qs : List (Addr × List Nat), H' D = some (.lst ((qs.map Prod.fst).map V.ref)) ∧ (∀ z ∈ qs, H' z.1 = some (.lst ((nI z.2).map V.int))) ∧ Paired (fun z m => z.2.Perm (pcs n m)) qs ms
theorem ok_law (T : Txt K mg a) (Y : Txw K mg a) (B : Tb4 base mg a TL) : FnOk P w K mg base (L2.CX P w) 8 a.f_law a.d_law ["_law_script"] (spLawT K TL) := by
  refine T.F_law.okX sc_law (fun vs H Q E h => ?_) (fun cdv A outer s H vs Q E hr h => ?_)
  · obtain ⟨_, _, rfl, _⟩ := h
    rfl
  · obtain ⟨sc, ns, rfl, hs, hl, hT, k⟩ := h
    refine ⟨_, (pss_cons (ps_set (i := 1) sc_law.nd rfl (by first | exact Or.inl rfl | exact Or.inr rfl) (pe_call (ok_law_hand T) (hr.mono (by decide)) rfl T.m_law_hand T.F_law_hand.kp T.b_law_hand .nil pass0 (pa_cons (pv 0) pa_nil)))
  (pss_cons (ps_set (i := 2) sc_law.nd rfl (by first | exact Or.inl rfl | exact Or.inr rfl) (pe_call (ok_law_small_size T) (hr.mono (by decide)) rfl T.m_law_small_size T.F_law_small_size.kp T.b_law_small_size .nil pass0 (pa_cons (pv 1) pa_nil)))
  (pss_cons (ps_asg (pe_call (ok_law_any_bare T) (hr.mono (by decide)) rfl T.m_law_any_bare T.F_law_any_bare.kp T.b_law_any_bare .nil pass0 (pa_cons (pv 1) (pa_cons (pv 2) pa_nil))) (pg_tup rfl (pgs_cons (pg_name (i := 3) sc_law.nd rfl (by first | exact Or.inl rfl | exact Or.inr rfl)) (pgs_cons (pg_name (i := 4) sc_law.nd rfl (by first | exact Or.inl rfl | exact Or.inr rfl)) pgs_nil))))
  (pss_cons (ps_set (i := 5) sc_law.nd rfl (by first | exact Or.inl rfl | exact Or.inr rfl) (pe_make T.mk_Bare (ok_Bare_init T) (hr.mono (by decide)) rfl T.m_Bare T.b_Bare___init__ .nil (passes_call (takes_of rfl rfl rfl rfl) (fun _ _ _ _ q => q)) (pa_cons (pe_call (ok_law_copied T) (hr.mono (by decide)) rfl T.m_law_copied T.F_law_copied.kp T.b_law_copied .nil pass0 (pa_cons (pv 3) pa_nil)) (pa_cons (pv 4) pa_nil))))
  (pss_cons (ps_set (i := 6) sc_law.nd rfl (by first | exact Or.inl rfl | exact Or.inr rfl) (pe_op op_add pe_int (pe_call (ok_law_take T) (hr.mono (by decide)) rfl T.m_law_take T.F_law_take.kp T.b_law_take .nil pass0 (pa_cons (pv 1) (pa_cons (pv 2) pa_nil)))))
  (Evl.pss_cut (ps_set (i := 7) sc_law.nd rfl (by first | exact Or.inl rfl | exact Or.inr rfl) (pe_callB cr_sortedI (by rfl) T.z_sorted (by decide +kernel) (pa_cons (pe_callTy (call_listD rfl) (by rfl) T.z_list (by decide +kernel) (pa_cons (pe_call (ok_law_reach T) (hr.mono (by decide)) rfl T.m_law_reach T.F_law_reach.kp T.b_law_reach .nil pass0 (pa_cons (pv 3) (pa_cons (pv 6) (pa_cons pe_int pa_nil)))) pa_nil)) pa_nil)))
  (Evl.pss_cut (ps_set (i := 8) sc_law.nd rfl (by first | exact Or.inl rfl | exact Or.inr rfl) (pe_call (ok_reachedT T B) (hr.mono (by decide)) rfl T.m_reached_standings T.F_reached_standings.kp T.b_reached_standings .nil passL (pa_cons (pv 5) (pa_cons (pv 6) pa_nil))))
  (Evl.pss_cut (ps_if (PW.pt (pw_or (pt_cmpR (op_neD hr.units) (pv 8) (pe_call (ok_law_listed T) (hr.mono (by decide)) rfl T.m_law_listed T.F_law_listed.kp T.b_law_listed .nil pass0 (pa_cons (pv 7) (pa_cons (pv 2) pa_nil))) (nomark _)) (pw_or1 (pt_not (pt_val (pe_callB (cr_all rfl) (by rfl) T.z_all (by decide +kernel) (pa_cons (pe_lc (own := [("_law_standing", 15)]) (g := gName 15) (tt := tYes) rfl sc_law.nd (pi_tup (pv 8)) (blkOk_by (own := [("_law_standing", 15)]) (N := ["_law_script", "_law_hand_here", "_law_many", "_law_befores", "_law_end", "_law_bare_here", "_law_room", "_law_reached", "_law_told", "_law_places_here", "_law_turn", "_law_masks_here", "_law_due", "_law_way", "_law_back", "_law_standing", "_law_k", "_law_mask"]) (sc := defScope s_law) (by decide +kernel)) (fun _ _ _ _ _ => pg_name (i := 15) sc_law.nd rfl (Or.inl rfl)) (fun _ _ _ _ _ => pts_nil) (fun _ _ _ _ _ => (pe_call (ok_law_places T) (hr.mono (by decide)) rfl T.m_law_places T.F_law_places.kp T.b_law_places .nil pass0 (pa_cons (pv 15) pa_nil)))) pa_nil))))))) (pss_one (ps_ret pe_bl))
    pss_nil)
  (pss_cons (ps_set (i := 9) sc_law.nd rfl (by first | exact Or.inl rfl | exact Or.inr rfl) (pe_lst pa_nil))
  (Evl.pss_cut (ps_for (passes_of rfl) rfl (pi_range1 (by rfl) T.z_range (pa_cons pe_int pa_nil)) (pg_name (i := 10) sc_law.nd rfl (by first | exact Or.inl rfl | exact Or.inr rfl)) (pss_cons (ps_setLc (i := 11) (own := [("_law_k", 16)]) (g := gName 16) (tt := tYes) rfl sc_law.nd rfl rfl (sw_true rfl rfl rfl (by decide +kernel)) (pi_range1 (by rfl) T.z_range (pa_cons pe_int pa_nil)) (blkOk_by (own := [("_law_k", 16)]) (N := ["_law_script", "_law_hand_here", "_law_many", "_law_befores", "_law_end", "_law_bare_here", "_law_room", "_law_reached", "_law_told", "_law_places_here", "_law_turn", "_law_masks_here", "_law_due", "_law_way", "_law_back", "_law_standing", "_law_k", "_law_mask"]) (sc := defScope s_law) (by decide +kernel)) (fun _ _ _ _ _ => pg_name (i := 16) sc_law.nd rfl (Or.inl rfl)) (fun _ _ _ _ _ => pts_nil) (fun _ _ _ _ _ => (pe_ifExp (pt_cmpR op_gt (pe_call (ok_law_take T) (hr.mono (by decide)) rfl T.m_law_take T.F_law_take.kp T.b_law_take .nil pass0 (pa_cons (pv 1) (pa_cons pe_int pa_nil))) pe_int (nomark _)) (pe_ix ix_list_b (pv 7) (pe_call (ok_law_take T) (hr.mono (by decide)) rfl T.m_law_take T.F_law_take.kp T.b_law_take .nil pass0 (pa_cons (pv 1) (pa_cons (pe_callB call_len_seq_b (by rfl) T.z_len (by decide +kernel) (pa_cons (pv 7) pa_nil)) pa_nil))) (fun _ _ => rfl)) (pe_call (ok_law_take T) (hr.mono (by decide)) rfl T.m_law_take T.F_law_take.kp T.b_law_take .nil pass0 (pa_cons (pv 1) (pa_cons (pe_call (ok_law_two T) (hr.mono (by decide)) rfl T.m_law_two T.F_law_two.kp T.b_law_two .nil pass0 (pa_cons (pv 2) pa_nil)) pa_nil))))))
  (pss_cons (ps_setLc (i := 9) (own := [("_law_mask", 17)]) (g := gName 17) (tt := tYes) rfl sc_law.nd rfl rfl (sw_true rfl rfl rfl (by decide +kernel)) (pi_list (pv 11)) (blkOk_by (own := [("_law_mask", 17)]) (N := ["_law_script", "_law_hand_here", "_law_many", "_law_befores", "_law_end", "_law_bare_here", "_law_room", "_law_reached", "_law_told", "_law_places_here", "_law_turn", "_law_masks_here", "_law_due", "_law_way", "_law_back", "_law_standing", "_law_k", "_law_mask"]) (sc := defScope s_law) (by decide +kernel)) (fun _ _ _ _ _ => pg_name (i := 17) sc_law.nd rfl (Or.inl rfl)) (fun _ _ _ _ _ => pts_nil) (fun _ _ _ _ _ => (pe_call (ok_law_shuffled T) (hr.mono (by decide)) rfl T.m_law_shuffled T.F_law_shuffled.kp T.b_law_shuffled .nil pass0 (pa_cons (pv 1) (pa_cons (pe_callTy call_list_of_b (by rfl) T.z_list (by decide +kernel) (pa_cons (pe_call (ok_law_filled T) (hr.mono (by decide)) rfl T.m_law_filled T.F_law_filled.kp T.b_law_filled .nil pass0 (pa_cons (pv 17) (pa_cons (pv 2) pa_nil))) pa_nil)) pa_nil)))))
  (pss_cons (ps_set (i := 12) sc_law.nd rfl (by first | exact Or.inl rfl | exact Or.inr rfl) (pe_call (ok_law_least_way T) (hr.mono (by decide)) rfl T.m_law_least_way T.F_law_least_way.kp T.b_law_least_way .nil pass0 (pa_cons (pv 3) (pa_cons (pv 6) (pa_cons (pe_ix ix_list (pv 11) pe_int (fun _ _ => rfl)) (pa_cons (pe_ix ix_list (pv 11) pe_int (fun _ _ => rfl)) pa_nil))))))
  (pss_cons (ps_set (i := 13) sc_law.nd rfl (by first | exact Or.inl rfl | exact Or.inr rfl) (pe_call (ok_law_way_told T Y) (hr.mono (by decide)) rfl T.m_law_way_told T.F_law_way_told.kp T.b_law_way_told .nil pass0 (pa_cons (pv 5) (pa_cons (pv 6) (pa_cons (pe_slice sl_list (pe_ix ix_list (pv 9) pe_int (fun _ _ => rfl)) po_none po_none) (pa_cons (pe_callTy call_tuple_of (by rfl) T.z_tuple (by decide +kernel) (pa_cons (pe_ix ix_list (pv 9) pe_int (fun _ _ => rfl)) pa_nil)) pa_nil))))))
  (pss_cons (ps_if (pt_cmpR (op_neD hr.units) (pv 13) (pe_ifExp (pt_cmpR op_isN (pv 12) pe_non (nomark _)) (pe_tup (pa_cons pe_str pa_nil)) (pe_tup (pa_cons pe_str (pa_cons (pv 12) pa_nil)))) (nomark _)) (pss_one (ps_ret pe_bl))
    pss_nil)
  (pss_cons (ps_set (i := 14) sc_law.nd rfl (by first | exact Or.inl rfl | exact Or.inr rfl) (pe_call (ok_law_way_told T Y) (hr.mono (by decide)) rfl T.m_law_way_told T.F_law_way_told.kp T.b_law_way_told .nil pass0 (pa_cons (pv 5) (pa_cons (pv 6) (pa_cons (pe_ix ix_list (pv 9) pe_int (fun _ _ => rfl)) (pa_cons (pe_ix ix_list (pv 9) pe_int (fun _ _ => rfl)) pa_nil))))))
  (pss_one (ps_if (pt_cmpR op_isN (pv 12) pe_non (nomark _)) (pss_one (ps_if (pt_cmpR (op_neD hr.units) (pv 14) (pe_tup (pa_cons pe_str pa_nil)) (nomark _)) (pss_one (ps_ret pe_bl))
    pss_nil))
    (pss_one (ps_if (PW.pt (pw_or (pt_cmpR (op_neD hr.units) (pv 14) (pe_tup (pa_cons pe_str (pa_cons (pe_call (ok_law_least_way T) (hr.mono (by decide)) rfl T.m_law_least_way T.F_law_least_way.kp T.b_law_least_way .nil pass0 (pa_cons (pv 3) (pa_cons (pv 6) (pa_cons (pe_ix ix_list (pv 11) pe_int (fun _ _ => rfl)) (pa_cons (pe_ix ix_list (pv 11) pe_int (fun _ _ => rfl)) pa_nil))))) pa_nil))) (nomark _)) (pw_or1 (pt_cmpR op_ne (pe_callB call_len_seq (by rfl) T.z_len (by decide +kernel) (pa_cons (pe_ix ix_tup (pv 14) pe_int (fun _ _ => rfl)) pa_nil)) (pe_callB call_len_seq (by rfl) T.z_len (by decide +kernel) (pa_cons (pv 12) pa_nil)) (nomark _))))) (pss_one (ps_ret pe_bl))
    (pss_one (ps_if (pt_not (pt_val (pe_call (ok_law_places T) (hr.mono (by decide)) rfl T.m_law_places T.F_law_places.kp T.b_law_places .nil pass0 (pa_cons (pe_ix ix_tup (pv 13) pe_int (fun _ _ => rfl)) pa_nil)))) (pss_one (ps_ret pe_bl))
    pss_nil)))))))))))))
  (Evl.pss_cut (ps_if (pt_not (pt_val (pe_call (ok_law_prices T B) (hr.mono (by decide)) rfl T.m_law_prices T.F_law_prices.kp T.b_law_prices .nil pass0 (pa_cons (pv 3) (pa_cons (pv 4) (pa_cons (pv 5) pa_nil)))))) (pss_one (ps_ret pe_bl))
    pss_nil)
  (pss_one (ps_ret (pe_call (ok_law_refusals T Y B) (hr.mono (by decide)) rfl T.m_law_refusals T.F_law_refusals.kp T.b_law_refusals .nil pass0 (pa_cons (pv 1) (pa_cons (pv 5) (pa_cons (pv 2) (pa_cons (pe_ix ix_list (pv 9) pe_int (fun _ _ => rfl)) (pa_cons (pe_ix ix_list (pv 9) pe_int (fun _ _ => rfl)) pa_nil))))))))))))))))))), ?_⟩
    walk_at "sm"
    refine ⟨sc, ns, rfl, hs, hl, fun h c H1 h0 e1 hh => ⟨h, c, rfl, hh, fun n H2 n1 n8 f2 g2 => ⟨h, c, n, rfl, g2, n1, n8, fun v bs e H3 f3 g3 ⟨t, lp, ls, f, hv, ht, haf, hls, hbs⟩ hw => ?_⟩⟩⟩
    subst hv
    subst hbs
    refine ⟨t, rfl, _, SqT.of ht, rfl, _, _, rfl, _, _, rfl, rfl, ?_⟩
    have bl : ((List.range n).map f).length = n := by rw [List.length_map, List.length_range]
    have hf := hf_of hw
    have T3 : Tabs TL H3 := by
      obtain ⟨ys, hy⟩ := hand_lst hh
      exact Tabs.fr (f2.trans f3) hy (LamX.Tabs.ext hT e1)
    have el := hw.lt
    rw [bl] at el
    refine ⟨lp, ls, f, n, rfl, haf, hls, by omega, fun q H4 f4 hq0 har x dx hx hdx hne => bare_fin hw har hx hdx hne fun H5 f5 hB => ⟨rfl, ?_⟩⟩
    have f45 := f4.trans f5
    have L5 : L0 a TL H5 h c lp x n ls f e := ⟨g3.go f45, haf.go f45, hls, n1, n8, hB, hw, LamX.Tabs.ext T3 f45⟩
    refine tk (g3.go f45) (by omega) (by omega) fun r H6 r0 r1 f6 g6 => ⟨_, rfl, ?_⟩
    obtain ⟨r, rfl⟩ : ∃ e : Nat, r = e := ⟨r.toNat, by omega⟩
    rw [show (1 : Int) + (r : Int) = ((1 + r : Nat) : Int) by omega]
    have L6 := L5.fr f6 g6
    have hr1 : 1 ≤ 1 + r := by omega
    have hrn : 1 + r ≤ n := by omega
    generalize 1 + r = r at hr1 hrn ⊢
    clear L5 f45 f4 f5 hB har T3 f6 g6 f3 f2
    refine ⟨fun σ' H' => ∃ R, M2 a TL sc h c lp x R n e r ls f σ' H', ?_, ?_⟩
    · walk_at "sm"
      refine ⟨lp, ls, f, n, r, 0, rfl, L6.af, hls, by omega, hf, Nat.two_pow_pos _, n8, fun d H7 f7 hd0 hd => ⟨d, rfl, _, Rd.of hd, fun p hp => ?_⟩⟩
      have ek : (kvQ Prod.snd (fin ((List.range n).map f) r 0)).map (fun kv => kV kv.1) = (nI ((fin ((List.range n).map f) r 0).map Prod.fst)).map V.int := by
        unfold kvQ
        rw [List.map_map, List.map_map, List.map_map]
        rfl
      rw [ek]
      refine ⟨p, _, rfl, SqL.of upd_same, fun ns' p2 pm so hp2 => ⟨p2, ?_⟩⟩
      obtain ⟨ks, rfl, pk⟩ := nat_perm pm
      exact ⟨_, _, _, _, _, _, _, _, _, _, rfl, L6.go ((f7.trans (Evl.Ex.new hp)).trans (Evl.Ex.new hp2)), ks, upd_same, pk⟩
    rintro σ HA ⟨R, v8, v9, v10, v11, v12, v13, v14, v15, v16, v17, rfl, LA, RA⟩
    refine ⟨M3 a TL sc h c lp x R n e r ls f, ?_, ?_⟩
    · walk_at "sm"
      refine ⟨x, .int r, _, e, rfl, LA.ba, LA.w, LA.tb, plain_int, (fun z => ?_), (fun _ z => absurd z (by rw [bl]; omega)), fun r' er _ _ _ D zs H' nx T' hD ts pm so => ?_⟩
      · have z : (decide ((1 : Int) ≤ r) && decide ((r : Int) ≤ 200)) = false := z
        rw [decide_eq_true (by omega), decide_eq_true (by omega)] at z
        cases z
      · have : r = r' := by
          have := V.int.inj er
          exact_mod_cast this
        subst this
        exact ⟨D, _, _, _, _, _, _, _, _, _, rfl, LA.nx nx T', RA.nx nx, zs, hD, ts, pm, so⟩
    rintro σ HB ⟨D, v9, v10, v11, v12, v13, v14, v15, v16, v17, rfl, LB, RB, DB⟩
    refine ⟨M3b a TL sc h c lp x R n e r ls f, ?_, ?_⟩
    · walk_at "sm"
      obtain ⟨ks, hR, pk⟩ := id RB
      obtain ⟨zs, hD, ts, pm, so⟩ := DB
      have lk : ks.length ≤ 1000 := by
        rw [pk.length_eq, List.length_map]
        have := rn_len (bs := (List.range n).map f) (room := r) (s := 0) (Nat.two_pow_pos _) (2 ^ ((List.range n).map f).length)
        have h2 : 2 ^ ((List.range n).map f).length ≤ 2 ^ 8 := Nat.pow_le_pow_right (by decide) (by rw [bl]; exact n8)
        unfold fin
        omega
      refine ⟨R, ks, n, rfl, hR, n8, lk, fun D2 zs2 H' f' hD2 ts2 pm2 so2 => ?_⟩
      have same : zs.map Prod.snd = zs2.map Prod.snd := by
        refine kSrt_uniq (pm.trans ?_) so so2
        refine List.Perm.trans ?_ pm2.symm
        show (((fin ((List.range n).map f) r 0).map Prod.fst).map (pcs ((List.range n).map f).length)).Perm (ks.map (pcs n))
        rw [bl]
        exact (pk.map _).symm
      have hD' := f' _ _ hD
      have ts' := ts.go f'
      refine ne_same (d := .tuple (tsD (zs.map Prod.snd))) (.tup (SqT.of hD') (dp_ts ts')) (by rw [same]; exact .tup (SqT.of hD2) (dp_ts ts2)) (tsD_sh _) ⟨false, rfl, iteN (by decide) ⟨⟨_, SqT.of hD'⟩, lcg_tup (K := K) (a := D) (xs := (zs.map Prod.fst).map V.ref) (fun L j H'' => Evl.Ex H' H'' ∧ H'' L = some (.lst ((List.replicate j true).map V.bl))) (fun L hL => ⟨Evl.Ex.new hL, upd_same⟩) (fun L j HY hL hj h => SqT.of (h.1 _ _ hD')) ?_ ?_⟩⟩
      · rintro L j y HY hL hj ⟨h1, h2⟩
        obtain ⟨z, hz, rfl⟩ : ∃ z, zs[j]? = some z ∧ y = .ref z.1 := by
          rw [List.getElem?_map, List.getElem?_map] at hj
          cases e : zs[j]? with
          | none => rw [e] at hj; cases hj
          | some c => rw [e] at hj; exact ⟨c, rfl, (Option.some.inj hj).symm⟩
        have jl := (List.getElem?_eq_some_iff.mp hz).1
        have lz : zs.length ≤ 1000 := by
          have := congrArg List.length same
          have h3 := pm2.length_eq
          rw [List.length_map, List.length_map] at this h3
          omega
        have zl : z.2.length ≤ 1000 := by
          have : z.2 ∈ zs.map Prod.snd := List.mem_map.mpr ⟨z, List.mem_of_getElem? hz, rfl⟩
          obtain ⟨m, _, hm⟩ := List.mem_map.mp (pm.mem_iff.mp this)
          rw [← hm]
          have := pcs_len ((List.range n).map f).length m
          omega
        walk_at "sm"
        refine ⟨_, (ts'.go h1) z (List.mem_of_getElem? hz), by rw [nI_len]; exact zl, ints_all, fun H3 f3 => ⟨_, f3 _ _ h2, by rw [List.length_map, List.length_replicate, sizeLine_eq]; omega, (h1.trans f3).mut hL, ?_⟩⟩
        rw [upd_same]
        show some (HO.lst ((List.replicate j true).map V.bl ++ [V.bl true])) = some (HO.lst ((List.replicate (j + 1) true).map V.bl))
        rw [List.replicate_succ', List.map_append]
        rfl
      · rintro L HL hL ⟨h1, h2⟩
        refine ⟨L, _, rfl, SqL.of h2, ?_⟩
        rw [List.all_replicate]
        refine ⟨true, by simp, iteF ?_⟩
        exact ⟨_, _, _, _, _, _, _, _, _, _, rfl, LB.go (f'.trans h1), RB.go (f'.trans h1)⟩
    rintro σ HC0 ⟨w8, v9, v10, v11, v12, v13, v14, v15, v16, v17, rfl, LC0, RC0⟩
    refine ⟨by decide, fun p0 hp0 => ?_⟩
    have hC := Evl.Ex.new (o := .lst []) hp0
    refine ⟨M4 a TL sc h c lp x R n e r ls f 3, ?_, ?_⟩
    · have LC := LC0.go hC
      have RC := RC0.go hC
      generalize upd HC0 p0 (.lst []) = HC at LC RC ⊢
      refine ⟨_, rfl, by decide, by decide, for_range (lo := 0) (n := (3 : Int).toNat) (fun j => M4 a TL sc h c lp x R n e r ls f j) ⟨_, _, _, _, _, _, _, _, _, _, rfl, LC, RC, .inl rfl⟩ ?_ ?_⟩
      · rintro i σ HX hi ⟨w8, w9, v10, v11, v12, v13, v14, v15, v16, v17, rfl, LX, RX, _⟩
        walk_at "sm"
        obtain ⟨ks, hR, pk⟩ := id RX
        have k0 : 0 < ks.length := by
          have : 0 ∈ (fin ((List.range n).map f) r 0).map Prod.fst := wk_key (ps := []) rfl
          exact List.length_pos_of_mem (pk.mem_iff.mpr this)
        have k256 : ks.length ≤ 256 := by
          rw [pk.length_eq, List.length_map]
          have := rn_len (bs := (List.range n).map f) (room := r) (s := 0) (Nat.two_pow_pos _) (2 ^ ((List.range n).map f).length)
          have h2 : 2 ^ ((List.range n).map f).length ≤ 2 ^ 8 := Nat.pow_le_pow_right (by decide) (by rw [bl]; exact n8)
          unfold fin
          omega
        have ksl : ∀ m ∈ ks, m < 2 ^ n := fun m hm => by
          have := rc_lt (pk.mem_iff.mp hm)
          rwa [bl] at this
        have n256 : 2 ^ n ≤ 256 := show 2 ^ n ≤ 2 ^ 8 from Nat.pow_le_pow_right (by decide) n8
        refine ⟨by decide, by decide, lcg_range (lo := 0) (n := (2 : Int).toNat) (fun D i H' => MkAt HX h c D n i H') (fun D hD => ?_) (fun D j HY hD hj hv => ?_) fun M HM hM hv => ?_⟩
        · obtain ⟨z1, z2, z3⟩ := hand_new (o := .lst []) (Fr.refl HX) LX.hd hD
          exact ⟨z1, z2, [], upd_same, rfl, fun _ h => nomatch h⟩
        · obtain ⟨y1, y2, ms, y3, y4, y5⟩ := hv
          have Dh : D ≠ h := LX.hd.lt hD
          have fin : ∀ (m : Nat) (H4 : Hp), m < 2 ^ n → Fr h HY H4 → HandAt H4 h c → ∃ acc, H4 D = some (.lst acc) ∧ acc.length < sizeLine ∧ MkAt HX h c D n (j + 1) (L2.upd H4 D (.lst (acc ++ [V.int (m : Nat)]))) := fun m H4 hm k1 k2 => by
            have hj2 : j < 2 := hj
            refine ⟨_, k1 _ _ Dh y3, by rw [nI_len, sizeLine_eq]; omega, (y1.trans k1).mut hD, k2.upd Dh (LX.hd.lc hD), ms ++ [m], ?_, ?_, ?_⟩
            · rw [upd_same, nI_snoc]
            · rw [List.length_append, y4]
              rfl
            · intro z hz
              rcases List.mem_append.mp hz with hz | hz
              · exact y5 z hz
              · rw [List.mem_singleton.mp hz]
                exact hm
          have hRY := y1 _ _ (hand_int LX.hd hR) hR
          walk_at "sm"
          refine tk y2 (by decide) (by decide) fun t2 H2 _ _ f2 g2 => ⟨_, rfl, ite2 (fun _ => ?_) fun _ => ?_⟩
          · have hR2 := f2 _ _ (hand_int y2 hRY) hRY
            refine ⟨_, .inl (SqL.of hR2), ?_⟩
            rw [nI_len]
            refine tk g2 (by omega) (by omega) fun t3 H3 t30 t31 f3 g3 => ?_
            obtain ⟨t3, rfl⟩ : ∃ e : Nat, t3 = e := ⟨t3.toNat, by omega⟩
            have t3l : t3 < ks.length := by omega
            exact ⟨R, _, _, _, rfl, rfl, SqL.of (f3 _ _ (hand_int g2 hR2) hR2), atI_nat (at_nat (List.getElem?_eq_getElem t3l)), fin _ H3 (ksl _ (List.getElem_mem t3l)) (f2.trans f3) g3⟩
          · refine ⟨n, rfl, by omega, ?_⟩
            rw [show (2 : Int) ^ n = ((2 ^ n : Nat) : Int) by rw [Int.natCast_pow]; rfl]
            refine tk g2 (by have := Nat.two_pow_pos n; omega) (by omega) fun t3 H3 t30 t31 f3 g3 => ?_
            obtain ⟨t3, rfl⟩ : ∃ e : Nat, t3 = e := ⟨t3.toNat, by omega⟩
            exact fin _ H3 (by omega) (f2.trans f3) g3
        · obtain ⟨y1, y2, ms, y3, y4, y5⟩ := hv
          have Mh := hand_int y2 y3
          walk_at "sm"
          refine ⟨⟨_, SqL.of y3⟩, lcg_list (K := K) (a := M) (xs := (nI ms).map V.int) (fun D j H' => QsAt HM h c D n (ms.take j) H') (fun D hD => ?_) (fun D j HY hD hj hv => SqL.of (hv.1 _ _ Mh y3)) ?_ ?_⟩
          · obtain ⟨z1, z2, z3⟩ := hand_new (o := .lst []) (Fr.refl HM) y2 hD
            exact ⟨z1, z2, [], upd_same, (fun _ h => nomatch h), .nil⟩
          · rintro D j y HY hD hj ⟨z1, z2, qs, z3, z4, z5⟩
            obtain ⟨m, hm, rfl⟩ := nat_at hj
            have Dh : D ≠ h := y2.lt hD
            have lq := paired_len z5
            rw [List.length_take, y4] at lq
            walk_at "sm"
            refine ⟨n, m, rfl, by omega, fun q H2 f2 hq => ⟨q, rfl, _, .inr (SqT.of hq), fun l hl => ?_⟩⟩
            have f3 := f2.trans (Evl.Ex.new (o := .lst ((nI (pcs n m)).map V.int)) hl)
            refine ⟨h, c, l, pcs n m, rfl, z2.go f3, upd_same, by have := pcs_len n m; omega, (z2.go f2).lt hl, fun D2 l' H3 f4 g4 hD0 hD2 pm => ?_⟩
            have hDu := f3 _ _ z3
            have nD : D2 ≠ D := fun z => by rw [z, hDu] at hD0; cases hD0
            have k1 : Fr h HY H3 := fun b o nb hb => f4 b o nb (f3 b o hb)
            have hD3 := k1 _ _ Dh z3
            refine ⟨_, hD3, by rw [List.length_map, List.length_map, sizeLine_eq]; show _ < 16777216; have : (2 : Int).toNat = 2 := rfl; omega, (z1.trans k1).mut hD, g4.upd Dh (y2.lc hD), qs ++ [(D2, l')], ?_, ?_, ?_⟩
            · rw [upd_same, List.map_append, List.map_append]
              rfl
            · intro z hz
              rcases List.mem_append.mp hz with hz | hz
              · have h3 := k1 _ _ (hand_int z2 (z4 z hz)) (z4 z hz)
                have ne : z.1 ≠ D := fun w => by
                  have h4 := z4 z hz
                  rw [w, z3] at h4
                  have h5 := HO.lst.inj (Option.some.inj h4)
                  generalize z.2 = zz at h5
                  cases qs with
                  | nil => cases hz
                  | cons u qs =>
                    cases zz with
                    | nil => cases h5
                    | cons m' ms' =>
                      have h6 : V.ref u.1 = V.int (m' : Nat) := (List.cons.inj h5).1
                      cases h6
                rw [upd_ne ne]
                exact h3
              · rw [List.mem_singleton.mp hz]
                rw [upd_ne nD]
                exact hD2
            · rw [List.take_succ, hm, Option.toList_some]
              exact Paired.snoc (x := (D2, l')) (y := m) pm z5
          · rintro W HN hW ⟨z1, z2, qs, z3, z4, z5⟩
            rw [nI_len, List.take_of_length_le (Nat.le_refl _)] at z5
            have LN : L0 a TL HN h c lp x n ls f e := LX.fr (y1.trans z1) z2
            have RN : RcAt HN R ((List.range n).map f) r := RX.fr (y1.trans z1) LX.hd
            have hM := z1 _ _ Mh y3
            obtain ⟨m1, m2, rfl⟩ : ∃ m1 m2, ms = [m1, m2] := by
              have y4 : ms.length = 2 := y4
              match ms, y4 with
              | [m1, m2], _ => exact ⟨m1, m2, rfl⟩
            obtain ⟨q1, l1, q2, l2, rfl, p1, p2⟩ : ∃ q1 l1 q2 l2, qs = [(q1, l1), (q2, l2)] ∧ l1.Perm (pcs n m1) ∧ l2.Perm (pcs n m2) := by
              cases z5 with
              | cons a1 z5 =>
                cases z5 with
                | cons a2 z5 =>
                  cases z5
                  exact ⟨_, _, _, _, rfl, a1, a2⟩
            have hW : HN W = some (.lst [V.ref q1, V.ref q2]) := z3
            have hM : HN M = some (.lst [V.int (m1 : Nat), V.int (m2 : Nat)]) := hM
            have hq1 : HN q1 = some (.lst ((nI l1).map V.int)) := z4 _ List.mem_cons_self
            have hq2 : HN q2 = some (.lst ((nI l2).map V.int)) := z4 _ (List.mem_cons_of_mem _ List.mem_cons_self)
            have m1l : m1 < 2 ^ n := y5 _ List.mem_cons_self
            have m2l : m2 < 2 ^ n := y5 _ (List.mem_cons_of_mem _ List.mem_cons_self)
            have pl1 : PlsOk ((List.range n).map f).length l1 := by rw [bl]; exact pls_perm p1
            have pl2 : PlsOk ((List.range n).map f).length l2 := by rw [bl]; exact pls_perm p2
            have k1 : msk l1 = m1 := by rw [msk_perm p1]; exact msk_pcs m1l
            have k2 : msk l2 = m2 := by rw [msk_perm p2]; exact msk_pcs m2l
            have m1b : m1 < 2 ^ ((List.range n).map f).length := by rw [bl]; exact m1l
            have m2b : m2 < 2 ^ ((List.range n).map f).length := by rw [bl]; exact m2l
            have bl8 : ((List.range n).map f).length ≤ 8 := by rw [bl]; exact n8
            have done : ∀ (H' : Hp) (w12 w13 w14 : V), Evl.Ex HN H' → M4 a TL sc h c lp x R n e r ls f (i + 1) [some (.ref sc), some (.ref h), some (.int (n : Nat)), some (.ref lp), some (.int (e : Nat)), some (.ref x), some (.int (r : Nat)), some (.ref R), w8, some (.ref W), some (.int (0 + (i : Int))), some (.ref M), some w12, some w13, some w14, v15, v16, v17] H' := fun H' w12 w13 w14 k => ⟨_, _, _, _, _, _, _, _, _, _, rfl, LN.go k, RN.go k, .inr ⟨l1, l2, W, q1, q2, rfl, k _ _ hW, k _ _ hq1, k _ _ hq2, by rw [← bl]; exact pl1, by rw [← bl]; exact pl2⟩⟩
            have nself := My.ns hw
            refine ⟨M, _, _, _, rfl, rfl, SqL.of hM, rfl, M, _, _, _, rfl, rfl, SqL.of hM, rfl, ?_⟩
            refine ⟨lp, ls, f, n, r, m1, m2, rfl, LN.af, hls, n8, hf, m1l, m2l, nself, fun due H2 f2 ow => ?_⟩
            refine ⟨W, _, _, _, rfl, rfl, SqL.of (f2 _ _ hW), rfl, q1, _, rfl, SqL.of (f2 _ _ hq1), fun s1 hs1 => ?_⟩
            rw [cutV_all]
            have f3 := f2.trans (Evl.Ex.new (o := .lst ((nI l1).map V.int)) hs1)
            have hs3 : L2.upd H2 s1 (.lst ((nI l1).map V.int)) s1 = some (.lst ((nI l1).map V.int)) := upd_same
            have ow3 := ow.go (Evl.Ex.new (o := .lst ((nI l1).map V.int)) hs1)
            generalize L2.upd H2 s1 (.lst ((nI l1).map V.int)) = H3 at f3 hs3 ow3 ⊢
            refine ⟨W, _, _, _, rfl, rfl, SqL.of (f3 _ _ hW), rfl, q2, rfl, _, .inl ⟨SqL.of (f3 _ _ hq2), fun t1 ht1 => ?_⟩⟩
            have e4 := Evl.Ex.new (o := .tup ((nI l2).map V.int)) ht1
            have f4 := f3.trans e4
            refine ⟨x, .int (r : Nat), .ref s1, .ref t1, _, e, .inr l1, .inr l2, rfl, LN.ba.go f4, hw, plain_int, ⟨s1, rfl, .inr (e4 _ _ hs3), pl1⟩, ⟨t1, rfl, .inl upd_same, pl2⟩, fun way H5 f5 wl => ?_⟩
            rw [lw_go bl8 hr1 (by omega) k1 k2] at wl
            have ow5 := ow3.go (e4.trans f5)
            have f15 := f4.trans f5
            cases hl : lwy ((List.range n).map f) r m1 m2 with
            | none =>
              rw [hl] at wl ow5
              have ow5 : due = .non := ow5
              have wl : LwTo H5 way .noway := wl
              subst ow5
              rw [if_pos rfl]
              refine ⟨sz (by decide), fun t2 ht2 => ?_⟩
              have e6 := Evl.Ex.new (o := .tup [V.str "NoWay"]) ht2
              have f6 := f15.trans e6
              refine ne_same (d := Lw.noway.D) (wl.go e6).dp (.tup (SqT.of upd_same) (.cons (.str _) .nil)) (Lw.shaped .noway) ⟨false, rfl, iteN (by decide) ⟨W, _, _, _, rfl, rfl, SqL.of (f6 _ _ hW), rfl, W, _, _, _, rfl, rfl, SqL.of (f6 _ _ hW), rfl, ?_⟩⟩
              refine ⟨x, .int (r : Nat), .ref q2, .ref q1, _, e, .inr l2, .inr l1, rfl, LN.ba.go f6, hw, plain_int, ⟨q2, rfl, .inr (f6 _ _ hq2), pl2⟩, ⟨q1, rfl, .inr (f6 _ _ hq1), pl1⟩, fun back H7 f7 bk => ?_⟩
              rw [lw_go bl8 hr1 (by omega) k2 k1] at bk
              have hb : lwy ((List.range n).map f) r m2 m1 = none := by
                cases hb : lwy ((List.range n).map f) r m2 m1 with
                | none => rfl
                | some l' =>
                  obtain ⟨l2', h1, _⟩ := lwy_back nself m2b m1b hb
                  rw [hl] at h1
                  cases h1
              rw [hb] at bk
              have bk : LwTo H7 back .noway := bk
              rw [if_pos rfl]
              refine ⟨sz (by decide), fun t3 ht3 => ?_⟩
              have e8 := Evl.Ex.new (o := .tup [V.str "NoWay"]) ht3
              exact ne_same (d := Lw.noway.D) (bk.go e8).dp (.tup (SqT.of upd_same) (.cons (.str _) .nil)) (Lw.shaped .noway) ⟨false, rfl, iteN (by decide) (done _ _ _ _ ((f6.trans f7).trans e8))⟩
            | some l =>
              rw [hl] at wl ow5
              obtain ⟨qd, rfl, hqd⟩ := ow5
              have wl : LwTo H5 way (.way l) := wl
              rw [if_neg (fun z => by cases z)]
              refine ⟨sz (by decide), fun t2 ht2 => ?_⟩
              have e6 := Evl.Ex.new (o := .tup [V.str "way", V.ref qd]) ht2
              have f6 := f15.trans e6
              refine ne_same (d := (Lw.way l).D) (wl.go e6).dp (.tup (SqT.of upd_same) (.cons (.str _) (.cons (.tup (SqT.of (e6 _ _ hqd)) (dp_ints l)) .nil))) (Lw.shaped (.way l)) ⟨false, rfl, iteN (by decide) ⟨W, _, _, _, rfl, rfl, SqL.of (f6 _ _ hW), rfl, W, _, _, _, rfl, rfl, SqL.of (f6 _ _ hW), rfl, ?_⟩⟩
              refine ⟨x, .int (r : Nat), .ref q2, .ref q1, _, e, .inr l2, .inr l1, rfl, LN.ba.go f6, hw, plain_int, ⟨q2, rfl, .inr (f6 _ _ hq2), pl2⟩, ⟨q1, rfl, .inr (f6 _ _ hq1), pl1⟩, fun back H7 f7 bk => ?_⟩
              rw [lw_go bl8 hr1 (by omega) k2 k1] at bk
              obtain ⟨l', hb, hlen⟩ := lwy_back nself m1b m2b hl
              rw [hb] at bk
              have bk : LwTo H7 back (.way l') := bk
              rw [if_neg (fun z => by cases z)]
              have f8 := f6.trans f7
              refine ⟨M, _, _, _, rfl, rfl, SqL.of (f8 _ _ hM), rfl, M, _, _, _, rfl, rfl, SqL.of (f8 _ _ hM), rfl, ?_⟩
              refine ⟨lp, ls, f, n, r, m2, m1, rfl, LN.af.go f8, hls, n8, hf, m2l, m1l, nself, fun d2 H9 f9 ow9 => ⟨sz (by decide), fun t9 ht9 => ?_⟩⟩
              rw [hb] at ow9
              obtain ⟨q9, rfl, hq9⟩ := ow9
              have e10 := Evl.Ex.new (o := .tup [V.str "way", V.ref q9]) ht9
              have f910 := f9.trans e10
              refine ne_same (d := (Lw.way l').D) (bk.go f910).dp (.tup (SqT.of upd_same) (.cons (.str _) (.cons (.tup (SqT.of (e10 _ _ hq9)) (dp_ints l')) .nil))) (Lw.shaped (.way l')) ⟨false, rfl, iteN (by decide) ?_⟩
              obtain ⟨tb, qb, rfl, htb, hqb⟩ := id bk
              obtain ⟨tw, qw, rfl, htw, hqw⟩ := wl
              have f510 := (e6.trans f7).trans f910
              refine ixt (f910 _ _ htb) rfl ⟨qb, rfl, _, .inr (SqT.of (f910 _ _ hqb)), qd, rfl, _, .inr (SqT.of (f510 _ _ hqd)), ?_⟩
              rw [nI_len, nI_len, hlen, decide_eq_true rfl]
              refine iteF (ixt (f510 _ _ htw) rfl ⟨qw, _, rfl, f510 _ _ hqw, by rw [nI_len]; have := lwy_le bl8 hl; omega, ints_all, fun H11 f11 => ⟨true, rfl, iteF (done _ _ _ _ ((f8.trans f910).trans f11))⟩⟩)
      · rintro σ HX h4
        exact h4
    rintro σ HD ⟨w8, w9, v10, v11, v12, v13, v14, v15, v16, v17, rfl, LD, RD, WD⟩
    obtain ⟨l1, l2, W, q1, q2, rfl, hW, hq1, hq2, pl1, pl2⟩ := WD.resolve_left (by decide)
    refine ⟨fun σ' H' => ∃ v10 v11 v12 v13 v14 v15 v16 v17, σ' = [some (.ref sc), some (.ref h), some (.int (n : Nat)), some (.ref lp), some (.int (e : Nat)), some (.ref x), some (.int (r : Nat)), some (.ref R), w8, some (.ref W), v10, v11, v12, v13, v14, v15, v16, v17] ∧ ExtN HD H' ∧ Tabs TL H', ?_, ?_⟩
    · walk_at "sm"
      obtain ⟨pr, hpr⟩ := ls_price hw
      obtain ⟨sh, hsh⟩ := ls_shown hw
      obtain ⟨rd, hrd⟩ : ∃ rd, Wready ((List.range n).map f) e rd := by
        by_cases c0 : msk (row ((List.range n).map f) e) = 0
        · exact ⟨0, .inl ⟨c0, rfl⟩⟩
        · obtain ⟨rd, h⟩ := ls_ready hw
          exact ⟨rd, .inr ⟨c0, h⟩⟩
      have prn : pr ≤ n := by rw [← bl]; exact hpr.le
      refine ⟨lp, x, ls, f, n, e, pr, sh, rd, rfl, LD.af, hls, n8, LD.ba, hw, LD.tb, hpr, hsh, hrd, price_ready hw hpr hrd, price_shown hw hpr hsh hrd, shown_le hpr hsh, prn, fun H' nx T' => ⟨true, rfl, iteF ?_⟩⟩
      exact ⟨nx, T'⟩
    · rintro σ HE ⟨v10, v11, v12, v13, v14, v15, v16, v17, rfl, nx, TE⟩
      walk_at "sm"
      have LE := LD.nx nx TE
      have gW := nx _ _ hW (fun _ z => nomatch z)
      have g1 := nx _ _ hq1 (fun _ z => nomatch z)
      have g2 := nx _ _ hq2 (fun _ z => nomatch z)
      refine ⟨W, _, _, _, rfl, rfl, SqL.of gW, rfl, W, _, _, _, rfl, rfl, SqL.of gW, rfl, ?_⟩
      exact ⟨h, c, x, q1, q2, _, e, n, l1, l2, rfl, LE.hd, LE.ba, hw, bl, n8, TE, g1, g2, pl1, pl2, hand_int LE.hd g1, hand_int LE.hd g2, k⟩
end


theorem exm_self {K : PySem.W.Frag} {S : Addr} (h1 : PySem.W.subIn K (.ref S) (.type "BaseException") = some true) (h2 : PySem.W.isClsIn K S = true) (h3 : PySem.W.typeIn K (.ref S) = some (.type "type")) (h4 : PySem.W.subIn K (.ref S) (.ref S) = some true) :
    PySem.W.exmOne K (.ref S) (.ref S) = some true := by
  have e1 : (PySem.W.subIn K (.ref S) (.type "BaseException") == some true) = true := by rw [h1] <;> rfl
  have e2 : ((PySem.W.clsIn K S).isSome && PySem.W.typeIn K (.ref S) == some (.type "type")) = true := by
    have h5 : (PySem.W.clsIn K S).isSome = true := h2
    rw [h5, h3] <;> rfl
  unfold PySem.W.exmOne
  rw [if_pos e1]
  show (if ((PySem.W.clsIn K S).isSome && PySem.W.typeIn K (.ref S) == some (.type "type")) = true then PySem.W.subIn K (.ref S) (.ref S) else none) = some true
  rw [if_pos e2]
  exact h4
/-- the items of a constant tuple, held against what they should be -/
def valB : V → Value → Bool
  | .int i, .int j _ => decide (i = j)
  | .str x, .str y _ => decide (x = y)
  | .non, .none => true
  | _, _ => false
theorem valB_ok : ∀ {x : V} {u : Value}, valB x u = true → RelV x u := by
  intro x u h
  unfold valB at h
  split at h
  · exact ⟨_, by rw [of_decide_eq_true h]⟩
  · exact ⟨_, by rw [of_decide_eq_true h]⟩
  · rfl
  · cases h
def valsB : List V → List Value → Bool
  | [], [] => true
  | x :: xs, u :: us => valB x u && valsB xs us
  | _, _ => false
theorem valsB_ok : ∀ {xs : List V} {us : List Value}, valsB xs us = true → Vals xs us
  | [], [], _ => .nil
  | [], _ :: _, h => by cases h
  | _ :: _, [], h => by cases h
  | x :: xs, u :: us, h => by
    have h' : (valB x u && valsB xs us) = true := h
    rw [Bool.and_eq_true] at h'
    exact .cons (valB_ok h'.1) (valsB_ok h'.2)
theorem sqT_mk {K : PySem.W.Frag} {H : Hp} {p : Addr} {d : Option Addr} {its : Array Value} {n : Nat} {sl : Array (Option Value)} {xs : List V} (l : K.lookup p = some ⟨.type "tuple", d, .seq its n, sl⟩) (v : valsB xs its.toList = true) (z : decide (its.size ≤ 1000) = true) : SqT K H p xs :=
  .inr ⟨_, its, n, l, rfl, rfl, Nat.le_trans (of_decide_eq_true z) (by decide), valsB_ok v⟩
theorem mem4 {α : Type} {P : α → Prop} {a b c d : α} (h1 : P a) (h2 : P b) (h3 : P c) (h4 : P d) : ∀ x ∈ [a, b, c, d], P x := fun x hx => by
  rcases List.mem_cons.mp hx with rfl | hx
  · exact h1
  · rcases List.mem_cons.mp hx with rfl | hx
    · exact h2
    · rcases List.mem_cons.mp hx with rfl | hx
      · exact h3
      · rw [List.mem_singleton.mp hx]
        exact h4
theorem exm_no {K : PySem.W.Frag} {S T : Addr} (h1 : PySem.W.subIn K (.ref T) (.type "BaseException") = some true) (h2 : PySem.W.isClsIn K T = true) (h3 : PySem.W.typeIn K (.ref T) = some (.type "type")) (h4 : PySem.W.subIn K (.ref S) (.ref T) = some false) :
    PySem.W.exmOne K (.ref S) (.ref T) = some false := by
  have e1 : (PySem.W.subIn K (.ref T) (.type "BaseException") == some true) = true := by rw [h1] <;> rfl
  have e2 : ((PySem.W.clsIn K T).isSome && PySem.W.typeIn K (.ref T) == some (.type "type")) = true := by
    have h5 : (PySem.W.clsIn K T).isSome = true := h2
    rw [h5, h3] <;> rfl
  unfold PySem.W.exmOne
  rw [if_pos e1]
  show (if ((PySem.W.clsIn K T).isSome && PySem.W.typeIn K (.ref T) == some (.type "type")) = true then PySem.W.subIn K (.ref S) (.ref T) else none) = some false
  rw [if_pos e2]
  exact h4

theorem all_mk {P : Program} {w : World} {K : PySem.W.Frag} {h : Heap} {mg : Str → Option Value} {fa : Addr} (X : K.In h) (G : h.Ns mainGlobals mg) (hfa : mg "law" = some (.ref fa))
    {v_is_whole : Addr} {oc_is_whole kV_is_whole dc_is_whole pm_is_whole cd_is_whole ct_is_whole : Value} {od_is_whole an_is_whole : Option Addr} {sl_is_whole : Array (Option Value)}
    {v_is_within : Addr} {oc_is_within kV_is_within dc_is_within pm_is_within cd_is_within ct_is_within : Value} {od_is_within an_is_within : Option Addr} {sl_is_within : Array (Option Value)}
    {v_is_sequence : Addr} {oc_is_sequence kV_is_sequence dc_is_sequence pm_is_sequence cd_is_sequence ct_is_sequence : Value} {od_is_sequence an_is_sequence : Option Addr} {sl_is_sequence : Array (Option Value)}
    {v_mask_of : Addr} {oc_mask_of kV_mask_of dc_mask_of pm_mask_of cd_mask_of ct_mask_of : Value} {od_mask_of an_mask_of : Option Addr} {sl_mask_of : Array (Option Value)}
    {v_places_in : Addr} {oc_places_in kV_places_in dc_places_in pm_places_in cd_places_in ct_places_in : Value} {od_places_in an_places_in : Option Addr} {sl_places_in : Array (Option Value)}
    {v_is_place : Addr} {oc_is_place kV_is_place dc_is_place pm_is_place cd_is_place ct_is_place : Value} {od_is_place an_is_place : Option Addr} {sl_is_place : Array (Option Value)}
    {v_check_places : Addr} {oc_check_places kV_check_places dc_check_places pm_check_places cd_check_places ct_check_places : Value} {od_check_places an_check_places : Option Addr} {sl_check_places : Array (Option Value)}
    {v_is_before_list : Addr} {oc_is_before_list kV_is_before_list dc_is_before_list pm_is_before_list cd_is_before_list ct_is_before_list : Value} {od_is_before_list an_is_before_list : Option Addr} {sl_is_before_list : Array (Option Value)}
    {v_checked_befores : Addr} {oc_checked_befores kV_checked_befores dc_checked_befores pm_checked_befores cd_checked_befores ct_checked_befores : Value} {od_checked_befores an_checked_befores : Option Addr} {sl_checked_befores : Array (Option Value)}
    {v_afters_of : Addr} {oc_afters_of kV_afters_of dc_afters_of pm_afters_of cd_afters_of ct_afters_of : Value} {od_afters_of an_afters_of : Option Addr} {sl_afters_of : Array (Option Value)}
    {v_ordered_of : Addr} {oc_ordered_of kV_ordered_of dc_ordered_of pm_ordered_of cd_ordered_of ct_ordered_of : Value} {od_ordered_of an_ordered_of : Option Addr} {sl_ordered_of : Array (Option Value)}
    {v_reached_along T_reached_along : Addr} {oc_reached_along kV_reached_along dc_reached_along pm_reached_along cd_reached_along ct_reached_along : Value} {od_reached_along an_reached_along e_reached_along : Option Addr} {sl_reached_along r_reached_along : Array (Option Value)} {j_reached_along : Array Value} {n_reached_along : Nat}
    {v_check_rings : Addr} {oc_check_rings kV_check_rings dc_check_rings pm_check_rings cd_check_rings ct_check_rings : Value} {od_check_rings an_check_rings : Option Addr} {sl_check_rings : Array (Option Value)}
    {v_check_roads : Addr} {oc_check_roads kV_check_roads dc_check_roads pm_check_roads cd_check_roads ct_check_roads : Value} {od_check_roads an_check_roads : Option Addr} {sl_check_roads : Array (Option Value)}
    {v_check_room : Addr} {oc_check_room kV_check_room dc_check_room pm_check_room cd_check_room ct_check_room : Value} {od_check_room an_check_room : Option Addr} {sl_check_room : Array (Option Value)}
    {v_check_small : Addr} {oc_check_small kV_check_small dc_check_small pm_check_small cd_check_small ct_check_small : Value} {od_check_small an_check_small : Option Addr} {sl_check_small : Array (Option Value)}
    {v_moves_at : Addr} {oc_moves_at kV_moves_at dc_moves_at pm_moves_at cd_moves_at ct_moves_at : Value} {od_moves_at an_moves_at : Option Addr} {sl_moves_at : Array (Option Value)}
    {v_distances_from : Addr} {oc_distances_from kV_distances_from dc_distances_from pm_distances_from cd_distances_from ct_distances_from : Value} {od_distances_from an_distances_from : Option Addr} {sl_distances_from : Array (Option Value)}
    {v_reached_standings : Addr} {oc_reached_standings kV_reached_standings dc_reached_standings pm_reached_standings cd_reached_standings ct_reached_standings : Value} {od_reached_standings an_reached_standings : Option Addr} {sl_reached_standings : Array (Option Value)}
    {v_least_way : Addr} {oc_least_way kV_least_way dc_least_way pm_least_way cd_least_way ct_least_way : Value} {od_least_way an_least_way : Option Addr} {sl_least_way : Array (Option Value)}
    {v_way_between : Addr} {oc_way_between kV_way_between dc_way_between pm_way_between cd_way_between ct_way_between : Value} {od_way_between an_way_between : Option Addr} {sl_way_between : Array (Option Value)}
    {v_least_room : Addr} {oc_least_room kV_least_room dc_least_room pm_least_room cd_least_room ct_least_room : Value} {od_least_room an_least_room : Option Addr} {sl_least_room : Array (Option Value)}
    {v_price_of : Addr} {oc_price_of kV_price_of dc_price_of pm_price_of cd_price_of ct_price_of : Value} {od_price_of an_price_of : Option Addr} {sl_price_of : Array (Option Value)}
    {v_shown_price_of : Addr} {oc_shown_price_of kV_shown_price_of dc_shown_price_of pm_shown_price_of cd_shown_price_of ct_shown_price_of : Value} {od_shown_price_of an_shown_price_of : Option Addr} {sl_shown_price_of : Array (Option Value)}
    {v_ready_price_of : Addr} {oc_ready_price_of kV_ready_price_of dc_ready_price_of pm_ready_price_of cd_ready_price_of ct_ready_price_of : Value} {od_ready_price_of an_ready_price_of : Option Addr} {sl_ready_price_of : Array (Option Value)}
    {v_law_hand : Addr} {oc_law_hand kV_law_hand dc_law_hand pm_law_hand cd_law_hand ct_law_hand : Value} {od_law_hand an_law_hand : Option Addr} {sl_law_hand : Array (Option Value)}
    {v_law_mixed : Addr} {oc_law_mixed kV_law_mixed dc_law_mixed pm_law_mixed cd_law_mixed ct_law_mixed : Value} {od_law_mixed an_law_mixed : Option Addr} {sl_law_mixed : Array (Option Value)}
    {v_law_take : Addr} {oc_law_take kV_law_take dc_law_take pm_law_take cd_law_take ct_law_take : Value} {od_law_take an_law_take : Option Addr} {sl_law_take : Array (Option Value)}
    {v_law_whole : Addr} {oc_law_whole kV_law_whole dc_law_whole pm_law_whole cd_law_whole ct_law_whole : Value} {od_law_whole an_law_whole : Option Addr} {sl_law_whole : Array (Option Value)}
    {v_law_two : Addr} {oc_law_two kV_law_two dc_law_two pm_law_two cd_law_two ct_law_two : Value} {od_law_two an_law_two : Option Addr} {sl_law_two : Array (Option Value)}
    {v_law_led : Addr} {oc_law_led kV_law_led dc_law_led pm_law_led cd_law_led ct_law_led : Value} {od_law_led an_law_led : Option Addr} {sl_law_led : Array (Option Value)}
    {v_law_order : Addr} {oc_law_order kV_law_order dc_law_order pm_law_order cd_law_order ct_law_order : Value} {od_law_order an_law_order : Option Addr} {sl_law_order : Array (Option Value)}
    {v_law_bare : Addr} {oc_law_bare kV_law_bare dc_law_bare pm_law_bare cd_law_bare ct_law_bare : Value} {od_law_bare an_law_bare : Option Addr} {sl_law_bare : Array (Option Value)}
    {v_law_tree : Addr} {oc_law_tree kV_law_tree dc_law_tree pm_law_tree cd_law_tree ct_law_tree : Value} {od_law_tree an_law_tree : Option Addr} {sl_law_tree : Array (Option Value)}
    {v_law_masks : Addr} {oc_law_masks kV_law_masks dc_law_masks pm_law_masks cd_law_masks ct_law_masks : Value} {od_law_masks an_law_masks : Option Addr} {sl_law_masks : Array (Option Value)}
    {v_law_filled : Addr} {oc_law_filled kV_law_filled dc_law_filled pm_law_filled cd_law_filled ct_law_filled : Value} {od_law_filled an_law_filled : Option Addr} {sl_law_filled : Array (Option Value)}
    {v_law_held : Addr} {oc_law_held kV_law_held dc_law_held pm_law_held cd_law_held ct_law_held : Value} {od_law_held an_law_held : Option Addr} {sl_law_held : Array (Option Value)}
    {v_law_reach : Addr} {oc_law_reach kV_law_reach dc_law_reach pm_law_reach cd_law_reach ct_law_reach : Value} {od_law_reach an_law_reach : Option Addr} {sl_law_reach : Array (Option Value)}
    {v_law_price : Addr} {oc_law_price kV_law_price dc_law_price pm_law_price cd_law_price ct_law_price : Value} {od_law_price an_law_price : Option Addr} {sl_law_price : Array (Option Value)}
    {v_law_small_size : Addr} {oc_law_small_size kV_law_small_size dc_law_small_size pm_law_small_size cd_law_small_size ct_law_small_size : Value} {od_law_small_size an_law_small_size : Option Addr} {sl_law_small_size : Array (Option Value)}
    {v_law_any_bare : Addr} {oc_law_any_bare kV_law_any_bare dc_law_any_bare pm_law_any_bare cd_law_any_bare ct_law_any_bare : Value} {od_law_any_bare an_law_any_bare : Option Addr} {sl_law_any_bare : Array (Option Value)}
    {v_law_copied : Addr} {oc_law_copied kV_law_copied dc_law_copied pm_law_copied cd_law_copied ct_law_copied : Value} {od_law_copied an_law_copied : Option Addr} {sl_law_copied : Array (Option Value)}
    {v_law_places : Addr} {oc_law_places kV_law_places dc_law_places pm_law_places cd_law_places ct_law_places : Value} {od_law_places an_law_places : Option Addr} {sl_law_places : Array (Option Value)}
    {v_law_listed : Addr} {oc_law_listed kV_law_listed dc_law_listed pm_law_listed cd_law_listed ct_law_listed : Value} {od_law_listed an_law_listed : Option Addr} {sl_law_listed : Array (Option Value)}
    {v_law_least_way : Addr} {oc_law_least_way kV_law_least_way dc_law_least_way pm_law_least_way cd_law_least_way ct_law_least_way : Value} {od_law_least_way an_law_least_way : Option Addr} {sl_law_least_way : Array (Option Value)}
    {v_law_room_for : Addr} {oc_law_room_for kV_law_room_for dc_law_room_for pm_law_room_for cd_law_room_for ct_law_room_for : Value} {od_law_room_for an_law_room_for : Option Addr} {sl_law_room_for : Array (Option Value)}
    {v_law_shuffled : Addr} {oc_law_shuffled kV_law_shuffled dc_law_shuffled pm_law_shuffled cd_law_shuffled ct_law_shuffled : Value} {od_law_shuffled an_law_shuffled : Option Addr} {sl_law_shuffled : Array (Option Value)}
    {v_law_way_told : Addr} {oc_law_way_told kV_law_way_told dc_law_way_told pm_law_way_told cd_law_way_told ct_law_way_told : Value} {od_law_way_told an_law_way_told : Option Addr} {sl_law_way_told : Array (Option Value)}
    {v_law_great_refused : Addr} {oc_law_great_refused kV_law_great_refused dc_law_great_refused pm_law_great_refused cd_law_great_refused ct_law_great_refused : Value} {od_law_great_refused an_law_great_refused : Option Addr} {sl_law_great_refused : Array (Option Value)}
    {v_law_spoilt : Addr} {oc_law_spoilt kV_law_spoilt dc_law_spoilt pm_law_spoilt cd_law_spoilt ct_law_spoilt : Value} {od_law_spoilt an_law_spoilt : Option Addr} {sl_law_spoilt : Array (Option Value)}
    {v_law_refusals : Addr} {oc_law_refusals kV_law_refusals dc_law_refusals pm_law_refusals cd_law_refusals ct_law_refusals : Value} {od_law_refusals an_law_refusals : Option Addr} {sl_law_refusals : Array (Option Value)}
    {v_law_prices : Addr} {oc_law_prices kV_law_prices dc_law_prices pm_law_prices cd_law_prices ct_law_prices : Value} {od_law_prices an_law_prices : Option Addr} {sl_law_prices : Array (Option Value)}
    {v_law : Addr} {oc_law kV_law dc_law pm_law cd_law ct_law : Value} {od_law an_law : Option Addr} {sl_law : Array (Option Value)}
    {v_TooMany___init__ : Addr} {oc_TooMany___init__ kV_TooMany___init__ dc_TooMany___init__ pm_TooMany___init__ cd_TooMany___init__ ct_TooMany___init__ : Value} {od_TooMany___init__ an_TooMany___init__ : Option Addr} {sl_TooMany___init__ : Array (Option Value)}
    {v_BadBare___init__ : Addr} {oc_BadBare___init__ kV_BadBare___init__ dc_BadBare___init__ pm_BadBare___init__ cd_BadBare___init__ ct_BadBare___init__ : Value} {od_BadBare___init__ an_BadBare___init__ : Option Addr} {sl_BadBare___init__ : Array (Option Value)}
    {v_BadPlaces___init__ : Addr} {oc_BadPlaces___init__ kV_BadPlaces___init__ dc_BadPlaces___init__ pm_BadPlaces___init__ cd_BadPlaces___init__ ct_BadPlaces___init__ : Value} {od_BadPlaces___init__ an_BadPlaces___init__ : Option Addr} {sl_BadPlaces___init__ : Array (Option Value)}
    {v_Bare___init__ : Addr} {oc_Bare___init__ kV_Bare___init__ dc_Bare___init__ pm_Bare___init__ cd_Bare___init__ ct_Bare___init__ : Value} {od_Bare___init__ an_Bare___init__ : Option Addr} {sl_Bare___init__ : Array (Option Value)}
    {v_Bare___len__ : Addr} {oc_Bare___len__ kV_Bare___len__ dc_Bare___len__ pm_Bare___len__ cd_Bare___len__ ct_Bare___len__ : Value} {od_Bare___len__ an_Bare___len__ : Option Addr} {sl_Bare___len__ : Array (Option Value)}
    {v_Bare___eq__ : Addr} {oc_Bare___eq__ kV_Bare___eq__ dc_Bare___eq__ pm_Bare___eq__ cd_Bare___eq__ ct_Bare___eq__ : Value} {od_Bare___eq__ an_Bare___eq__ : Option Addr} {sl_Bare___eq__ : Array (Option Value)}
    {w_TooMany N_TooMany : Addr} {nm_TooMany q_TooMany : Str} {bs_TooMany bm_TooMany sub_TooMany : List Value} {sn_TooMany : List Str} {ab_TooMany : Bool} {col_TooMany : Option Bool} {dd_TooMany : Option Addr} {m0_TooMany m1_TooMany m2_TooMany m3_TooMany m5_TooMany : Option Value}
    {w_BadBare N_BadBare : Addr} {nm_BadBare q_BadBare : Str} {bs_BadBare bm_BadBare sub_BadBare : List Value} {sn_BadBare : List Str} {ab_BadBare : Bool} {col_BadBare : Option Bool} {dd_BadBare : Option Addr} {m0_BadBare m1_BadBare m2_BadBare m3_BadBare m5_BadBare : Option Value}
    {w_BadPlaces N_BadPlaces : Addr} {nm_BadPlaces q_BadPlaces : Str} {bs_BadPlaces bm_BadPlaces sub_BadPlaces : List Value} {sn_BadPlaces : List Str} {ab_BadPlaces : Bool} {col_BadPlaces : Option Bool} {dd_BadPlaces : Option Addr} {m0_BadPlaces m1_BadPlaces m2_BadPlaces m3_BadPlaces m5_BadPlaces : Option Value}
    {w_BadRoom : Addr}
    {w_NoWay : Addr}
    {w_Bare : Addr}
    {t_MOST_PLACES : Tok}
    {t_MOST_ROOM : Tok}
    {t_MOST_SEARCHED : Tok}
    {u_c_UndoError : Addr}
    {c0 c1 c2 c3 P0 P1 P2 P3 : Addr}
    (hm_TooMany : PySem.W.nsIn K mainGlobals "TooMany" = some (some (.ref w_TooMany)))
    (hm_BadBare : PySem.W.nsIn K mainGlobals "BadBare" = some (some (.ref w_BadBare)))
    (hm_BadPlaces : PySem.W.nsIn K mainGlobals "BadPlaces" = some (some (.ref w_BadPlaces)))
    (hm_BadRoom : PySem.W.nsIn K mainGlobals "BadRoom" = some (some (.ref w_BadRoom)))
    (hm_NoWay : PySem.W.nsIn K mainGlobals "NoWay" = some (some (.ref w_NoWay)))
    (hm_Bare : PySem.W.nsIn K mainGlobals "Bare" = some (some (.ref w_Bare)))
    (tb_at0 : h.get? P0 = some { cls := .none, data := .fields #[] })
    (tb_at1 : h.get? P1 = some { cls := .none, data := .fields #[] })
    (tb_at2 : h.get? P2 = some { cls := .none, data := .fields #[] })
    (tb_at3 : h.get? P3 = some { cls := .none, data := .fields #[] })
    (xl_TooMany : K.lookup w_TooMany = some (excClassObj nm_TooMany q_TooMany w_TooMany N_TooMany bs_TooMany bm_TooMany true sn_TooMany sub_TooMany ab_TooMany col_TooMany dd_TooMany m0_TooMany m1_TooMany m2_TooMany m3_TooMany m5_TooMany "ValueError.__new__"))
    (xv_TooMany : PySem.HandSPX.refsVE bm_TooMany = true)
    (xs_TooMany : PySem.W.findIn K (.ref w_TooMany) "__setattr__" = some (some (.builtin "object.__setattr__")))
    (xg_TooMany : PySem.W.findIn K (.ref w_TooMany) "__getattribute__" = some (some (.builtin "BaseException.__getattribute__")))
    (xh_TooMany : PySem.W.findIn K (.ref w_TooMany) "__getattr__" = some none)
    (xk_TooMany : PySem.W.keepIn K (.ref w_TooMany) = true)
    (xb_TooMany : PySem.W.subIn K (.ref w_TooMany) (.type "BaseException") = some true)
    (xy_TooMany : PySem.W.typeIn K (.ref w_TooMany) = some (.type "type"))
    (xd_TooMany : PySem.W.hasDictIn K w_TooMany = true)
    (xc_TooMany : PySem.W.isClsIn K w_TooMany = true)
    (xz_TooMany : PySem.W.subIn K (.ref w_TooMany) (.ref w_TooMany) = some true)
    (xl_BadBare : K.lookup w_BadBare = some (excClassObj nm_BadBare q_BadBare w_BadBare N_BadBare bs_BadBare bm_BadBare true sn_BadBare sub_BadBare ab_BadBare col_BadBare dd_BadBare m0_BadBare m1_BadBare m2_BadBare m3_BadBare m5_BadBare "ValueError.__new__"))
    (xv_BadBare : PySem.HandSPX.refsVE bm_BadBare = true)
    (xs_BadBare : PySem.W.findIn K (.ref w_BadBare) "__setattr__" = some (some (.builtin "object.__setattr__")))
    (xg_BadBare : PySem.W.findIn K (.ref w_BadBare) "__getattribute__" = some (some (.builtin "BaseException.__getattribute__")))
    (xh_BadBare : PySem.W.findIn K (.ref w_BadBare) "__getattr__" = some none)
    (xk_BadBare : PySem.W.keepIn K (.ref w_BadBare) = true)
    (xb_BadBare : PySem.W.subIn K (.ref w_BadBare) (.type "BaseException") = some true)
    (xy_BadBare : PySem.W.typeIn K (.ref w_BadBare) = some (.type "type"))
    (xd_BadBare : PySem.W.hasDictIn K w_BadBare = true)
    (xc_BadBare : PySem.W.isClsIn K w_BadBare = true)
    (xz_BadBare : PySem.W.subIn K (.ref w_BadBare) (.ref w_BadBare) = some true)
    (xl_BadPlaces : K.lookup w_BadPlaces = some (excClassObj nm_BadPlaces q_BadPlaces w_BadPlaces N_BadPlaces bs_BadPlaces bm_BadPlaces true sn_BadPlaces sub_BadPlaces ab_BadPlaces col_BadPlaces dd_BadPlaces m0_BadPlaces m1_BadPlaces m2_BadPlaces m3_BadPlaces m5_BadPlaces "ValueError.__new__"))
    (xv_BadPlaces : PySem.HandSPX.refsVE bm_BadPlaces = true)
    (xs_BadPlaces : PySem.W.findIn K (.ref w_BadPlaces) "__setattr__" = some (some (.builtin "object.__setattr__")))
    (xg_BadPlaces : PySem.W.findIn K (.ref w_BadPlaces) "__getattribute__" = some (some (.builtin "BaseException.__getattribute__")))
    (xh_BadPlaces : PySem.W.findIn K (.ref w_BadPlaces) "__getattr__" = some none)
    (xk_BadPlaces : PySem.W.keepIn K (.ref w_BadPlaces) = true)
    (xb_BadPlaces : PySem.W.subIn K (.ref w_BadPlaces) (.type "BaseException") = some true)
    (xy_BadPlaces : PySem.W.typeIn K (.ref w_BadPlaces) = some (.type "type"))
    (xd_BadPlaces : PySem.W.hasDictIn K w_BadPlaces = true)
    (xc_BadPlaces : PySem.W.isClsIn K w_BadPlaces = true)
    (xz_BadPlaces : PySem.W.subIn K (.ref w_BadPlaces) (.ref w_BadPlaces) = some true)
    (xq_BadRoom : PySem.W.excIn K w_BadRoom [.type "ValueError", .type "Exception", .type "BaseException", .type "object"] "ValueError.__new__" = true)
    (xk_BadRoom : PySem.W.keepIn K (.ref w_BadRoom) = true)
    (xb_BadRoom : PySem.W.subIn K (.ref w_BadRoom) (.type "BaseException") = some true)
    (xy_BadRoom : PySem.W.typeIn K (.ref w_BadRoom) = some (.type "type"))
    (xc_BadRoom : PySem.W.isClsIn K w_BadRoom = true)
    (xz_BadRoom : PySem.W.subIn K (.ref w_BadRoom) (.ref w_BadRoom) = some true)
    (xq_NoWay : PySem.W.excIn K w_NoWay [.type "ValueError", .type "Exception", .type "BaseException", .type "object"] "ValueError.__new__" = true)
    (xk_NoWay : PySem.W.keepIn K (.ref w_NoWay) = true)
    (xb_NoWay : PySem.W.subIn K (.ref w_NoWay) (.type "BaseException") = some true)
    (xy_NoWay : PySem.W.typeIn K (.ref w_NoWay) = some (.type "type"))
    (xc_NoWay : PySem.W.isClsIn K w_NoWay = true)
    (xz_NoWay : PySem.W.subIn K (.ref w_NoWay) (.ref w_NoWay) = some true)
    (ya_Bare : PySem.W.findIn K (.ref w_Bare) "__init__" = some (some (.ref v_Bare___init__)))
    (hat_Bare___len__ : PySem.W.findIn K (.ref w_Bare) "__len__" = some (some (.ref v_Bare___len__)))
    (hat_Bare___eq__ : PySem.W.findIn K (.ref w_Bare) "__eq__" = some (some (.ref v_Bare___eq__)))
    (hxi_TooMany : PySem.W.findIn K (.ref w_TooMany) "__init__" = some (some (.ref v_TooMany___init__)))
    (hxt_TooMany : PySem.W.typeIn K (.ref v_TooMany___init__) = some (.type "function"))
    (hxn_TooMany_most : PySem.W.findIn K (.ref w_TooMany) "most" = some none)
    (hxi_BadBare : PySem.W.findIn K (.ref w_BadBare) "__init__" = some (some (.ref v_BadBare___init__)))
    (hxt_BadBare : PySem.W.typeIn K (.ref v_BadBare___init__) = some (.type "function"))
    (hxn_BadBare_place : PySem.W.findIn K (.ref w_BadBare) "place" = some none)
    (hxn_BadBare_what : PySem.W.findIn K (.ref w_BadBare) "what" = some none)
    (hxi_BadPlaces : PySem.W.findIn K (.ref w_BadPlaces) "__init__" = some (some (.ref v_BadPlaces___init__)))
    (hxt_BadPlaces : PySem.W.typeIn K (.ref v_BadPlaces___init__) = some (.type "function"))
    (hxn_BadPlaces_index : PySem.W.findIn K (.ref w_BadPlaces) "index" = some none)
    (no_BadPlaces_BadRoom : PySem.W.subIn K (.ref w_BadPlaces) (.ref w_BadRoom) = some false)
    (no_TooMany_BadRoom : PySem.W.subIn K (.ref w_TooMany) (.ref w_BadRoom) = some false)
    (no_TooMany_BadPlaces : PySem.W.subIn K (.ref w_TooMany) (.ref w_BadPlaces) = some false)
    (no_NoWay_BadRoom : PySem.W.subIn K (.ref w_NoWay) (.ref w_BadRoom) = some false)
    (no_NoWay_BadPlaces : PySem.W.subIn K (.ref w_NoWay) (.ref w_BadPlaces) = some false)
    (no_NoWay_TooMany : PySem.W.subIn K (.ref w_NoWay) (.ref w_TooMany) = some false)
    (hm_is_whole : PySem.W.nsIn K mainGlobals "is_whole" = some (some (.ref v_is_whole)))
    (hl_is_whole : K.lookup v_is_whole = some ⟨oc_is_whole, od_is_whole, .func (PySem.W.fnOf "is_whole" "is_whole" (defArgs s_is_whole) (defBody s_is_whole) (defScope s_is_whole) .none kV_is_whole dc_is_whole pm_is_whole an_is_whole cd_is_whole ct_is_whole), sl_is_whole⟩)
    (hc_is_whole : PySem.W.codeIn K cd_is_whole "is_whole" = true)
    (hk_is_whole : PySem.W.keepIn K (.ref v_is_whole) = true)
    (hm_is_within : PySem.W.nsIn K mainGlobals "is_within" = some (some (.ref v_is_within)))
    (hl_is_within : K.lookup v_is_within = some ⟨oc_is_within, od_is_within, .func (PySem.W.fnOf "is_within" "is_within" (defArgs s_is_within) (defBody s_is_within) (defScope s_is_within) .none kV_is_within dc_is_within pm_is_within an_is_within cd_is_within ct_is_within), sl_is_within⟩)
    (hc_is_within : PySem.W.codeIn K cd_is_within "is_within" = true)
    (hk_is_within : PySem.W.keepIn K (.ref v_is_within) = true)
    (hm_is_sequence : PySem.W.nsIn K mainGlobals "is_sequence" = some (some (.ref v_is_sequence)))
    (hl_is_sequence : K.lookup v_is_sequence = some ⟨oc_is_sequence, od_is_sequence, .func (PySem.W.fnOf "is_sequence" "is_sequence" (defArgs s_is_sequence) (defBody s_is_sequence) (defScope s_is_sequence) .none kV_is_sequence dc_is_sequence pm_is_sequence an_is_sequence cd_is_sequence ct_is_sequence), sl_is_sequence⟩)
    (hc_is_sequence : PySem.W.codeIn K cd_is_sequence "is_sequence" = true)
    (hk_is_sequence : PySem.W.keepIn K (.ref v_is_sequence) = true)
    (hm_mask_of : PySem.W.nsIn K mainGlobals "mask_of" = some (some (.ref v_mask_of)))
    (hl_mask_of : K.lookup v_mask_of = some ⟨oc_mask_of, od_mask_of, .func (PySem.W.fnOf "mask_of" "mask_of" (defArgs s_mask_of) (defBody s_mask_of) (defScope s_mask_of) .none kV_mask_of dc_mask_of pm_mask_of an_mask_of cd_mask_of ct_mask_of), sl_mask_of⟩)
    (hc_mask_of : PySem.W.codeIn K cd_mask_of "mask_of" = true)
    (hk_mask_of : PySem.W.keepIn K (.ref v_mask_of) = true)
    (hm_places_in : PySem.W.nsIn K mainGlobals "places_in" = some (some (.ref v_places_in)))
    (hl_places_in : K.lookup v_places_in = some ⟨oc_places_in, od_places_in, .func (PySem.W.fnOf "places_in" "places_in" (defArgs s_places_in) (defBody s_places_in) (defScope s_places_in) .none kV_places_in dc_places_in pm_places_in an_places_in cd_places_in ct_places_in), sl_places_in⟩)
    (hc_places_in : PySem.W.codeIn K cd_places_in "places_in" = true)
    (hk_places_in : PySem.W.keepIn K (.ref v_places_in) = true)
    (hm_is_place : PySem.W.nsIn K mainGlobals "is_place" = some (some (.ref v_is_place)))
    (hl_is_place : K.lookup v_is_place = some ⟨oc_is_place, od_is_place, .func (PySem.W.fnOf "is_place" "is_place" (defArgs s_is_place) (defBody s_is_place) (defScope s_is_place) .none kV_is_place dc_is_place pm_is_place an_is_place cd_is_place ct_is_place), sl_is_place⟩)
    (hc_is_place : PySem.W.codeIn K cd_is_place "is_place" = true)
    (hk_is_place : PySem.W.keepIn K (.ref v_is_place) = true)
    (hm_check_places : PySem.W.nsIn K mainGlobals "check_places" = some (some (.ref v_check_places)))
    (hl_check_places : K.lookup v_check_places = some ⟨oc_check_places, od_check_places, .func (PySem.W.fnOf "check_places" "check_places" (defArgs s_check_places) (defBody s_check_places) (defScope s_check_places) .none kV_check_places dc_check_places pm_check_places an_check_places cd_check_places ct_check_places), sl_check_places⟩)
    (hc_check_places : PySem.W.codeIn K cd_check_places "check_places" = true)
    (hk_check_places : PySem.W.keepIn K (.ref v_check_places) = true)
    (hm_is_before_list : PySem.W.nsIn K mainGlobals "is_before_list" = some (some (.ref v_is_before_list)))
    (hl_is_before_list : K.lookup v_is_before_list = some ⟨oc_is_before_list, od_is_before_list, .func (PySem.W.fnOf "is_before_list" "is_before_list" (defArgs s_is_before_list) (defBody s_is_before_list) (defScope s_is_before_list) .none kV_is_before_list dc_is_before_list pm_is_before_list an_is_before_list cd_is_before_list ct_is_before_list), sl_is_before_list⟩)
    (hc_is_before_list : PySem.W.codeIn K cd_is_before_list "is_before_list" = true)
    (hk_is_before_list : PySem.W.keepIn K (.ref v_is_before_list) = true)
    (hm_checked_befores : PySem.W.nsIn K mainGlobals "checked_befores" = some (some (.ref v_checked_befores)))
    (hl_checked_befores : K.lookup v_checked_befores = some ⟨oc_checked_befores, od_checked_befores, .func (PySem.W.fnOf "checked_befores" "checked_befores" (defArgs s_checked_befores) (defBody s_checked_befores) (defScope s_checked_befores) .none kV_checked_befores dc_checked_befores pm_checked_befores an_checked_befores cd_checked_befores ct_checked_befores), sl_checked_befores⟩)
    (hc_checked_befores : PySem.W.codeIn K cd_checked_befores "checked_befores" = true)
    (hk_checked_befores : PySem.W.keepIn K (.ref v_checked_befores) = true)
    (hm_afters_of : PySem.W.nsIn K mainGlobals "afters_of" = some (some (.ref v_afters_of)))
    (hl_afters_of : K.lookup v_afters_of = some ⟨oc_afters_of, od_afters_of, .func (PySem.W.fnOf "afters_of" "afters_of" (defArgs s_afters_of) (defBody s_afters_of) (defScope s_afters_of) .none kV_afters_of dc_afters_of pm_afters_of an_afters_of cd_afters_of ct_afters_of), sl_afters_of⟩)
    (hc_afters_of : PySem.W.codeIn K cd_afters_of "afters_of" = true)
    (hk_afters_of : PySem.W.keepIn K (.ref v_afters_of) = true)
    (hm_ordered_of : PySem.W.nsIn K mainGlobals "ordered_of" = some (some (.ref v_ordered_of)))
    (hl_ordered_of : K.lookup v_ordered_of = some ⟨oc_ordered_of, od_ordered_of, .func (PySem.W.fnOf "ordered_of" "ordered_of" (defArgs s_ordered_of) (defBody s_ordered_of) (defScope s_ordered_of) .none kV_ordered_of dc_ordered_of pm_ordered_of an_ordered_of cd_ordered_of ct_ordered_of), sl_ordered_of⟩)
    (hc_ordered_of : PySem.W.codeIn K cd_ordered_of "ordered_of" = true)
    (hk_ordered_of : PySem.W.keepIn K (.ref v_ordered_of) = true)
    (hm_reached_along : PySem.W.nsIn K mainGlobals "reached_along" = some (some (.ref v_reached_along)))
    (hl_reached_along : K.lookup v_reached_along = some ⟨oc_reached_along, od_reached_along, .func (PySem.W.fnOf "reached_along" "reached_along" (defArgs s_reached_along) (defBody s_reached_along) (defScope s_reached_along) (.ref T_reached_along) kV_reached_along dc_reached_along pm_reached_along an_reached_along cd_reached_along ct_reached_along), sl_reached_along⟩)
    (hc_reached_along : PySem.W.codeIn K cd_reached_along "reached_along" = true)
    (hk_reached_along : PySem.W.keepIn K (.ref v_reached_along) = true)
    (hm_check_rings : PySem.W.nsIn K mainGlobals "check_rings" = some (some (.ref v_check_rings)))
    (hl_check_rings : K.lookup v_check_rings = some ⟨oc_check_rings, od_check_rings, .func (PySem.W.fnOf "check_rings" "check_rings" (defArgs s_check_rings) (defBody s_check_rings) (defScope s_check_rings) .none kV_check_rings dc_check_rings pm_check_rings an_check_rings cd_check_rings ct_check_rings), sl_check_rings⟩)
    (hc_check_rings : PySem.W.codeIn K cd_check_rings "check_rings" = true)
    (hk_check_rings : PySem.W.keepIn K (.ref v_check_rings) = true)
    (hm_check_roads : PySem.W.nsIn K mainGlobals "check_roads" = some (some (.ref v_check_roads)))
    (hl_check_roads : K.lookup v_check_roads = some ⟨oc_check_roads, od_check_roads, .func (PySem.W.fnOf "check_roads" "check_roads" (defArgs s_check_roads) (defBody s_check_roads) (defScope s_check_roads) .none kV_check_roads dc_check_roads pm_check_roads an_check_roads cd_check_roads ct_check_roads), sl_check_roads⟩)
    (hc_check_roads : PySem.W.codeIn K cd_check_roads "check_roads" = true)
    (hk_check_roads : PySem.W.keepIn K (.ref v_check_roads) = true)
    (hm_check_room : PySem.W.nsIn K mainGlobals "check_room" = some (some (.ref v_check_room)))
    (hl_check_room : K.lookup v_check_room = some ⟨oc_check_room, od_check_room, .func (PySem.W.fnOf "check_room" "check_room" (defArgs s_check_room) (defBody s_check_room) (defScope s_check_room) .none kV_check_room dc_check_room pm_check_room an_check_room cd_check_room ct_check_room), sl_check_room⟩)
    (hc_check_room : PySem.W.codeIn K cd_check_room "check_room" = true)
    (hk_check_room : PySem.W.keepIn K (.ref v_check_room) = true)
    (hm_check_small : PySem.W.nsIn K mainGlobals "check_small" = some (some (.ref v_check_small)))
    (hl_check_small : K.lookup v_check_small = some ⟨oc_check_small, od_check_small, .func (PySem.W.fnOf "check_small" "check_small" (defArgs s_check_small) (defBody s_check_small) (defScope s_check_small) .none kV_check_small dc_check_small pm_check_small an_check_small cd_check_small ct_check_small), sl_check_small⟩)
    (hc_check_small : PySem.W.codeIn K cd_check_small "check_small" = true)
    (hk_check_small : PySem.W.keepIn K (.ref v_check_small) = true)
    (hm_moves_at : PySem.W.nsIn K mainGlobals "moves_at" = some (some (.ref v_moves_at)))
    (hl_moves_at : K.lookup v_moves_at = some ⟨oc_moves_at, od_moves_at, .func (PySem.W.fnOf "moves_at" "moves_at" (defArgs s_moves_at) (defBody s_moves_at) (defScope s_moves_at) .none kV_moves_at dc_moves_at pm_moves_at an_moves_at cd_moves_at ct_moves_at), sl_moves_at⟩)
    (hc_moves_at : PySem.W.codeIn K cd_moves_at "moves_at" = true)
    (hk_moves_at : PySem.W.keepIn K (.ref v_moves_at) = true)
    (hm_distances_from : PySem.W.nsIn K mainGlobals "distances_from" = some (some (.ref v_distances_from)))
    (hl_distances_from : K.lookup v_distances_from = some ⟨oc_distances_from, od_distances_from, .func (PySem.W.fnOf "distances_from" "distances_from" (defArgs s_distances_from) (defBody s_distances_from) (defScope s_distances_from) .none kV_distances_from dc_distances_from pm_distances_from an_distances_from cd_distances_from ct_distances_from), sl_distances_from⟩)
    (hc_distances_from : PySem.W.codeIn K cd_distances_from "distances_from" = true)
    (hk_distances_from : PySem.W.keepIn K (.ref v_distances_from) = true)
    (hm_reached_standings : PySem.W.nsIn K mainGlobals "reached_standings" = some (some (.ref v_reached_standings)))
    (hl_reached_standings : K.lookup v_reached_standings = some ⟨oc_reached_standings, od_reached_standings, .func (PySem.W.fnOf "reached_standings" "reached_standings" (defArgs s_reached_standings) (defBody s_reached_standings) (defScope s_reached_standings) .none kV_reached_standings dc_reached_standings pm_reached_standings an_reached_standings cd_reached_standings ct_reached_standings), sl_reached_standings⟩)
    (hc_reached_standings : PySem.W.codeIn K cd_reached_standings "reached_standings" = true)
    (hk_reached_standings : PySem.W.keepIn K (.ref v_reached_standings) = true)
    (hm_least_way : PySem.W.nsIn K mainGlobals "least_way" = some (some (.ref v_least_way)))
    (hl_least_way : K.lookup v_least_way = some ⟨oc_least_way, od_least_way, .func (PySem.W.fnOf "least_way" "least_way" (defArgs s_least_way) (defBody s_least_way) (defScope s_least_way) .none kV_least_way dc_least_way pm_least_way an_least_way cd_least_way ct_least_way), sl_least_way⟩)
    (hc_least_way : PySem.W.codeIn K cd_least_way "least_way" = true)
    (hk_least_way : PySem.W.keepIn K (.ref v_least_way) = true)
    (hm_way_between : PySem.W.nsIn K mainGlobals "way_between" = some (some (.ref v_way_between)))
    (hl_way_between : K.lookup v_way_between = some ⟨oc_way_between, od_way_between, .func (PySem.W.fnOf "way_between" "way_between" (defArgs s_way_between) (defBody s_way_between) (defScope s_way_between) .none kV_way_between dc_way_between pm_way_between an_way_between cd_way_between ct_way_between), sl_way_between⟩)
    (hc_way_between : PySem.W.codeIn K cd_way_between "way_between" = true)
    (hk_way_between : PySem.W.keepIn K (.ref v_way_between) = true)
    (hm_least_room : PySem.W.nsIn K mainGlobals "least_room" = some (some (.ref v_least_room)))
    (hl_least_room : K.lookup v_least_room = some ⟨oc_least_room, od_least_room, .func (PySem.W.fnOf "least_room" "least_room" (defArgs s_least_room) (defBody s_least_room) (defScope s_least_room) .none kV_least_room dc_least_room pm_least_room an_least_room cd_least_room ct_least_room), sl_least_room⟩)
    (hc_least_room : PySem.W.codeIn K cd_least_room "least_room" = true)
    (hk_least_room : PySem.W.keepIn K (.ref v_least_room) = true)
    (hm_price_of : PySem.W.nsIn K mainGlobals "price_of" = some (some (.ref v_price_of)))
    (hl_price_of : K.lookup v_price_of = some ⟨oc_price_of, od_price_of, .func (PySem.W.fnOf "price_of" "price_of" (defArgs s_price_of) (defBody s_price_of) (defScope s_price_of) .none kV_price_of dc_price_of pm_price_of an_price_of cd_price_of ct_price_of), sl_price_of⟩)
    (hc_price_of : PySem.W.codeIn K cd_price_of "price_of" = true)
    (hk_price_of : PySem.W.keepIn K (.ref v_price_of) = true)
    (hm_shown_price_of : PySem.W.nsIn K mainGlobals "shown_price_of" = some (some (.ref v_shown_price_of)))
    (hl_shown_price_of : K.lookup v_shown_price_of = some ⟨oc_shown_price_of, od_shown_price_of, .func (PySem.W.fnOf "shown_price_of" "shown_price_of" (defArgs s_shown_price_of) (defBody s_shown_price_of) (defScope s_shown_price_of) .none kV_shown_price_of dc_shown_price_of pm_shown_price_of an_shown_price_of cd_shown_price_of ct_shown_price_of), sl_shown_price_of⟩)
    (hc_shown_price_of : PySem.W.codeIn K cd_shown_price_of "shown_price_of" = true)
    (hk_shown_price_of : PySem.W.keepIn K (.ref v_shown_price_of) = true)
    (hm_ready_price_of : PySem.W.nsIn K mainGlobals "ready_price_of" = some (some (.ref v_ready_price_of)))
    (hl_ready_price_of : K.lookup v_ready_price_of = some ⟨oc_ready_price_of, od_ready_price_of, .func (PySem.W.fnOf "ready_price_of" "ready_price_of" (defArgs s_ready_price_of) (defBody s_ready_price_of) (defScope s_ready_price_of) .none kV_ready_price_of dc_ready_price_of pm_ready_price_of an_ready_price_of cd_ready_price_of ct_ready_price_of), sl_ready_price_of⟩)
    (hc_ready_price_of : PySem.W.codeIn K cd_ready_price_of "ready_price_of" = true)
    (hk_ready_price_of : PySem.W.keepIn K (.ref v_ready_price_of) = true)
    (hm_law_hand : PySem.W.nsIn K mainGlobals "_law_hand" = some (some (.ref v_law_hand)))
    (hl_law_hand : K.lookup v_law_hand = some ⟨oc_law_hand, od_law_hand, .func (PySem.W.fnOf "_law_hand" "_law_hand" (defArgs s_law_hand) (defBody s_law_hand) (defScope s_law_hand) .none kV_law_hand dc_law_hand pm_law_hand an_law_hand cd_law_hand ct_law_hand), sl_law_hand⟩)
    (hc_law_hand : PySem.W.codeIn K cd_law_hand "_law_hand" = true)
    (hk_law_hand : PySem.W.keepIn K (.ref v_law_hand) = true)
    (hm_law_mixed : PySem.W.nsIn K mainGlobals "_law_mixed" = some (some (.ref v_law_mixed)))
    (hl_law_mixed : K.lookup v_law_mixed = some ⟨oc_law_mixed, od_law_mixed, .func (PySem.W.fnOf "_law_mixed" "_law_mixed" (defArgs s_law_mixed) (defBody s_law_mixed) (defScope s_law_mixed) .none kV_law_mixed dc_law_mixed pm_law_mixed an_law_mixed cd_law_mixed ct_law_mixed), sl_law_mixed⟩)
    (hc_law_mixed : PySem.W.codeIn K cd_law_mixed "_law_mixed" = true)
    (hk_law_mixed : PySem.W.keepIn K (.ref v_law_mixed) = true)
    (hm_law_take : PySem.W.nsIn K mainGlobals "_law_take" = some (some (.ref v_law_take)))
    (hl_law_take : K.lookup v_law_take = some ⟨oc_law_take, od_law_take, .func (PySem.W.fnOf "_law_take" "_law_take" (defArgs s_law_take) (defBody s_law_take) (defScope s_law_take) .none kV_law_take dc_law_take pm_law_take an_law_take cd_law_take ct_law_take), sl_law_take⟩)
    (hc_law_take : PySem.W.codeIn K cd_law_take "_law_take" = true)
    (hk_law_take : PySem.W.keepIn K (.ref v_law_take) = true)
    (hm_law_whole : PySem.W.nsIn K mainGlobals "_law_whole" = some (some (.ref v_law_whole)))
    (hl_law_whole : K.lookup v_law_whole = some ⟨oc_law_whole, od_law_whole, .func (PySem.W.fnOf "_law_whole" "_law_whole" (defArgs s_law_whole) (defBody s_law_whole) (defScope s_law_whole) .none kV_law_whole dc_law_whole pm_law_whole an_law_whole cd_law_whole ct_law_whole), sl_law_whole⟩)
    (hc_law_whole : PySem.W.codeIn K cd_law_whole "_law_whole" = true)
    (hk_law_whole : PySem.W.keepIn K (.ref v_law_whole) = true)
    (hm_law_two : PySem.W.nsIn K mainGlobals "_law_two" = some (some (.ref v_law_two)))
    (hl_law_two : K.lookup v_law_two = some ⟨oc_law_two, od_law_two, .func (PySem.W.fnOf "_law_two" "_law_two" (defArgs s_law_two) (defBody s_law_two) (defScope s_law_two) .none kV_law_two dc_law_two pm_law_two an_law_two cd_law_two ct_law_two), sl_law_two⟩)
    (hc_law_two : PySem.W.codeIn K cd_law_two "_law_two" = true)
    (hk_law_two : PySem.W.keepIn K (.ref v_law_two) = true)
    (hm_law_led : PySem.W.nsIn K mainGlobals "_law_led" = some (some (.ref v_law_led)))
    (hl_law_led : K.lookup v_law_led = some ⟨oc_law_led, od_law_led, .func (PySem.W.fnOf "_law_led" "_law_led" (defArgs s_law_led) (defBody s_law_led) (defScope s_law_led) .none kV_law_led dc_law_led pm_law_led an_law_led cd_law_led ct_law_led), sl_law_led⟩)
    (hc_law_led : PySem.W.codeIn K cd_law_led "_law_led" = true)
    (hk_law_led : PySem.W.keepIn K (.ref v_law_led) = true)
    (hm_law_order : PySem.W.nsIn K mainGlobals "_law_order" = some (some (.ref v_law_order)))
    (hl_law_order : K.lookup v_law_order = some ⟨oc_law_order, od_law_order, .func (PySem.W.fnOf "_law_order" "_law_order" (defArgs s_law_order) (defBody s_law_order) (defScope s_law_order) .none kV_law_order dc_law_order pm_law_order an_law_order cd_law_order ct_law_order), sl_law_order⟩)
    (hc_law_order : PySem.W.codeIn K cd_law_order "_law_order" = true)
    (hk_law_order : PySem.W.keepIn K (.ref v_law_order) = true)
    (hm_law_bare : PySem.W.nsIn K mainGlobals "_law_bare" = some (some (.ref v_law_bare)))
    (hl_law_bare : K.lookup v_law_bare = some ⟨oc_law_bare, od_law_bare, .func (PySem.W.fnOf "_law_bare" "_law_bare" (defArgs s_law_bare) (defBody s_law_bare) (defScope s_law_bare) .none kV_law_bare dc_law_bare pm_law_bare an_law_bare cd_law_bare ct_law_bare), sl_law_bare⟩)
    (hc_law_bare : PySem.W.codeIn K cd_law_bare "_law_bare" = true)
    (hk_law_bare : PySem.W.keepIn K (.ref v_law_bare) = true)
    (hm_law_tree : PySem.W.nsIn K mainGlobals "_law_tree" = some (some (.ref v_law_tree)))
    (hl_law_tree : K.lookup v_law_tree = some ⟨oc_law_tree, od_law_tree, .func (PySem.W.fnOf "_law_tree" "_law_tree" (defArgs s_law_tree) (defBody s_law_tree) (defScope s_law_tree) .none kV_law_tree dc_law_tree pm_law_tree an_law_tree cd_law_tree ct_law_tree), sl_law_tree⟩)
    (hc_law_tree : PySem.W.codeIn K cd_law_tree "_law_tree" = true)
    (hk_law_tree : PySem.W.keepIn K (.ref v_law_tree) = true)
    (hm_law_masks : PySem.W.nsIn K mainGlobals "_law_masks" = some (some (.ref v_law_masks)))
    (hl_law_masks : K.lookup v_law_masks = some ⟨oc_law_masks, od_law_masks, .func (PySem.W.fnOf "_law_masks" "_law_masks" (defArgs s_law_masks) (defBody s_law_masks) (defScope s_law_masks) .none kV_law_masks dc_law_masks pm_law_masks an_law_masks cd_law_masks ct_law_masks), sl_law_masks⟩)
    (hc_law_masks : PySem.W.codeIn K cd_law_masks "_law_masks" = true)
    (hk_law_masks : PySem.W.keepIn K (.ref v_law_masks) = true)
    (hm_law_filled : PySem.W.nsIn K mainGlobals "_law_filled" = some (some (.ref v_law_filled)))
    (hl_law_filled : K.lookup v_law_filled = some ⟨oc_law_filled, od_law_filled, .func (PySem.W.fnOf "_law_filled" "_law_filled" (defArgs s_law_filled) (defBody s_law_filled) (defScope s_law_filled) .none kV_law_filled dc_law_filled pm_law_filled an_law_filled cd_law_filled ct_law_filled), sl_law_filled⟩)
    (hc_law_filled : PySem.W.codeIn K cd_law_filled "_law_filled" = true)
    (hk_law_filled : PySem.W.keepIn K (.ref v_law_filled) = true)
    (hm_law_held : PySem.W.nsIn K mainGlobals "_law_held" = some (some (.ref v_law_held)))
    (hl_law_held : K.lookup v_law_held = some ⟨oc_law_held, od_law_held, .func (PySem.W.fnOf "_law_held" "_law_held" (defArgs s_law_held) (defBody s_law_held) (defScope s_law_held) .none kV_law_held dc_law_held pm_law_held an_law_held cd_law_held ct_law_held), sl_law_held⟩)
    (hc_law_held : PySem.W.codeIn K cd_law_held "_law_held" = true)
    (hk_law_held : PySem.W.keepIn K (.ref v_law_held) = true)
    (hm_law_reach : PySem.W.nsIn K mainGlobals "_law_reach" = some (some (.ref v_law_reach)))
    (hl_law_reach : K.lookup v_law_reach = some ⟨oc_law_reach, od_law_reach, .func (PySem.W.fnOf "_law_reach" "_law_reach" (defArgs s_law_reach) (defBody s_law_reach) (defScope s_law_reach) .none kV_law_reach dc_law_reach pm_law_reach an_law_reach cd_law_reach ct_law_reach), sl_law_reach⟩)
    (hc_law_reach : PySem.W.codeIn K cd_law_reach "_law_reach" = true)
    (hk_law_reach : PySem.W.keepIn K (.ref v_law_reach) = true)
    (hm_law_price : PySem.W.nsIn K mainGlobals "_law_price" = some (some (.ref v_law_price)))
    (hl_law_price : K.lookup v_law_price = some ⟨oc_law_price, od_law_price, .func (PySem.W.fnOf "_law_price" "_law_price" (defArgs s_law_price) (defBody s_law_price) (defScope s_law_price) .none kV_law_price dc_law_price pm_law_price an_law_price cd_law_price ct_law_price), sl_law_price⟩)
    (hc_law_price : PySem.W.codeIn K cd_law_price "_law_price" = true)
    (hk_law_price : PySem.W.keepIn K (.ref v_law_price) = true)
    (hm_law_small_size : PySem.W.nsIn K mainGlobals "_law_small_size" = some (some (.ref v_law_small_size)))
    (hl_law_small_size : K.lookup v_law_small_size = some ⟨oc_law_small_size, od_law_small_size, .func (PySem.W.fnOf "_law_small_size" "_law_small_size" (defArgs s_law_small_size) (defBody s_law_small_size) (defScope s_law_small_size) .none kV_law_small_size dc_law_small_size pm_law_small_size an_law_small_size cd_law_small_size ct_law_small_size), sl_law_small_size⟩)
    (hc_law_small_size : PySem.W.codeIn K cd_law_small_size "_law_small_size" = true)
    (hk_law_small_size : PySem.W.keepIn K (.ref v_law_small_size) = true)
    (hm_law_any_bare : PySem.W.nsIn K mainGlobals "_law_any_bare" = some (some (.ref v_law_any_bare)))
    (hl_law_any_bare : K.lookup v_law_any_bare = some ⟨oc_law_any_bare, od_law_any_bare, .func (PySem.W.fnOf "_law_any_bare" "_law_any_bare" (defArgs s_law_any_bare) (defBody s_law_any_bare) (defScope s_law_any_bare) .none kV_law_any_bare dc_law_any_bare pm_law_any_bare an_law_any_bare cd_law_any_bare ct_law_any_bare), sl_law_any_bare⟩)
    (hc_law_any_bare : PySem.W.codeIn K cd_law_any_bare "_law_any_bare" = true)
    (hk_law_any_bare : PySem.W.keepIn K (.ref v_law_any_bare) = true)
    (hm_law_copied : PySem.W.nsIn K mainGlobals "_law_copied" = some (some (.ref v_law_copied)))
    (hl_law_copied : K.lookup v_law_copied = some ⟨oc_law_copied, od_law_copied, .func (PySem.W.fnOf "_law_copied" "_law_copied" (defArgs s_law_copied) (defBody s_law_copied) (defScope s_law_copied) .none kV_law_copied dc_law_copied pm_law_copied an_law_copied cd_law_copied ct_law_copied), sl_law_copied⟩)
    (hc_law_copied : PySem.W.codeIn K cd_law_copied "_law_copied" = true)
    (hk_law_copied : PySem.W.keepIn K (.ref v_law_copied) = true)
    (hm_law_places : PySem.W.nsIn K mainGlobals "_law_places" = some (some (.ref v_law_places)))
    (hl_law_places : K.lookup v_law_places = some ⟨oc_law_places, od_law_places, .func (PySem.W.fnOf "_law_places" "_law_places" (defArgs s_law_places) (defBody s_law_places) (defScope s_law_places) .none kV_law_places dc_law_places pm_law_places an_law_places cd_law_places ct_law_places), sl_law_places⟩)
    (hc_law_places : PySem.W.codeIn K cd_law_places "_law_places" = true)
    (hk_law_places : PySem.W.keepIn K (.ref v_law_places) = true)
    (hm_law_listed : PySem.W.nsIn K mainGlobals "_law_listed" = some (some (.ref v_law_listed)))
    (hl_law_listed : K.lookup v_law_listed = some ⟨oc_law_listed, od_law_listed, .func (PySem.W.fnOf "_law_listed" "_law_listed" (defArgs s_law_listed) (defBody s_law_listed) (defScope s_law_listed) .none kV_law_listed dc_law_listed pm_law_listed an_law_listed cd_law_listed ct_law_listed), sl_law_listed⟩)
    (hc_law_listed : PySem.W.codeIn K cd_law_listed "_law_listed" = true)
    (hk_law_listed : PySem.W.keepIn K (.ref v_law_listed) = true)
    (hm_law_least_way : PySem.W.nsIn K mainGlobals "_law_least_way" = some (some (.ref v_law_least_way)))
    (hl_law_least_way : K.lookup v_law_least_way = some ⟨oc_law_least_way, od_law_least_way, .func (PySem.W.fnOf "_law_least_way" "_law_least_way" (defArgs s_law_least_way) (defBody s_law_least_way) (defScope s_law_least_way) .none kV_law_least_way dc_law_least_way pm_law_least_way an_law_least_way cd_law_least_way ct_law_least_way), sl_law_least_way⟩)
    (hc_law_least_way : PySem.W.codeIn K cd_law_least_way "_law_least_way" = true)
    (hk_law_least_way : PySem.W.keepIn K (.ref v_law_least_way) = true)
    (hm_law_room_for : PySem.W.nsIn K mainGlobals "_law_room_for" = some (some (.ref v_law_room_for)))
    (hl_law_room_for : K.lookup v_law_room_for = some ⟨oc_law_room_for, od_law_room_for, .func (PySem.W.fnOf "_law_room_for" "_law_room_for" (defArgs s_law_room_for) (defBody s_law_room_for) (defScope s_law_room_for) .none kV_law_room_for dc_law_room_for pm_law_room_for an_law_room_for cd_law_room_for ct_law_room_for), sl_law_room_for⟩)
    (hc_law_room_for : PySem.W.codeIn K cd_law_room_for "_law_room_for" = true)
    (hk_law_room_for : PySem.W.keepIn K (.ref v_law_room_for) = true)
    (hm_law_shuffled : PySem.W.nsIn K mainGlobals "_law_shuffled" = some (some (.ref v_law_shuffled)))
    (hl_law_shuffled : K.lookup v_law_shuffled = some ⟨oc_law_shuffled, od_law_shuffled, .func (PySem.W.fnOf "_law_shuffled" "_law_shuffled" (defArgs s_law_shuffled) (defBody s_law_shuffled) (defScope s_law_shuffled) .none kV_law_shuffled dc_law_shuffled pm_law_shuffled an_law_shuffled cd_law_shuffled ct_law_shuffled), sl_law_shuffled⟩)
    (hc_law_shuffled : PySem.W.codeIn K cd_law_shuffled "_law_shuffled" = true)
    (hk_law_shuffled : PySem.W.keepIn K (.ref v_law_shuffled) = true)
    (hm_law_way_told : PySem.W.nsIn K mainGlobals "_law_way_told" = some (some (.ref v_law_way_told)))
    (hl_law_way_told : K.lookup v_law_way_told = some ⟨oc_law_way_told, od_law_way_told, .func (PySem.W.fnOf "_law_way_told" "_law_way_told" (defArgs s_law_way_told) (defBody s_law_way_told) (defScope s_law_way_told) .none kV_law_way_told dc_law_way_told pm_law_way_told an_law_way_told cd_law_way_told ct_law_way_told), sl_law_way_told⟩)
    (hc_law_way_told : PySem.W.codeIn K cd_law_way_told "_law_way_told" = true)
    (hk_law_way_told : PySem.W.keepIn K (.ref v_law_way_told) = true)
    (hm_law_great_refused : PySem.W.nsIn K mainGlobals "_law_great_refused" = some (some (.ref v_law_great_refused)))
    (hl_law_great_refused : K.lookup v_law_great_refused = some ⟨oc_law_great_refused, od_law_great_refused, .func (PySem.W.fnOf "_law_great_refused" "_law_great_refused" (defArgs s_law_great_refused) (defBody s_law_great_refused) (defScope s_law_great_refused) .none kV_law_great_refused dc_law_great_refused pm_law_great_refused an_law_great_refused cd_law_great_refused ct_law_great_refused), sl_law_great_refused⟩)
    (hc_law_great_refused : PySem.W.codeIn K cd_law_great_refused "_law_great_refused" = true)
    (hk_law_great_refused : PySem.W.keepIn K (.ref v_law_great_refused) = true)
    (hm_law_spoilt : PySem.W.nsIn K mainGlobals "_law_spoilt" = some (some (.ref v_law_spoilt)))
    (hl_law_spoilt : K.lookup v_law_spoilt = some ⟨oc_law_spoilt, od_law_spoilt, .func (PySem.W.fnOf "_law_spoilt" "_law_spoilt" (defArgs s_law_spoilt) (defBody s_law_spoilt) (defScope s_law_spoilt) .none kV_law_spoilt dc_law_spoilt pm_law_spoilt an_law_spoilt cd_law_spoilt ct_law_spoilt), sl_law_spoilt⟩)
    (hc_law_spoilt : PySem.W.codeIn K cd_law_spoilt "_law_spoilt" = true)
    (hk_law_spoilt : PySem.W.keepIn K (.ref v_law_spoilt) = true)
    (hm_law_refusals : PySem.W.nsIn K mainGlobals "_law_refusals" = some (some (.ref v_law_refusals)))
    (hl_law_refusals : K.lookup v_law_refusals = some ⟨oc_law_refusals, od_law_refusals, .func (PySem.W.fnOf "_law_refusals" "_law_refusals" (defArgs s_law_refusals) (defBody s_law_refusals) (defScope s_law_refusals) .none kV_law_refusals dc_law_refusals pm_law_refusals an_law_refusals cd_law_refusals ct_law_refusals), sl_law_refusals⟩)
    (hc_law_refusals : PySem.W.codeIn K cd_law_refusals "_law_refusals" = true)
    (hk_law_refusals : PySem.W.keepIn K (.ref v_law_refusals) = true)
    (hm_law_prices : PySem.W.nsIn K mainGlobals "_law_prices" = some (some (.ref v_law_prices)))
    (hl_law_prices : K.lookup v_law_prices = some ⟨oc_law_prices, od_law_prices, .func (PySem.W.fnOf "_law_prices" "_law_prices" (defArgs s_law_prices) (defBody s_law_prices) (defScope s_law_prices) .none kV_law_prices dc_law_prices pm_law_prices an_law_prices cd_law_prices ct_law_prices), sl_law_prices⟩)
    (hc_law_prices : PySem.W.codeIn K cd_law_prices "_law_prices" = true)
    (hk_law_prices : PySem.W.keepIn K (.ref v_law_prices) = true)
    (hm_law : PySem.W.nsIn K mainGlobals "law" = some (some (.ref v_law)))
    (hl_law : K.lookup v_law = some ⟨oc_law, od_law, .func (PySem.W.fnOf "law" "law" (defArgs s_law) (defBody s_law) (defScope s_law) .none kV_law dc_law pm_law an_law cd_law ct_law), sl_law⟩)
    (hc_law : PySem.W.codeIn K cd_law "law" = true)
    (hk_law : PySem.W.keepIn K (.ref v_law) = true)
    (hl_TooMany___init__ : K.lookup v_TooMany___init__ = some ⟨oc_TooMany___init__, od_TooMany___init__, .func (PySem.W.fnOf "__init__" "TooMany.__init__" (defArgs s_TooMany___init__) (defBody s_TooMany___init__) (defScope s_TooMany___init__) .none kV_TooMany___init__ dc_TooMany___init__ pm_TooMany___init__ an_TooMany___init__ cd_TooMany___init__ ct_TooMany___init__), sl_TooMany___init__⟩)
    (hc_TooMany___init__ : PySem.W.codeIn K cd_TooMany___init__ "TooMany.__init__" = true)
    (hk_TooMany___init__ : PySem.W.keepIn K (.ref v_TooMany___init__) = true)
    (hl_BadBare___init__ : K.lookup v_BadBare___init__ = some ⟨oc_BadBare___init__, od_BadBare___init__, .func (PySem.W.fnOf "__init__" "BadBare.__init__" (defArgs s_BadBare___init__) (defBody s_BadBare___init__) (defScope s_BadBare___init__) .none kV_BadBare___init__ dc_BadBare___init__ pm_BadBare___init__ an_BadBare___init__ cd_BadBare___init__ ct_BadBare___init__), sl_BadBare___init__⟩)
    (hc_BadBare___init__ : PySem.W.codeIn K cd_BadBare___init__ "BadBare.__init__" = true)
    (hk_BadBare___init__ : PySem.W.keepIn K (.ref v_BadBare___init__) = true)
    (hl_BadPlaces___init__ : K.lookup v_BadPlaces___init__ = some ⟨oc_BadPlaces___init__, od_BadPlaces___init__, .func (PySem.W.fnOf "__init__" "BadPlaces.__init__" (defArgs s_BadPlaces___init__) (defBody s_BadPlaces___init__) (defScope s_BadPlaces___init__) .none kV_BadPlaces___init__ dc_BadPlaces___init__ pm_BadPlaces___init__ an_BadPlaces___init__ cd_BadPlaces___init__ ct_BadPlaces___init__), sl_BadPlaces___init__⟩)
    (hc_BadPlaces___init__ : PySem.W.codeIn K cd_BadPlaces___init__ "BadPlaces.__init__" = true)
    (hk_BadPlaces___init__ : PySem.W.keepIn K (.ref v_BadPlaces___init__) = true)
    (hl_Bare___init__ : K.lookup v_Bare___init__ = some ⟨oc_Bare___init__, od_Bare___init__, .func (PySem.W.fnOf "__init__" "Bare.__init__" (defArgs s_Bare___init__) (defBody s_Bare___init__) (defScope s_Bare___init__) .none kV_Bare___init__ dc_Bare___init__ pm_Bare___init__ an_Bare___init__ cd_Bare___init__ ct_Bare___init__), sl_Bare___init__⟩)
    (hc_Bare___init__ : PySem.W.codeIn K cd_Bare___init__ "Bare.__init__" = true)
    (hk_Bare___init__ : PySem.W.keepIn K (.ref v_Bare___init__) = true)
    (hl_Bare___len__ : K.lookup v_Bare___len__ = some ⟨oc_Bare___len__, od_Bare___len__, .func (PySem.W.fnOf "__len__" "Bare.__len__" (defArgs s_Bare___len__) (defBody s_Bare___len__) (defScope s_Bare___len__) .none kV_Bare___len__ dc_Bare___len__ pm_Bare___len__ an_Bare___len__ cd_Bare___len__ ct_Bare___len__), sl_Bare___len__⟩)
    (hc_Bare___len__ : PySem.W.codeIn K cd_Bare___len__ "Bare.__len__" = true)
    (hk_Bare___len__ : PySem.W.keepIn K (.ref v_Bare___len__) = true)
    (hl_Bare___eq__ : K.lookup v_Bare___eq__ = some ⟨oc_Bare___eq__, od_Bare___eq__, .func (PySem.W.fnOf "__eq__" "Bare.__eq__" (defArgs s_Bare___eq__) (defBody s_Bare___eq__) (defScope s_Bare___eq__) .none kV_Bare___eq__ dc_Bare___eq__ pm_Bare___eq__ an_Bare___eq__ cd_Bare___eq__ ct_Bare___eq__), sl_Bare___eq__⟩)
    (hc_Bare___eq__ : PySem.W.codeIn K cd_Bare___eq__ "Bare.__eq__" = true)
    (hk_Bare___eq__ : PySem.W.keepIn K (.ref v_Bare___eq__) = true)
    (hm_MOST_PLACES : PySem.W.nsIn K mainGlobals "MOST_PLACES" = some (some (.int 200 t_MOST_PLACES)))
    (hm_MOST_ROOM : PySem.W.nsIn K mainGlobals "MOST_ROOM" = some (some (.int 200 t_MOST_ROOM)))
    (hm_MOST_SEARCHED : PySem.W.nsIn K mainGlobals "MOST_SEARCHED" = some (some (.int 8 t_MOST_SEARCHED)))
    (hz_ValueError : PySem.W.nsIn K mainGlobals "ValueError" = some none)
    (hz_abs : PySem.W.nsIn K mainGlobals "abs" = some none)
    (hz_all : PySem.W.nsIn K mainGlobals "all" = some none)
    (hz_any : PySem.W.nsIn K mainGlobals "any" = some none)
    (hz_bool : PySem.W.nsIn K mainGlobals "bool" = some none)
    (hz_enumerate : PySem.W.nsIn K mainGlobals "enumerate" = some none)
    (hz_int : PySem.W.nsIn K mainGlobals "int" = some none)
    (hz_isinstance : PySem.W.nsIn K mainGlobals "isinstance" = some none)
    (hz_len : PySem.W.nsIn K mainGlobals "len" = some none)
    (hz_list : PySem.W.nsIn K mainGlobals "list" = some none)
    (hz_range : PySem.W.nsIn K mainGlobals "range" = some none)
    (hz_set : PySem.W.nsIn K mainGlobals "set" = some none)
    (hz_sorted : PySem.W.nsIn K mainGlobals "sorted" = some none)
    (hz_sum : PySem.W.nsIn K mainGlobals "sum" = some none)
    (hz_tuple : PySem.W.nsIn K mainGlobals "tuple" = some none)
    (hm_UndoError : PySem.W.nsIn K mainGlobals "UndoError" = some (some (.ref u_c_UndoError)))
    (yc_mk_Bare : PySem.W.makesIn K w_Bare = true)
    (yc_fn_Bare : PySem.W.isFn K (.ref v_Bare___init__) = true)
    (yc_kp_Bare : PySem.W.keepIn K (.ref w_Bare) = true)
    (yc_pg_Bare : PySem.W.plainGet K w_Bare Str.empty = true)
    (yc_hd_Bare : PySem.W.hasDictIn K w_Bare = true)
    (yc_po_Bare : PySem.W.plainOver K w_Bare = true)
    (yc_sa_Bare : PySem.W.findIn K (.ref w_Bare) "__setattr__" = some (some (.builtin "object.__setattr__")))
    (yc_ha_Bare : PySem.W.findIn K (.ref w_Bare) "__class__" = some (some (.builtin "object.__class__")))
    (yc_hm_Bare : PySem.W.mroIn K w_Bare (.type "object") = some true)
    (yc_me_Bare : PySem.W.kitOne K (.ref w_Bare) (.ref w_Bare) = some true)
    (yc_hn : PySem.W.specialIn K (.builtin "object.__class__") "__get__" = some (some (.builtin "getset_descriptor.__get__")))
    (yc_ht : PySem.W.takesIn K (.builtin "object.__class__") = some true)
    (hfn_Bare___len__ : PySem.W.isFn K (.ref v_Bare___len__) = true)
    (hfn_Bare___eq__ : PySem.W.isFn K (.ref v_Bare___eq__) = true)
    (hne_Bare : PySem.W.findIn K (.ref w_Bare) "__ne__" = some (some (.builtin "object.__ne__")))
    (hna_Bare_befores : PySem.W.findIn K (.ref w_Bare) "befores" = some none)
    (hna_Bare_end : PySem.W.findIn K (.ref w_Bare) "end" = some none)
    (hna_Bare_afters : PySem.W.findIn K (.ref w_Bare) "afters" = some none)
    (hna_Bare_ordered : PySem.W.findIn K (.ref w_Bare) "ordered" = some none)
    (hna_Bare_needs : PySem.W.findIn K (.ref w_Bare) "needs" = some none)
    (ve_g : PySem.W.findIn K (.ref w_NoWay) "__getattribute__" = some (some (.builtin "BaseException.__getattribute__")))
    (ve_k : PySem.W.findIn K (.ref w_NoWay) "__getattr__" = some none)
    (ve_d : PySem.W.hasDictIn K w_NoWay = true)
    (ve_a : PySem.W.findIn K (.ref w_NoWay) "__class__" = some (some (.builtin "object.__class__")))
    (ve_m : PySem.W.mroIn K w_NoWay (.type "object") = some true)
    (vk_u : PySem.W.kitOne K (.ref w_NoWay) (.ref u_c_UndoError) = some true)
    (dt_reached_along : K.lookup T_reached_along = some ⟨.type "tuple", e_reached_along, .seq j_reached_along n_reached_along, r_reached_along⟩)
    (ti_reached_along : valsB [V.int 0] j_reached_along.toList = true)
    (tb_cd0 : cd_reached_standings = .ref c0)
    (tb_no0 : K.lookup P0 = none)
    (tb_hd0 : PySem.W.codeHdIn K c0 P0 = true)
    (tb_ne01 : P1 ≠ P0)
    (tb_ne02 : P2 ≠ P0)
    (tb_ne03 : P3 ≠ P0)
    (tb_cd1 : cd_price_of = .ref c1)
    (tb_no1 : K.lookup P1 = none)
    (tb_hd1 : PySem.W.codeHdIn K c1 P1 = true)
    (tb_ne10 : P0 ≠ P1)
    (tb_ne12 : P2 ≠ P1)
    (tb_ne13 : P3 ≠ P1)
    (tb_cd2 : cd_shown_price_of = .ref c2)
    (tb_no2 : K.lookup P2 = none)
    (tb_hd2 : PySem.W.codeHdIn K c2 P2 = true)
    (tb_ne20 : P0 ≠ P2)
    (tb_ne21 : P1 ≠ P2)
    (tb_ne23 : P3 ≠ P2)
    (tb_cd3 : cd_ready_price_of = .ref c3)
    (tb_no3 : K.lookup P3 = none)
    (tb_hd3 : PySem.W.codeHdIn K c3 P3 = true)
    (tb_ne30 : P0 ≠ P3)
    (tb_ne31 : P1 ≠ P3)
    (tb_ne32 : P2 ≠ P3) :
    ∃ (fd : FuncData) (cs : List (Addr × Addr)) (TL : List (Addr × Str)), (∀ p ∈ cs, h.get? p.2 = some { cls := .none, data := .fields #[] }) ∧ (∀ p ∈ cs, K.lookup p.2 = none) ∧ (∀ p ∈ cs, PySem.W.CodeHd h p.1 p.2) ∧ (∀ (s : Shared) (u : Value), BindsTo s fd ⟨[u], []⟩ [("_law_script", u)]) ∧ (∀ t ∈ TL, ∃ p ∈ cs, p.2 = t.1) ∧ ∀ base : Heap, K.In base → base.Ns mainGlobals mg → (∀ p ∈ cs, LamX.TabB base mg p.1 p.2) → FnOk P w K mg base (L2.CX P w) 8 fa fd ["_law_script"] (spLawT K TL) := by
  have e := hfa.symm.trans (PySem.W.mg_of X G hm_law)
  cases e
  have F_is_whole := fun_mk (st := s_is_whole) hl_is_whole hc_is_whole hk_is_whole
  have b_is_whole := F_is_whole.binds (ps := ["thing"]) fun _ _ _ _ _ _ us hl => match us, hl with | [_], _ => rfl
  have F_is_within := fun_mk (st := s_is_within) hl_is_within hc_is_within hk_is_within
  have b_is_within := F_is_within.binds (ps := ["thing", "least", "most"]) fun _ _ _ _ _ _ us hl => match us, hl with | [_, _, _], _ => rfl
  have F_is_sequence := fun_mk (st := s_is_sequence) hl_is_sequence hc_is_sequence hk_is_sequence
  have b_is_sequence := F_is_sequence.binds (ps := ["thing"]) fun _ _ _ _ _ _ us hl => match us, hl with | [_], _ => rfl
  have F_mask_of := fun_mk (st := s_mask_of) hl_mask_of hc_mask_of hk_mask_of
  have b_mask_of := F_mask_of.binds (ps := ["places"]) fun _ _ _ _ _ _ us hl => match us, hl with | [_], _ => rfl
  have F_places_in := fun_mk (st := s_places_in) hl_places_in hc_places_in hk_places_in
  have b_places_in := F_places_in.binds (ps := ["mask"]) fun _ _ _ _ _ _ us hl => match us, hl with | [_], _ => rfl
  have F_is_place := fun_mk (st := s_is_place) hl_is_place hc_is_place hk_is_place
  have b_is_place := F_is_place.binds (ps := ["bare", "thing"]) fun _ _ _ _ _ _ us hl => match us, hl with | [_, _], _ => rfl
  have F_check_places := fun_mk (st := s_check_places) hl_check_places hc_check_places hk_check_places
  have b_check_places := F_check_places.binds (ps := ["bare", "places"]) fun _ _ _ _ _ _ us hl => match us, hl with | [_, _], _ => rfl
  have F_is_before_list := fun_mk (st := s_is_before_list) hl_is_before_list hc_is_before_list hk_is_before_list
  have b_is_before_list := F_is_before_list.binds (ps := ["thing", "place", "many"]) fun _ _ _ _ _ _ us hl => match us, hl with | [_, _, _], _ => rfl
  have F_checked_befores := fun_mk (st := s_checked_befores) hl_checked_befores hc_checked_befores hk_checked_befores
  have b_checked_befores := F_checked_befores.binds (ps := ["befores"]) fun _ _ _ _ _ _ us hl => match us, hl with | [_], _ => rfl
  have F_afters_of := fun_mk (st := s_afters_of) hl_afters_of hc_afters_of hk_afters_of
  have b_afters_of := F_afters_of.binds (ps := ["befores"]) fun _ _ _ _ _ _ us hl => match us, hl with | [_], _ => rfl
  have F_ordered_of := fun_mk (st := s_ordered_of) hl_ordered_of hc_ordered_of hk_ordered_of
  have b_ordered_of := F_ordered_of.binds (ps := ["befores", "afters"]) fun _ _ _ _ _ _ us hl => match us, hl with | [_, _], _ => rfl
  have F_reached_along : FunD K "reached_along" "reached_along" (defArgs s_reached_along) (defBody s_reached_along) (defScope s_reached_along) [V.int 0] [] v_reached_along (PySem.W.fnOf "reached_along" "reached_along" (defArgs s_reached_along) (defBody s_reached_along) (defScope s_reached_along) (.ref T_reached_along) kV_reached_along dc_reached_along pm_reached_along an_reached_along cd_reached_along ct_reached_along) := ⟨⟨_, _, _, _, _, _, _, _, _, _, rfl, hl_reached_along, hc_reached_along, .inr ⟨by simp, T_reached_along, _, j_reached_along.toList, n_reached_along, rfl, dt_reached_along, by simp, valsB_ok ti_reached_along⟩, .inl rfl⟩, hk_reached_along⟩
  have b_reached_along : ∃ ds, Vals [V.int 0] ds ∧ Binds K (PySem.W.fnOf "reached_along" "reached_along" (defArgs s_reached_along) (defBody s_reached_along) (defScope s_reached_along) (.ref T_reached_along) kV_reached_along dc_reached_along pm_reached_along an_reached_along cd_reached_along ct_reached_along) ["arrows", "place", "barred"] ds := FunD.binds1 (ps := ["arrows", "place", "barred"]) F_reached_along 2 0 (by simp) rfl fun T kV doc pm an cdv ct us its h1 h2 => match us, its, h1, h2 with | [_, _], [_], _, _ => ⟨_, rfl, rfl⟩
  have F_check_rings := fun_mk (st := s_check_rings) hl_check_rings hc_check_rings hk_check_rings
  have b_check_rings := F_check_rings.binds (ps := ["befores"]) fun _ _ _ _ _ _ us hl => match us, hl with | [_], _ => rfl
  have F_check_roads := fun_mk (st := s_check_roads) hl_check_roads hc_check_roads hk_check_roads
  have b_check_roads := F_check_roads.binds (ps := ["befores", "end"]) fun _ _ _ _ _ _ us hl => match us, hl with | [_, _], _ => rfl
  have F_check_room := fun_mk (st := s_check_room) hl_check_room hc_check_room hk_check_room
  have b_check_room := F_check_room.binds (ps := ["room"]) fun _ _ _ _ _ _ us hl => match us, hl with | [_], _ => rfl
  have F_check_small := fun_mk (st := s_check_small) hl_check_small hc_check_small hk_check_small
  have b_check_small := F_check_small.binds (ps := ["bare"]) fun _ _ _ _ _ _ us hl => match us, hl with | [_], _ => rfl
  have F_moves_at := fun_mk (st := s_moves_at) hl_moves_at hc_moves_at hk_moves_at
  have b_moves_at := F_moves_at.binds (ps := ["bare", "standing", "many", "room"]) fun _ _ _ _ _ _ us hl => match us, hl with | [_, _, _, _], _ => rfl
  have F_distances_from := fun_mk (st := s_distances_from) hl_distances_from hc_distances_from hk_distances_from
  have b_distances_from := F_distances_from.binds (ps := ["bare", "room", "start"]) fun _ _ _ _ _ _ us hl => match us, hl with | [_, _, _], _ => rfl
  have F_reached_standings := fun_mk (st := s_reached_standings) hl_reached_standings hc_reached_standings hk_reached_standings
  have b_reached_standings := F_reached_standings.binds (ps := ["bare", "room"]) fun _ _ _ _ _ _ us hl => match us, hl with | [_, _], _ => rfl
  have F_least_way := fun_mk (st := s_least_way) hl_least_way hc_least_way hk_least_way
  have b_least_way := F_least_way.binds (ps := ["bare", "room", "first", "last"]) fun _ _ _ _ _ _ us hl => match us, hl with | [_, _, _, _], _ => rfl
  have F_way_between := fun_mk (st := s_way_between) hl_way_between hc_way_between hk_way_between
  have b_way_between := F_way_between.binds (ps := ["bare", "room", "start", "goal"]) fun _ _ _ _ _ _ us hl => match us, hl with | [_, _, _, _], _ => rfl
  have F_least_room := fun_mk (st := s_least_room) hl_least_room hc_least_room hk_least_room
  have b_least_room := F_least_room.binds (ps := ["bare", "is_wanted"]) fun _ _ _ _ _ _ us hl => match us, hl with | [_, _], _ => rfl
  have F_price_of := fun_mk (st := s_price_of) hl_price_of hc_price_of hk_price_of
  have b_price_of := F_price_of.binds (ps := ["bare"]) fun _ _ _ _ _ _ us hl => match us, hl with | [_], _ => rfl
  have F_shown_price_of := fun_mk (st := s_shown_price_of) hl_shown_price_of hc_shown_price_of hk_shown_price_of
  have b_shown_price_of := F_shown_price_of.binds (ps := ["bare"]) fun _ _ _ _ _ _ us hl => match us, hl with | [_], _ => rfl
  have F_ready_price_of := fun_mk (st := s_ready_price_of) hl_ready_price_of hc_ready_price_of hk_ready_price_of
  have b_ready_price_of := F_ready_price_of.binds (ps := ["bare"]) fun _ _ _ _ _ _ us hl => match us, hl with | [_], _ => rfl
  have F_law_hand := fun_mk (st := s_law_hand) hl_law_hand hc_law_hand hk_law_hand
  have b_law_hand := F_law_hand.binds (ps := ["_law_script"]) fun _ _ _ _ _ _ us hl => match us, hl with | [_], _ => rfl
  have F_law_mixed := fun_mk (st := s_law_mixed) hl_law_mixed hc_law_mixed hk_law_mixed
  have b_law_mixed := F_law_mixed.binds (ps := ["_law_number", "_law_turn"]) fun _ _ _ _ _ _ us hl => match us, hl with | [_, _], _ => rfl
  have F_law_take := fun_mk (st := s_law_take) hl_law_take hc_law_take hk_law_take
  have b_law_take := F_law_take.binds (ps := ["_law_hand_here", "_law_many"]) fun _ _ _ _ _ _ us hl => match us, hl with | [_, _], _ => rfl
  have F_law_whole := fun_mk (st := s_law_whole) hl_law_whole hc_law_whole hk_law_whole
  have b_law_whole := F_law_whole.binds (ps := ["_law_thing"]) fun _ _ _ _ _ _ us hl => match us, hl with | [_], _ => rfl
  have F_law_two := fun_mk (st := s_law_two) hl_law_two hc_law_two hk_law_two
  have b_law_two := F_law_two.binds (ps := ["_law_n"]) fun _ _ _ _ _ _ us hl => match us, hl with | [_], _ => rfl
  have F_law_led := fun_mk (st := s_law_led) hl_law_led hc_law_led hk_law_led
  have b_law_led := F_law_led.binds (ps := ["_law_befores", "_law_places_here"]) fun _ _ _ _ _ _ us hl => match us, hl with | [_, _], _ => rfl
  have F_law_order := fun_mk (st := s_law_order) hl_law_order hc_law_order hk_law_order
  have b_law_order := F_law_order.binds (ps := ["_law_hand_here", "_law_many"]) fun _ _ _ _ _ _ us hl => match us, hl with | [_, _], _ => rfl
  have F_law_bare := fun_mk (st := s_law_bare) hl_law_bare hc_law_bare hk_law_bare
  have b_law_bare := F_law_bare.binds (ps := ["_law_hand_here", "_law_many", "_law_share", "_law_mixed_here"]) fun _ _ _ _ _ _ us hl => match us, hl with | [_, _, _, _], _ => rfl
  have F_law_tree := fun_mk (st := s_law_tree) hl_law_tree hc_law_tree hk_law_tree
  have b_law_tree := F_law_tree.binds (ps := ["_law_hand_here", "_law_many", "_law_mixed_here"]) fun _ _ _ _ _ _ us hl => match us, hl with | [_, _, _], _ => rfl
  have F_law_masks := fun_mk (st := s_law_masks) hl_law_masks hc_law_masks hk_law_masks
  have b_law_masks := F_law_masks.binds (ps := ["_law_befores"]) fun _ _ _ _ _ _ us hl => match us, hl with | [_], _ => rfl
  have F_law_filled := fun_mk (st := s_law_filled) hl_law_filled hc_law_filled hk_law_filled
  have b_law_filled := F_law_filled.binds (ps := ["_law_mask", "_law_many"]) fun _ _ _ _ _ _ us hl => match us, hl with | [_, _], _ => rfl
  have F_law_held := fun_mk (st := s_law_held) hl_law_held hc_law_held hk_law_held
  have b_law_held := F_law_held.binds (ps := ["_law_mask", "_law_part"]) fun _ _ _ _ _ _ us hl => match us, hl with | [_, _], _ => rfl
  have F_law_reach := fun_mk (st := s_law_reach) hl_law_reach hc_law_reach hk_law_reach
  have b_law_reach := F_law_reach.binds (ps := ["_law_befores", "_law_room", "_law_start"]) fun _ _ _ _ _ _ us hl => match us, hl with | [_, _, _], _ => rfl
  have F_law_price := fun_mk (st := s_law_price) hl_law_price hc_law_price hk_law_price
  have b_law_price := F_law_price.binds (ps := ["_law_befores", "_law_end"]) fun _ _ _ _ _ _ us hl => match us, hl with | [_, _], _ => rfl
  have F_law_small_size := fun_mk (st := s_law_small_size) hl_law_small_size hc_law_small_size hk_law_small_size
  have b_law_small_size := F_law_small_size.binds (ps := ["_law_hand_here"]) fun _ _ _ _ _ _ us hl => match us, hl with | [_], _ => rfl
  have F_law_any_bare := fun_mk (st := s_law_any_bare) hl_law_any_bare hc_law_any_bare hk_law_any_bare
  have b_law_any_bare := F_law_any_bare.binds (ps := ["_law_hand_here", "_law_many"]) fun _ _ _ _ _ _ us hl => match us, hl with | [_, _], _ => rfl
  have F_law_copied := fun_mk (st := s_law_copied) hl_law_copied hc_law_copied hk_law_copied
  have b_law_copied := F_law_copied.binds (ps := ["_law_rows"]) fun _ _ _ _ _ _ us hl => match us, hl with | [_], _ => rfl
  have F_law_places := fun_mk (st := s_law_places) hl_law_places hc_law_places hk_law_places
  have b_law_places := F_law_places.binds (ps := ["_law_thing"]) fun _ _ _ _ _ _ us hl => match us, hl with | [_], _ => rfl
  have F_law_listed := fun_mk (st := s_law_listed) hl_law_listed hc_law_listed hk_law_listed
  have b_law_listed := F_law_listed.binds (ps := ["_law_masks_here", "_law_many"]) fun _ _ _ _ _ _ us hl => match us, hl with | [_, _], _ => rfl
  have F_law_least_way := fun_mk (st := s_law_least_way) hl_law_least_way hc_law_least_way hk_law_least_way
  have b_law_least_way := F_law_least_way.binds (ps := ["_law_befores", "_law_room", "_law_first", "_law_last"]) fun _ _ _ _ _ _ us hl => match us, hl with | [_, _, _, _], _ => rfl
  have F_law_room_for := fun_mk (st := s_law_room_for) hl_law_room_for hc_law_room_for hk_law_room_for
  have b_law_room_for := F_law_room_for.binds (ps := ["_law_befores", "_law_wanted"]) fun _ _ _ _ _ _ us hl => match us, hl with | [_, _], _ => rfl
  have F_law_shuffled := fun_mk (st := s_law_shuffled) hl_law_shuffled hc_law_shuffled hk_law_shuffled
  have b_law_shuffled := F_law_shuffled.binds (ps := ["_law_hand_here", "_law_things"]) fun _ _ _ _ _ _ us hl => match us, hl with | [_, _], _ => rfl
  have F_law_way_told := fun_mk (st := s_law_way_told) hl_law_way_told hc_law_way_told hk_law_way_told
  have b_law_way_told := F_law_way_told.binds (ps := ["_law_bare_here", "_law_room", "_law_first", "_law_last"]) fun _ _ _ _ _ _ us hl => match us, hl with | [_, _, _, _], _ => rfl
  have F_law_great_refused := fun_mk (st := s_law_great_refused) hl_law_great_refused hc_law_great_refused hk_law_great_refused
  have b_law_great_refused := F_law_great_refused.binds (ps := ["_law_which", "_law_bare_here"]) fun _ _ _ _ _ _ us hl => match us, hl with | [_, _], _ => rfl
  have F_law_spoilt := fun_mk (st := s_law_spoilt) hl_law_spoilt hc_law_spoilt hk_law_spoilt
  have b_law_spoilt := F_law_spoilt.binds (ps := ["_law_hand_here", "_law_places_here", "_law_many"]) fun _ _ _ _ _ _ us hl => match us, hl with | [_, _, _], _ => rfl
  have F_law_refusals := fun_mk (st := s_law_refusals) hl_law_refusals hc_law_refusals hk_law_refusals
  have b_law_refusals := F_law_refusals.binds (ps := ["_law_hand_here", "_law_bare_here", "_law_many", "_law_first", "_law_last"]) fun _ _ _ _ _ _ us hl => match us, hl with | [_, _, _, _, _], _ => rfl
  have F_law_prices := fun_mk (st := s_law_prices) hl_law_prices hc_law_prices hk_law_prices
  have b_law_prices := F_law_prices.binds (ps := ["_law_befores", "_law_end", "_law_bare_here"]) fun _ _ _ _ _ _ us hl => match us, hl with | [_, _, _], _ => rfl
  have F_law := fun_mk (st := s_law) hl_law hc_law hk_law
  have b_law := F_law.binds (ps := ["_law_script"]) fun _ _ _ _ _ _ us hl => match us, hl with | [_], _ => rfl
  have F_TooMany___init__ := fun_mk (st := s_TooMany___init__) hl_TooMany___init__ hc_TooMany___init__ hk_TooMany___init__
  have b_TooMany___init__ := F_TooMany___init__.binds (ps := ["self", "most"]) fun _ _ _ _ _ _ us hl => match us, hl with | [_, _], _ => rfl
  have F_BadBare___init__ := fun_mk (st := s_BadBare___init__) hl_BadBare___init__ hc_BadBare___init__ hk_BadBare___init__
  have b_BadBare___init__ := F_BadBare___init__.binds (ps := ["self", "place", "what"]) fun _ _ _ _ _ _ us hl => match us, hl with | [_, _, _], _ => rfl
  have F_BadPlaces___init__ := fun_mk (st := s_BadPlaces___init__) hl_BadPlaces___init__ hc_BadPlaces___init__ hk_BadPlaces___init__
  have b_BadPlaces___init__ := F_BadPlaces___init__.binds (ps := ["self", "index"]) fun _ _ _ _ _ _ us hl => match us, hl with | [_, _], _ => rfl
  have F_Bare___init__ := fun_mk (st := s_Bare___init__) hl_Bare___init__ hc_Bare___init__ hk_Bare___init__
  have b_Bare___init__ := F_Bare___init__.binds (ps := ["self", "befores", "end"]) fun _ _ _ _ _ _ us hl => match us, hl with | [_, _, _], _ => rfl
  have F_Bare___len__ := fun_mk (st := s_Bare___len__) hl_Bare___len__ hc_Bare___len__ hk_Bare___len__
  have b_Bare___len__ := F_Bare___len__.binds (ps := ["self"]) fun _ _ _ _ _ _ us hl => match us, hl with | [_], _ => rfl
  have F_Bare___eq__ := fun_mk (st := s_Bare___eq__) hl_Bare___eq__ hc_Bare___eq__ hk_Bare___eq__
  have b_Bare___eq__ := F_Bare___eq__.binds (ps := ["self", "other"]) fun _ _ _ _ _ _ us hl => match us, hl with | [_, _], _ => rfl
  have T : Txt K mg ⟨v_is_whole, (PySem.W.fnOf "is_whole" "is_whole" (defArgs s_is_whole) (defBody s_is_whole) (defScope s_is_whole) .none kV_is_whole dc_is_whole pm_is_whole an_is_whole cd_is_whole ct_is_whole), v_is_within, (PySem.W.fnOf "is_within" "is_within" (defArgs s_is_within) (defBody s_is_within) (defScope s_is_within) .none kV_is_within dc_is_within pm_is_within an_is_within cd_is_within ct_is_within), v_is_sequence, (PySem.W.fnOf "is_sequence" "is_sequence" (defArgs s_is_sequence) (defBody s_is_sequence) (defScope s_is_sequence) .none kV_is_sequence dc_is_sequence pm_is_sequence an_is_sequence cd_is_sequence ct_is_sequence), v_mask_of, (PySem.W.fnOf "mask_of" "mask_of" (defArgs s_mask_of) (defBody s_mask_of) (defScope s_mask_of) .none kV_mask_of dc_mask_of pm_mask_of an_mask_of cd_mask_of ct_mask_of), v_places_in, (PySem.W.fnOf "places_in" "places_in" (defArgs s_places_in) (defBody s_places_in) (defScope s_places_in) .none kV_places_in dc_places_in pm_places_in an_places_in cd_places_in ct_places_in), v_is_place, (PySem.W.fnOf "is_place" "is_place" (defArgs s_is_place) (defBody s_is_place) (defScope s_is_place) .none kV_is_place dc_is_place pm_is_place an_is_place cd_is_place ct_is_place), v_check_places, (PySem.W.fnOf "check_places" "check_places" (defArgs s_check_places) (defBody s_check_places) (defScope s_check_places) .none kV_check_places dc_check_places pm_check_places an_check_places cd_check_places ct_check_places), v_is_before_list, (PySem.W.fnOf "is_before_list" "is_before_list" (defArgs s_is_before_list) (defBody s_is_before_list) (defScope s_is_before_list) .none kV_is_before_list dc_is_before_list pm_is_before_list an_is_before_list cd_is_before_list ct_is_before_list), v_checked_befores, (PySem.W.fnOf "checked_befores" "checked_befores" (defArgs s_checked_befores) (defBody s_checked_befores) (defScope s_checked_befores) .none kV_checked_befores dc_checked_befores pm_checked_befores an_checked_befores cd_checked_befores ct_checked_befores), v_afters_of, (PySem.W.fnOf "afters_of" "afters_of" (defArgs s_afters_of) (defBody s_afters_of) (defScope s_afters_of) .none kV_afters_of dc_afters_of pm_afters_of an_afters_of cd_afters_of ct_afters_of), v_ordered_of, (PySem.W.fnOf "ordered_of" "ordered_of" (defArgs s_ordered_of) (defBody s_ordered_of) (defScope s_ordered_of) .none kV_ordered_of dc_ordered_of pm_ordered_of an_ordered_of cd_ordered_of ct_ordered_of), v_reached_along, (PySem.W.fnOf "reached_along" "reached_along" (defArgs s_reached_along) (defBody s_reached_along) (defScope s_reached_along) (.ref T_reached_along) kV_reached_along dc_reached_along pm_reached_along an_reached_along cd_reached_along ct_reached_along), v_check_rings, (PySem.W.fnOf "check_rings" "check_rings" (defArgs s_check_rings) (defBody s_check_rings) (defScope s_check_rings) .none kV_check_rings dc_check_rings pm_check_rings an_check_rings cd_check_rings ct_check_rings), v_check_roads, (PySem.W.fnOf "check_roads" "check_roads" (defArgs s_check_roads) (defBody s_check_roads) (defScope s_check_roads) .none kV_check_roads dc_check_roads pm_check_roads an_check_roads cd_check_roads ct_check_roads), v_check_room, (PySem.W.fnOf "check_room" "check_room" (defArgs s_check_room) (defBody s_check_room) (defScope s_check_room) .none kV_check_room dc_check_room pm_check_room an_check_room cd_check_room ct_check_room), v_check_small, (PySem.W.fnOf "check_small" "check_small" (defArgs s_check_small) (defBody s_check_small) (defScope s_check_small) .none kV_check_small dc_check_small pm_check_small an_check_small cd_check_small ct_check_small), v_moves_at, (PySem.W.fnOf "moves_at" "moves_at" (defArgs s_moves_at) (defBody s_moves_at) (defScope s_moves_at) .none kV_moves_at dc_moves_at pm_moves_at an_moves_at cd_moves_at ct_moves_at), v_distances_from, (PySem.W.fnOf "distances_from" "distances_from" (defArgs s_distances_from) (defBody s_distances_from) (defScope s_distances_from) .none kV_distances_from dc_distances_from pm_distances_from an_distances_from cd_distances_from ct_distances_from), v_reached_standings, (PySem.W.fnOf "reached_standings" "reached_standings" (defArgs s_reached_standings) (defBody s_reached_standings) (defScope s_reached_standings) .none kV_reached_standings dc_reached_standings pm_reached_standings an_reached_standings cd_reached_standings ct_reached_standings), v_least_way, (PySem.W.fnOf "least_way" "least_way" (defArgs s_least_way) (defBody s_least_way) (defScope s_least_way) .none kV_least_way dc_least_way pm_least_way an_least_way cd_least_way ct_least_way), v_way_between, (PySem.W.fnOf "way_between" "way_between" (defArgs s_way_between) (defBody s_way_between) (defScope s_way_between) .none kV_way_between dc_way_between pm_way_between an_way_between cd_way_between ct_way_between), v_least_room, (PySem.W.fnOf "least_room" "least_room" (defArgs s_least_room) (defBody s_least_room) (defScope s_least_room) .none kV_least_room dc_least_room pm_least_room an_least_room cd_least_room ct_least_room), v_price_of, (PySem.W.fnOf "price_of" "price_of" (defArgs s_price_of) (defBody s_price_of) (defScope s_price_of) .none kV_price_of dc_price_of pm_price_of an_price_of cd_price_of ct_price_of), v_shown_price_of, (PySem.W.fnOf "shown_price_of" "shown_price_of" (defArgs s_shown_price_of) (defBody s_shown_price_of) (defScope s_shown_price_of) .none kV_shown_price_of dc_shown_price_of pm_shown_price_of an_shown_price_of cd_shown_price_of ct_shown_price_of), v_ready_price_of, (PySem.W.fnOf "ready_price_of" "ready_price_of" (defArgs s_ready_price_of) (defBody s_ready_price_of) (defScope s_ready_price_of) .none kV_ready_price_of dc_ready_price_of pm_ready_price_of an_ready_price_of cd_ready_price_of ct_ready_price_of), v_law_hand, (PySem.W.fnOf "_law_hand" "_law_hand" (defArgs s_law_hand) (defBody s_law_hand) (defScope s_law_hand) .none kV_law_hand dc_law_hand pm_law_hand an_law_hand cd_law_hand ct_law_hand), v_law_mixed, (PySem.W.fnOf "_law_mixed" "_law_mixed" (defArgs s_law_mixed) (defBody s_law_mixed) (defScope s_law_mixed) .none kV_law_mixed dc_law_mixed pm_law_mixed an_law_mixed cd_law_mixed ct_law_mixed), v_law_take, (PySem.W.fnOf "_law_take" "_law_take" (defArgs s_law_take) (defBody s_law_take) (defScope s_law_take) .none kV_law_take dc_law_take pm_law_take an_law_take cd_law_take ct_law_take), v_law_whole, (PySem.W.fnOf "_law_whole" "_law_whole" (defArgs s_law_whole) (defBody s_law_whole) (defScope s_law_whole) .none kV_law_whole dc_law_whole pm_law_whole an_law_whole cd_law_whole ct_law_whole), v_law_two, (PySem.W.fnOf "_law_two" "_law_two" (defArgs s_law_two) (defBody s_law_two) (defScope s_law_two) .none kV_law_two dc_law_two pm_law_two an_law_two cd_law_two ct_law_two), v_law_led, (PySem.W.fnOf "_law_led" "_law_led" (defArgs s_law_led) (defBody s_law_led) (defScope s_law_led) .none kV_law_led dc_law_led pm_law_led an_law_led cd_law_led ct_law_led), v_law_order, (PySem.W.fnOf "_law_order" "_law_order" (defArgs s_law_order) (defBody s_law_order) (defScope s_law_order) .none kV_law_order dc_law_order pm_law_order an_law_order cd_law_order ct_law_order), v_law_bare, (PySem.W.fnOf "_law_bare" "_law_bare" (defArgs s_law_bare) (defBody s_law_bare) (defScope s_law_bare) .none kV_law_bare dc_law_bare pm_law_bare an_law_bare cd_law_bare ct_law_bare), v_law_tree, (PySem.W.fnOf "_law_tree" "_law_tree" (defArgs s_law_tree) (defBody s_law_tree) (defScope s_law_tree) .none kV_law_tree dc_law_tree pm_law_tree an_law_tree cd_law_tree ct_law_tree), v_law_masks, (PySem.W.fnOf "_law_masks" "_law_masks" (defArgs s_law_masks) (defBody s_law_masks) (defScope s_law_masks) .none kV_law_masks dc_law_masks pm_law_masks an_law_masks cd_law_masks ct_law_masks), v_law_filled, (PySem.W.fnOf "_law_filled" "_law_filled" (defArgs s_law_filled) (defBody s_law_filled) (defScope s_law_filled) .none kV_law_filled dc_law_filled pm_law_filled an_law_filled cd_law_filled ct_law_filled), v_law_held, (PySem.W.fnOf "_law_held" "_law_held" (defArgs s_law_held) (defBody s_law_held) (defScope s_law_held) .none kV_law_held dc_law_held pm_law_held an_law_held cd_law_held ct_law_held), v_law_reach, (PySem.W.fnOf "_law_reach" "_law_reach" (defArgs s_law_reach) (defBody s_law_reach) (defScope s_law_reach) .none kV_law_reach dc_law_reach pm_law_reach an_law_reach cd_law_reach ct_law_reach), v_law_price, (PySem.W.fnOf "_law_price" "_law_price" (defArgs s_law_price) (defBody s_law_price) (defScope s_law_price) .none kV_law_price dc_law_price pm_law_price an_law_price cd_law_price ct_law_price), v_law_small_size, (PySem.W.fnOf "_law_small_size" "_law_small_size" (defArgs s_law_small_size) (defBody s_law_small_size) (defScope s_law_small_size) .none kV_law_small_size dc_law_small_size pm_law_small_size an_law_small_size cd_law_small_size ct_law_small_size), v_law_any_bare, (PySem.W.fnOf "_law_any_bare" "_law_any_bare" (defArgs s_law_any_bare) (defBody s_law_any_bare) (defScope s_law_any_bare) .none kV_law_any_bare dc_law_any_bare pm_law_any_bare an_law_any_bare cd_law_any_bare ct_law_any_bare), v_law_copied, (PySem.W.fnOf "_law_copied" "_law_copied" (defArgs s_law_copied) (defBody s_law_copied) (defScope s_law_copied) .none kV_law_copied dc_law_copied pm_law_copied an_law_copied cd_law_copied ct_law_copied), v_law_places, (PySem.W.fnOf "_law_places" "_law_places" (defArgs s_law_places) (defBody s_law_places) (defScope s_law_places) .none kV_law_places dc_law_places pm_law_places an_law_places cd_law_places ct_law_places), v_law_listed, (PySem.W.fnOf "_law_listed" "_law_listed" (defArgs s_law_listed) (defBody s_law_listed) (defScope s_law_listed) .none kV_law_listed dc_law_listed pm_law_listed an_law_listed cd_law_listed ct_law_listed), v_law_least_way, (PySem.W.fnOf "_law_least_way" "_law_least_way" (defArgs s_law_least_way) (defBody s_law_least_way) (defScope s_law_least_way) .none kV_law_least_way dc_law_least_way pm_law_least_way an_law_least_way cd_law_least_way ct_law_least_way), v_law_room_for, (PySem.W.fnOf "_law_room_for" "_law_room_for" (defArgs s_law_room_for) (defBody s_law_room_for) (defScope s_law_room_for) .none kV_law_room_for dc_law_room_for pm_law_room_for an_law_room_for cd_law_room_for ct_law_room_for), v_law_shuffled, (PySem.W.fnOf "_law_shuffled" "_law_shuffled" (defArgs s_law_shuffled) (defBody s_law_shuffled) (defScope s_law_shuffled) .none kV_law_shuffled dc_law_shuffled pm_law_shuffled an_law_shuffled cd_law_shuffled ct_law_shuffled), v_law_way_told, (PySem.W.fnOf "_law_way_told" "_law_way_told" (defArgs s_law_way_told) (defBody s_law_way_told) (defScope s_law_way_told) .none kV_law_way_told dc_law_way_told pm_law_way_told an_law_way_told cd_law_way_told ct_law_way_told), v_law_great_refused, (PySem.W.fnOf "_law_great_refused" "_law_great_refused" (defArgs s_law_great_refused) (defBody s_law_great_refused) (defScope s_law_great_refused) .none kV_law_great_refused dc_law_great_refused pm_law_great_refused an_law_great_refused cd_law_great_refused ct_law_great_refused), v_law_spoilt, (PySem.W.fnOf "_law_spoilt" "_law_spoilt" (defArgs s_law_spoilt) (defBody s_law_spoilt) (defScope s_law_spoilt) .none kV_law_spoilt dc_law_spoilt pm_law_spoilt an_law_spoilt cd_law_spoilt ct_law_spoilt), v_law_refusals, (PySem.W.fnOf "_law_refusals" "_law_refusals" (defArgs s_law_refusals) (defBody s_law_refusals) (defScope s_law_refusals) .none kV_law_refusals dc_law_refusals pm_law_refusals an_law_refusals cd_law_refusals ct_law_refusals), v_law_prices, (PySem.W.fnOf "_law_prices" "_law_prices" (defArgs s_law_prices) (defBody s_law_prices) (defScope s_law_prices) .none kV_law_prices dc_law_prices pm_law_prices an_law_prices cd_law_prices ct_law_prices), fa, (PySem.W.fnOf "law" "law" (defArgs s_law) (defBody s_law) (defScope s_law) .none kV_law dc_law pm_law an_law cd_law ct_law), u_c_UndoError, w_TooMany, w_BadBare, w_BadPlaces, w_BadRoom, w_NoWay, w_Bare, v_TooMany___init__, (PySem.W.fnOf "__init__" "TooMany.__init__" (defArgs s_TooMany___init__) (defBody s_TooMany___init__) (defScope s_TooMany___init__) .none kV_TooMany___init__ dc_TooMany___init__ pm_TooMany___init__ an_TooMany___init__ cd_TooMany___init__ ct_TooMany___init__), v_BadBare___init__, (PySem.W.fnOf "__init__" "BadBare.__init__" (defArgs s_BadBare___init__) (defBody s_BadBare___init__) (defScope s_BadBare___init__) .none kV_BadBare___init__ dc_BadBare___init__ pm_BadBare___init__ an_BadBare___init__ cd_BadBare___init__ ct_BadBare___init__), v_BadPlaces___init__, (PySem.W.fnOf "__init__" "BadPlaces.__init__" (defArgs s_BadPlaces___init__) (defBody s_BadPlaces___init__) (defScope s_BadPlaces___init__) .none kV_BadPlaces___init__ dc_BadPlaces___init__ pm_BadPlaces___init__ an_BadPlaces___init__ cd_BadPlaces___init__ ct_BadPlaces___init__), v_Bare___init__, (PySem.W.fnOf "__init__" "Bare.__init__" (defArgs s_Bare___init__) (defBody s_Bare___init__) (defScope s_Bare___init__) .none kV_Bare___init__ dc_Bare___init__ pm_Bare___init__ an_Bare___init__ cd_Bare___init__ ct_Bare___init__), v_Bare___len__, (PySem.W.fnOf "__len__" "Bare.__len__" (defArgs s_Bare___len__) (defBody s_Bare___len__) (defScope s_Bare___len__) .none kV_Bare___len__ dc_Bare___len__ pm_Bare___len__ an_Bare___len__ cd_Bare___len__ ct_Bare___len__), v_Bare___eq__, (PySem.W.fnOf "__eq__" "Bare.__eq__" (defArgs s_Bare___eq__) (defBody s_Bare___eq__) (defScope s_Bare___eq__) .none kV_Bare___eq__ dc_Bare___eq__ pm_Bare___eq__ an_Bare___eq__ cd_Bare___eq__ ct_Bare___eq__)⟩ := ⟨PySem.W.mg_of X G hm_is_whole, F_is_whole, b_is_whole, PySem.W.mg_of X G hm_is_within, F_is_within, b_is_within, PySem.W.mg_of X G hm_is_sequence, F_is_sequence, b_is_sequence, PySem.W.mg_of X G hm_mask_of, F_mask_of, b_mask_of, PySem.W.mg_of X G hm_places_in, F_places_in, b_places_in, PySem.W.mg_of X G hm_is_place, F_is_place, b_is_place, PySem.W.mg_of X G hm_check_places, F_check_places, b_check_places, PySem.W.mg_of X G hm_is_before_list, F_is_before_list, b_is_before_list, PySem.W.mg_of X G hm_checked_befores, F_checked_befores, b_checked_befores, PySem.W.mg_of X G hm_afters_of, F_afters_of, b_afters_of, PySem.W.mg_of X G hm_ordered_of, F_ordered_of, b_ordered_of, PySem.W.mg_of X G hm_reached_along, F_reached_along, b_reached_along, PySem.W.mg_of X G hm_check_rings, F_check_rings, b_check_rings, PySem.W.mg_of X G hm_check_roads, F_check_roads, b_check_roads, PySem.W.mg_of X G hm_check_room, F_check_room, b_check_room, PySem.W.mg_of X G hm_check_small, F_check_small, b_check_small, PySem.W.mg_of X G hm_moves_at, F_moves_at, b_moves_at, PySem.W.mg_of X G hm_distances_from, F_distances_from, b_distances_from, PySem.W.mg_of X G hm_reached_standings, F_reached_standings, b_reached_standings, PySem.W.mg_of X G hm_least_way, F_least_way, b_least_way, PySem.W.mg_of X G hm_way_between, F_way_between, b_way_between, PySem.W.mg_of X G hm_least_room, F_least_room, b_least_room, PySem.W.mg_of X G hm_price_of, F_price_of, b_price_of, PySem.W.mg_of X G hm_shown_price_of, F_shown_price_of, b_shown_price_of, PySem.W.mg_of X G hm_ready_price_of, F_ready_price_of, b_ready_price_of, PySem.W.mg_of X G hm_law_hand, F_law_hand, b_law_hand, PySem.W.mg_of X G hm_law_mixed, F_law_mixed, b_law_mixed, PySem.W.mg_of X G hm_law_take, F_law_take, b_law_take, PySem.W.mg_of X G hm_law_whole, F_law_whole, b_law_whole, PySem.W.mg_of X G hm_law_two, F_law_two, b_law_two, PySem.W.mg_of X G hm_law_led, F_law_led, b_law_led, PySem.W.mg_of X G hm_law_order, F_law_order, b_law_order, PySem.W.mg_of X G hm_law_bare, F_law_bare, b_law_bare, PySem.W.mg_of X G hm_law_tree, F_law_tree, b_law_tree, PySem.W.mg_of X G hm_law_masks, F_law_masks, b_law_masks, PySem.W.mg_of X G hm_law_filled, F_law_filled, b_law_filled, PySem.W.mg_of X G hm_law_held, F_law_held, b_law_held, PySem.W.mg_of X G hm_law_reach, F_law_reach, b_law_reach, PySem.W.mg_of X G hm_law_price, F_law_price, b_law_price, PySem.W.mg_of X G hm_law_small_size, F_law_small_size, b_law_small_size, PySem.W.mg_of X G hm_law_any_bare, F_law_any_bare, b_law_any_bare, PySem.W.mg_of X G hm_law_copied, F_law_copied, b_law_copied, PySem.W.mg_of X G hm_law_places, F_law_places, b_law_places, PySem.W.mg_of X G hm_law_listed, F_law_listed, b_law_listed, PySem.W.mg_of X G hm_law_least_way, F_law_least_way, b_law_least_way, PySem.W.mg_of X G hm_law_room_for, F_law_room_for, b_law_room_for, PySem.W.mg_of X G hm_law_shuffled, F_law_shuffled, b_law_shuffled, PySem.W.mg_of X G hm_law_way_told, F_law_way_told, b_law_way_told, PySem.W.mg_of X G hm_law_great_refused, F_law_great_refused, b_law_great_refused, PySem.W.mg_of X G hm_law_spoilt, F_law_spoilt, b_law_spoilt, PySem.W.mg_of X G hm_law_refusals, F_law_refusals, b_law_refusals, PySem.W.mg_of X G hm_law_prices, F_law_prices, b_law_prices, PySem.W.mg_of X G hm_law, F_law, b_law, PySem.W.mg_of X G hm_TooMany, ⟨⟨_, _, _, _, _, _, _, _, _, _, _, _, _, _, _, xl_TooMany, xv_TooMany⟩, xs_TooMany, xb_TooMany, xy_TooMany, xk_TooMany⟩, ⟨xg_TooMany, xh_TooMany, xb_TooMany, xd_TooMany⟩, hxi_TooMany, hxt_TooMany, exm_self xb_TooMany xc_TooMany xy_TooMany xz_TooMany, hxn_TooMany_most, F_TooMany___init__, b_TooMany___init__, PySem.W.mg_of X G hm_BadBare, ⟨⟨_, _, _, _, _, _, _, _, _, _, _, _, _, _, _, xl_BadBare, xv_BadBare⟩, xs_BadBare, xb_BadBare, xy_BadBare, xk_BadBare⟩, ⟨xg_BadBare, xh_BadBare, xb_BadBare, xd_BadBare⟩, hxi_BadBare, hxt_BadBare, exm_self xb_BadBare xc_BadBare xy_BadBare xz_BadBare, hxn_BadBare_place, hxn_BadBare_what, F_BadBare___init__, b_BadBare___init__, PySem.W.mg_of X G hm_BadPlaces, ⟨⟨_, _, _, _, _, _, _, _, _, _, _, _, _, _, _, xl_BadPlaces, xv_BadPlaces⟩, xs_BadPlaces, xb_BadPlaces, xy_BadPlaces, xk_BadPlaces⟩, ⟨xg_BadPlaces, xh_BadPlaces, xb_BadPlaces, xd_BadPlaces⟩, hxi_BadPlaces, hxt_BadPlaces, exm_self xb_BadPlaces xc_BadPlaces xy_BadPlaces xz_BadPlaces, hxn_BadPlaces_index, F_BadPlaces___init__, b_BadPlaces___init__, PySem.W.mg_of X G hm_Bare, F_Bare___init__, b_Bare___init__, F_Bare___len__, b_Bare___len__, hat_Bare___len__, hfn_Bare___len__, F_Bare___eq__, b_Bare___eq__, hat_Bare___eq__, hfn_Bare___eq__, ⟨yc_mk_Bare, ya_Bare, yc_fn_Bare, yc_kp_Bare⟩, ⟨⟨yc_pg_Bare, yc_hd_Bare, yc_po_Bare, yc_sa_Bare⟩, yc_ha_Bare, yc_hn, yc_ht, yc_hm_Bare, yc_me_Bare⟩, hne_Bare, hna_Bare_befores, hna_Bare_end, hna_Bare_afters, hna_Bare_ordered, hna_Bare_needs, PySem.W.mg_of X G hm_BadRoom, xq_BadRoom, xk_BadRoom, xb_BadRoom, xy_BadRoom, exm_self xb_BadRoom xc_BadRoom xy_BadRoom xz_BadRoom, PySem.W.mg_of X G hm_NoWay, xq_NoWay, xk_NoWay, xb_NoWay, xy_NoWay, exm_self xb_NoWay xc_NoWay xy_NoWay xz_NoWay, ⟨_, PySem.W.mg_of X G hm_MOST_PLACES, ⟨_, rfl⟩⟩, ⟨_, PySem.W.mg_of X G hm_MOST_ROOM, ⟨_, rfl⟩⟩, ⟨_, PySem.W.mg_of X G hm_MOST_SEARCHED, ⟨_, rfl⟩⟩, PySem.W.mg_none_of X G hz_ValueError, PySem.W.mg_none_of X G hz_abs, PySem.W.mg_none_of X G hz_all, PySem.W.mg_none_of X G hz_any, PySem.W.mg_none_of X G hz_bool, PySem.W.mg_none_of X G hz_enumerate, PySem.W.mg_none_of X G hz_int, PySem.W.mg_none_of X G hz_isinstance, PySem.W.mg_none_of X G hz_len, PySem.W.mg_none_of X G hz_list, PySem.W.mg_none_of X G hz_range, PySem.W.mg_none_of X G hz_set, PySem.W.mg_none_of X G hz_sorted, PySem.W.mg_none_of X G hz_sum, PySem.W.mg_none_of X G hz_tuple⟩
  have Y : Txw K mg ⟨v_is_whole, (PySem.W.fnOf "is_whole" "is_whole" (defArgs s_is_whole) (defBody s_is_whole) (defScope s_is_whole) .none kV_is_whole dc_is_whole pm_is_whole an_is_whole cd_is_whole ct_is_whole), v_is_within, (PySem.W.fnOf "is_within" "is_within" (defArgs s_is_within) (defBody s_is_within) (defScope s_is_within) .none kV_is_within dc_is_within pm_is_within an_is_within cd_is_within ct_is_within), v_is_sequence, (PySem.W.fnOf "is_sequence" "is_sequence" (defArgs s_is_sequence) (defBody s_is_sequence) (defScope s_is_sequence) .none kV_is_sequence dc_is_sequence pm_is_sequence an_is_sequence cd_is_sequence ct_is_sequence), v_mask_of, (PySem.W.fnOf "mask_of" "mask_of" (defArgs s_mask_of) (defBody s_mask_of) (defScope s_mask_of) .none kV_mask_of dc_mask_of pm_mask_of an_mask_of cd_mask_of ct_mask_of), v_places_in, (PySem.W.fnOf "places_in" "places_in" (defArgs s_places_in) (defBody s_places_in) (defScope s_places_in) .none kV_places_in dc_places_in pm_places_in an_places_in cd_places_in ct_places_in), v_is_place, (PySem.W.fnOf "is_place" "is_place" (defArgs s_is_place) (defBody s_is_place) (defScope s_is_place) .none kV_is_place dc_is_place pm_is_place an_is_place cd_is_place ct_is_place), v_check_places, (PySem.W.fnOf "check_places" "check_places" (defArgs s_check_places) (defBody s_check_places) (defScope s_check_places) .none kV_check_places dc_check_places pm_check_places an_check_places cd_check_places ct_check_places), v_is_before_list, (PySem.W.fnOf "is_before_list" "is_before_list" (defArgs s_is_before_list) (defBody s_is_before_list) (defScope s_is_before_list) .none kV_is_before_list dc_is_before_list pm_is_before_list an_is_before_list cd_is_before_list ct_is_before_list), v_checked_befores, (PySem.W.fnOf "checked_befores" "checked_befores" (defArgs s_checked_befores) (defBody s_checked_befores) (defScope s_checked_befores) .none kV_checked_befores dc_checked_befores pm_checked_befores an_checked_befores cd_checked_befores ct_checked_befores), v_afters_of, (PySem.W.fnOf "afters_of" "afters_of" (defArgs s_afters_of) (defBody s_afters_of) (defScope s_afters_of) .none kV_afters_of dc_afters_of pm_afters_of an_afters_of cd_afters_of ct_afters_of), v_ordered_of, (PySem.W.fnOf "ordered_of" "ordered_of" (defArgs s_ordered_of) (defBody s_ordered_of) (defScope s_ordered_of) .none kV_ordered_of dc_ordered_of pm_ordered_of an_ordered_of cd_ordered_of ct_ordered_of), v_reached_along, (PySem.W.fnOf "reached_along" "reached_along" (defArgs s_reached_along) (defBody s_reached_along) (defScope s_reached_along) (.ref T_reached_along) kV_reached_along dc_reached_along pm_reached_along an_reached_along cd_reached_along ct_reached_along), v_check_rings, (PySem.W.fnOf "check_rings" "check_rings" (defArgs s_check_rings) (defBody s_check_rings) (defScope s_check_rings) .none kV_check_rings dc_check_rings pm_check_rings an_check_rings cd_check_rings ct_check_rings), v_check_roads, (PySem.W.fnOf "check_roads" "check_roads" (defArgs s_check_roads) (defBody s_check_roads) (defScope s_check_roads) .none kV_check_roads dc_check_roads pm_check_roads an_check_roads cd_check_roads ct_check_roads), v_check_room, (PySem.W.fnOf "check_room" "check_room" (defArgs s_check_room) (defBody s_check_room) (defScope s_check_room) .none kV_check_room dc_check_room pm_check_room an_check_room cd_check_room ct_check_room), v_check_small, (PySem.W.fnOf "check_small" "check_small" (defArgs s_check_small) (defBody s_check_small) (defScope s_check_small) .none kV_check_small dc_check_small pm_check_small an_check_small cd_check_small ct_check_small), v_moves_at, (PySem.W.fnOf "moves_at" "moves_at" (defArgs s_moves_at) (defBody s_moves_at) (defScope s_moves_at) .none kV_moves_at dc_moves_at pm_moves_at an_moves_at cd_moves_at ct_moves_at), v_distances_from, (PySem.W.fnOf "distances_from" "distances_from" (defArgs s_distances_from) (defBody s_distances_from) (defScope s_distances_from) .none kV_distances_from dc_distances_from pm_distances_from an_distances_from cd_distances_from ct_distances_from), v_reached_standings, (PySem.W.fnOf "reached_standings" "reached_standings" (defArgs s_reached_standings) (defBody s_reached_standings) (defScope s_reached_standings) .none kV_reached_standings dc_reached_standings pm_reached_standings an_reached_standings cd_reached_standings ct_reached_standings), v_least_way, (PySem.W.fnOf "least_way" "least_way" (defArgs s_least_way) (defBody s_least_way) (defScope s_least_way) .none kV_least_way dc_least_way pm_least_way an_least_way cd_least_way ct_least_way), v_way_between, (PySem.W.fnOf "way_between" "way_between" (defArgs s_way_between) (defBody s_way_between) (defScope s_way_between) .none kV_way_between dc_way_between pm_way_between an_way_between cd_way_between ct_way_between), v_least_room, (PySem.W.fnOf "least_room" "least_room" (defArgs s_least_room) (defBody s_least_room) (defScope s_least_room) .none kV_least_room dc_least_room pm_least_room an_least_room cd_least_room ct_least_room), v_price_of, (PySem.W.fnOf "price_of" "price_of" (defArgs s_price_of) (defBody s_price_of) (defScope s_price_of) .none kV_price_of dc_price_of pm_price_of an_price_of cd_price_of ct_price_of), v_shown_price_of, (PySem.W.fnOf "shown_price_of" "shown_price_of" (defArgs s_shown_price_of) (defBody s_shown_price_of) (defScope s_shown_price_of) .none kV_shown_price_of dc_shown_price_of pm_shown_price_of an_shown_price_of cd_shown_price_of ct_shown_price_of), v_ready_price_of, (PySem.W.fnOf "ready_price_of" "ready_price_of" (defArgs s_ready_price_of) (defBody s_ready_price_of) (defScope s_ready_price_of) .none kV_ready_price_of dc_ready_price_of pm_ready_price_of an_ready_price_of cd_ready_price_of ct_ready_price_of), v_law_hand, (PySem.W.fnOf "_law_hand" "_law_hand" (defArgs s_law_hand) (defBody s_law_hand) (defScope s_law_hand) .none kV_law_hand dc_law_hand pm_law_hand an_law_hand cd_law_hand ct_law_hand), v_law_mixed, (PySem.W.fnOf "_law_mixed" "_law_mixed" (defArgs s_law_mixed) (defBody s_law_mixed) (defScope s_law_mixed) .none kV_law_mixed dc_law_mixed pm_law_mixed an_law_mixed cd_law_mixed ct_law_mixed), v_law_take, (PySem.W.fnOf "_law_take" "_law_take" (defArgs s_law_take) (defBody s_law_take) (defScope s_law_take) .none kV_law_take dc_law_take pm_law_take an_law_take cd_law_take ct_law_take), v_law_whole, (PySem.W.fnOf "_law_whole" "_law_whole" (defArgs s_law_whole) (defBody s_law_whole) (defScope s_law_whole) .none kV_law_whole dc_law_whole pm_law_whole an_law_whole cd_law_whole ct_law_whole), v_law_two, (PySem.W.fnOf "_law_two" "_law_two" (defArgs s_law_two) (defBody s_law_two) (defScope s_law_two) .none kV_law_two dc_law_two pm_law_two an_law_two cd_law_two ct_law_two), v_law_led, (PySem.W.fnOf "_law_led" "_law_led" (defArgs s_law_led) (defBody s_law_led) (defScope s_law_led) .none kV_law_led dc_law_led pm_law_led an_law_led cd_law_led ct_law_led), v_law_order, (PySem.W.fnOf "_law_order" "_law_order" (defArgs s_law_order) (defBody s_law_order) (defScope s_law_order) .none kV_law_order dc_law_order pm_law_order an_law_order cd_law_order ct_law_order), v_law_bare, (PySem.W.fnOf "_law_bare" "_law_bare" (defArgs s_law_bare) (defBody s_law_bare) (defScope s_law_bare) .none kV_law_bare dc_law_bare pm_law_bare an_law_bare cd_law_bare ct_law_bare), v_law_tree, (PySem.W.fnOf "_law_tree" "_law_tree" (defArgs s_law_tree) (defBody s_law_tree) (defScope s_law_tree) .none kV_law_tree dc_law_tree pm_law_tree an_law_tree cd_law_tree ct_law_tree), v_law_masks, (PySem.W.fnOf "_law_masks" "_law_masks" (defArgs s_law_masks) (defBody s_law_masks) (defScope s_law_masks) .none kV_law_masks dc_law_masks pm_law_masks an_law_masks cd_law_masks ct_law_masks), v_law_filled, (PySem.W.fnOf "_law_filled" "_law_filled" (defArgs s_law_filled) (defBody s_law_filled) (defScope s_law_filled) .none kV_law_filled dc_law_filled pm_law_filled an_law_filled cd_law_filled ct_law_filled), v_law_held, (PySem.W.fnOf "_law_held" "_law_held" (defArgs s_law_held) (defBody s_law_held) (defScope s_law_held) .none kV_law_held dc_law_held pm_law_held an_law_held cd_law_held ct_law_held), v_law_reach, (PySem.W.fnOf "_law_reach" "_law_reach" (defArgs s_law_reach) (defBody s_law_reach) (defScope s_law_reach) .none kV_law_reach dc_law_reach pm_law_reach an_law_reach cd_law_reach ct_law_reach), v_law_price, (PySem.W.fnOf "_law_price" "_law_price" (defArgs s_law_price) (defBody s_law_price) (defScope s_law_price) .none kV_law_price dc_law_price pm_law_price an_law_price cd_law_price ct_law_price), v_law_small_size, (PySem.W.fnOf "_law_small_size" "_law_small_size" (defArgs s_law_small_size) (defBody s_law_small_size) (defScope s_law_small_size) .none kV_law_small_size dc_law_small_size pm_law_small_size an_law_small_size cd_law_small_size ct_law_small_size), v_law_any_bare, (PySem.W.fnOf "_law_any_bare" "_law_any_bare" (defArgs s_law_any_bare) (defBody s_law_any_bare) (defScope s_law_any_bare) .none kV_law_any_bare dc_law_any_bare pm_law_any_bare an_law_any_bare cd_law_any_bare ct_law_any_bare), v_law_copied, (PySem.W.fnOf "_law_copied" "_law_copied" (defArgs s_law_copied) (defBody s_law_copied) (defScope s_law_copied) .none kV_law_copied dc_law_copied pm_law_copied an_law_copied cd_law_copied ct_law_copied), v_law_places, (PySem.W.fnOf "_law_places" "_law_places" (defArgs s_law_places) (defBody s_law_places) (defScope s_law_places) .none kV_law_places dc_law_places pm_law_places an_law_places cd_law_places ct_law_places), v_law_listed, (PySem.W.fnOf "_law_listed" "_law_listed" (defArgs s_law_listed) (defBody s_law_listed) (defScope s_law_listed) .none kV_law_listed dc_law_listed pm_law_listed an_law_listed cd_law_listed ct_law_listed), v_law_least_way, (PySem.W.fnOf "_law_least_way" "_law_least_way" (defArgs s_law_least_way) (defBody s_law_least_way) (defScope s_law_least_way) .none kV_law_least_way dc_law_least_way pm_law_least_way an_law_least_way cd_law_least_way ct_law_least_way), v_law_room_for, (PySem.W.fnOf "_law_room_for" "_law_room_for" (defArgs s_law_room_for) (defBody s_law_room_for) (defScope s_law_room_for) .none kV_law_room_for dc_law_room_for pm_law_room_for an_law_room_for cd_law_room_for ct_law_room_for), v_law_shuffled, (PySem.W.fnOf "_law_shuffled" "_law_shuffled" (defArgs s_law_shuffled) (defBody s_law_shuffled) (defScope s_law_shuffled) .none kV_law_shuffled dc_law_shuffled pm_law_shuffled an_law_shuffled cd_law_shuffled ct_law_shuffled), v_law_way_told, (PySem.W.fnOf "_law_way_told" "_law_way_told" (defArgs s_law_way_told) (defBody s_law_way_told) (defScope s_law_way_told) .none kV_law_way_told dc_law_way_told pm_law_way_told an_law_way_told cd_law_way_told ct_law_way_told), v_law_great_refused, (PySem.W.fnOf "_law_great_refused" "_law_great_refused" (defArgs s_law_great_refused) (defBody s_law_great_refused) (defScope s_law_great_refused) .none kV_law_great_refused dc_law_great_refused pm_law_great_refused an_law_great_refused cd_law_great_refused ct_law_great_refused), v_law_spoilt, (PySem.W.fnOf "_law_spoilt" "_law_spoilt" (defArgs s_law_spoilt) (defBody s_law_spoilt) (defScope s_law_spoilt) .none kV_law_spoilt dc_law_spoilt pm_law_spoilt an_law_spoilt cd_law_spoilt ct_law_spoilt), v_law_refusals, (PySem.W.fnOf "_law_refusals" "_law_refusals" (defArgs s_law_refusals) (defBody s_law_refusals) (defScope s_law_refusals) .none kV_law_refusals dc_law_refusals pm_law_refusals an_law_refusals cd_law_refusals ct_law_refusals), v_law_prices, (PySem.W.fnOf "_law_prices" "_law_prices" (defArgs s_law_prices) (defBody s_law_prices) (defScope s_law_prices) .none kV_law_prices dc_law_prices pm_law_prices an_law_prices cd_law_prices ct_law_prices), fa, (PySem.W.fnOf "law" "law" (defArgs s_law) (defBody s_law) (defScope s_law) .none kV_law dc_law pm_law an_law cd_law ct_law), u_c_UndoError, w_TooMany, w_BadBare, w_BadPlaces, w_BadRoom, w_NoWay, w_Bare, v_TooMany___init__, (PySem.W.fnOf "__init__" "TooMany.__init__" (defArgs s_TooMany___init__) (defBody s_TooMany___init__) (defScope s_TooMany___init__) .none kV_TooMany___init__ dc_TooMany___init__ pm_TooMany___init__ an_TooMany___init__ cd_TooMany___init__ ct_TooMany___init__), v_BadBare___init__, (PySem.W.fnOf "__init__" "BadBare.__init__" (defArgs s_BadBare___init__) (defBody s_BadBare___init__) (defScope s_BadBare___init__) .none kV_BadBare___init__ dc_BadBare___init__ pm_BadBare___init__ an_BadBare___init__ cd_BadBare___init__ ct_BadBare___init__), v_BadPlaces___init__, (PySem.W.fnOf "__init__" "BadPlaces.__init__" (defArgs s_BadPlaces___init__) (defBody s_BadPlaces___init__) (defScope s_BadPlaces___init__) .none kV_BadPlaces___init__ dc_BadPlaces___init__ pm_BadPlaces___init__ an_BadPlaces___init__ cd_BadPlaces___init__ ct_BadPlaces___init__), v_Bare___init__, (PySem.W.fnOf "__init__" "Bare.__init__" (defArgs s_Bare___init__) (defBody s_Bare___init__) (defScope s_Bare___init__) .none kV_Bare___init__ dc_Bare___init__ pm_Bare___init__ an_Bare___init__ cd_Bare___init__ ct_Bare___init__), v_Bare___len__, (PySem.W.fnOf "__len__" "Bare.__len__" (defArgs s_Bare___len__) (defBody s_Bare___len__) (defScope s_Bare___len__) .none kV_Bare___len__ dc_Bare___len__ pm_Bare___len__ an_Bare___len__ cd_Bare___len__ ct_Bare___len__), v_Bare___eq__, (PySem.W.fnOf "__eq__" "Bare.__eq__" (defArgs s_Bare___eq__) (defBody s_Bare___eq__) (defScope s_Bare___eq__) .none kV_Bare___eq__ dc_Bare___eq__ pm_Bare___eq__ an_Bare___eq__ cd_Bare___eq__ ct_Bare___eq__)⟩ := ⟨PySem.W.mg_of X G hm_UndoError, ⟨ve_g, ve_k, xb_NoWay, ve_d, ve_a, yc_hn, yc_ht, ve_m⟩, vk_u, exm_no xb_BadRoom xc_BadRoom xy_BadRoom no_BadPlaces_BadRoom, exm_no xb_BadRoom xc_BadRoom xy_BadRoom no_TooMany_BadRoom, exm_no xb_BadPlaces xc_BadPlaces xy_BadPlaces no_TooMany_BadPlaces, exm_no xb_BadRoom xc_BadRoom xy_BadRoom no_NoWay_BadRoom, exm_no xb_BadPlaces xc_BadPlaces xy_BadPlaces no_NoWay_BadPlaces, exm_no xb_TooMany xc_TooMany xy_TooMany no_NoWay_TooMany⟩
  refine ⟨(PySem.W.fnOf "law" "law" (defArgs s_law) (defBody s_law) (defScope s_law) .none kV_law dc_law pm_law an_law cd_law ct_law), [(c0, P0), (c1, P1), (c2, P2), (c3, P3)], [(P0, My.lamQ "reached_standings"), (P1, My.lamQ "price_of"), (P2, My.lamQ "shown_price_of"), (P3, My.lamQ "ready_price_of")], mem4 tb_at0 tb_at1 tb_at2 tb_at3, mem4 tb_no0 tb_no1 tb_no2 tb_no3, mem4 (PySem.W.codeHd_of_K X tb_hd0) (PySem.W.codeHd_of_K X tb_hd1) (PySem.W.codeHd_of_K X tb_hd2) (PySem.W.codeHd_of_K X tb_hd3), fun s u => .of_eq rfl, ?_, fun base _ _ TB => ok_law T Y ?_⟩
  · exact mem4 ⟨_, List.Mem.head _, rfl⟩ ⟨_, .tail _ (.head _), rfl⟩ ⟨_, .tail _ (.tail _ (.head _)), rfl⟩ ⟨_, .tail _ (.tail _ (.tail _ (.head _))), rfl⟩
  · exact ⟨⟨c1, P1, TB _ (.tail _ (.head _)), tb_cd1, .tail _ (.head _), mem4 (fun z => absurd z tb_ne10) (fun _ => rfl) (fun z => absurd z tb_ne12) (fun z => absurd z tb_ne13)⟩, ⟨c2, P2, TB _ (.tail _ (.tail _ (.head _))), tb_cd2, .tail _ (.tail _ (.head _)), mem4 (fun z => absurd z tb_ne20) (fun z => absurd z tb_ne21) (fun _ => rfl) (fun z => absurd z tb_ne23)⟩, ⟨c3, P3, TB _ (.tail _ (.tail _ (.tail _ (.head _)))), tb_cd3, .tail _ (.tail _ (.tail _ (.head _))), mem4 (fun z => absurd z tb_ne30) (fun z => absurd z tb_ne31) (fun z => absurd z tb_ne32) (fun _ => rfl)⟩, ⟨c0, P0, TB _ (.head _), tb_cd0, .head _, mem4 (fun _ => rfl) (fun z => absurd z tb_ne01) (fun z => absurd z tb_ne02) (fun z => absurd z tb_ne03)⟩⟩
theorem walk {l : PySem.W.OpenLaw} {q : Program} {loose : List Str} {XP : (Str → Option Value) → Heap → Prop} {YP : World → Heap → Prop} {d : DefRec} {K : Params → PySem.W.Frag} (hn : l.most = some 63) (hdf : d.params.defaults = [])
    (hY : ∀ (w : World) (h : Heap), YP w h → (K w.params).In h)
    (F1 : ∀ (w : World) (mg : Str → Option Value) (fa : Addr) (h : Heap), YP w h → (K w.params).In h → h.Ns mainGlobals mg → mg d.name = some (.ref fa) →
      ∃ (fd : FuncData) (cs : List (Addr × Addr)) (TL : List (Addr × Str)), (∀ p ∈ cs, h.get? p.2 = some { cls := .none, data := .fields #[] }) ∧ (∀ p ∈ cs, (K w.params).lookup p.2 = none) ∧ (∀ p ∈ cs, PySem.W.CodeHd h p.1 p.2) ∧ (∀ (s : Shared) (u : Value), BindsTo s fd ⟨[u], []⟩ [("_law_script", u)]) ∧ (∀ t ∈ TL, ∃ p ∈ cs, p.2 = t.1) ∧ ∀ base : Heap, (K w.params).In base → base.Ns mainGlobals mg → (∀ p ∈ cs, LamX.TabB base mg p.1 p.2) → FnOk l.prog w (K w.params) mg base (L2.CX l.prog w) 8 fa fd ["_law_script"] (spLawT (K w.params) TL)) :
    PySem.W.WalkO q loose XP YP l.row.toRowW d [] (fun f vs => PySem.call f vs) :=
  LamX.walk_ofTs (n := 63) (k := 8) (x := "_law_script") (CX := (fun w => L2.CX l.prog w)) hn (by decide) hdf ⟨rfl, by decide, by decide⟩ hY (fun w mg fa h Y X G hm => by
    obtain ⟨fd, cs, TL, h1, h2, h3, h4, h6, h5⟩ := F1 w mg fa h Y X G hm
    exact ⟨fd, cs, spLawT (K w.params) TL, h1, h2, h3, h4, fun H a ns hl _ hH hS => ⟨a, ns, rfl, hS, hl, fun t ht => by
      obtain ⟨p, hp, e⟩ := h6 t ht
      exact LamX.TabS.nil (by rw [← e]; exact hH p hp), fun _ => rfl⟩, fun base i1 i2 tb => h5 base i1 i2 tb⟩) fun _ _ _ _ _ ⟨_, _, _, _, _, _, _, _, _, _, _, _, z⟩ => z
end My
open PySem PySem.W PyProof.Rows in
set_option maxRecDepth 100000 in
set_option maxHeartbeats 0 in
theorem PySem.Challenge.cw_undocells_k12_ways_and_prices_holds : PySem.Challenge.rw_undocells_k12_ways_and_prices.Holds := by
  w_on; o_law; k_head; (case hw => w_witness2)
  k_fill
  refine My.walk (l := PySem.Challenge.rw_undocells_k12_ways_and_prices) rfl rfl (fun w h Y => PySem.W.km_in_of Y) ?F
  case F =>
    intro w mg fa h Y KX G hmg
    refine' My.all_mk KX G hmg ?hm_TooMany ?hm_BadBare ?hm_BadPlaces ?hm_BadRoom ?hm_NoWay ?hm_Bare ?tb_at0 ?tb_at1 ?tb_at2 ?tb_at3 ?xl_TooMany ?xv_TooMany ?xs_TooMany ?xg_TooMany ?xh_TooMany ?xk_TooMany ?xb_TooMany ?xy_TooMany ?xd_TooMany ?xc_TooMany ?xz_TooMany ?xl_BadBare ?xv_BadBare ?xs_BadBare ?xg_BadBare ?xh_BadBare ?xk_BadBare ?xb_BadBare ?xy_BadBare ?xd_BadBare ?xc_BadBare ?xz_BadBare ?xl_BadPlaces ?xv_BadPlaces ?xs_BadPlaces ?xg_BadPlaces ?xh_BadPlaces ?xk_BadPlaces ?xb_BadPlaces ?xy_BadPlaces ?xd_BadPlaces ?xc_BadPlaces ?xz_BadPlaces ?xq_BadRoom ?xk_BadRoom ?xb_BadRoom ?xy_BadRoom ?xc_BadRoom ?xz_BadRoom ?xq_NoWay ?xk_NoWay ?xb_NoWay ?xy_NoWay ?xc_NoWay ?xz_NoWay ?ya_Bare ?hat_Bare___len__ ?hat_Bare___eq__ ?hxi_TooMany ?hxt_TooMany ?hxn_TooMany_most ?hxi_BadBare ?hxt_BadBare ?hxn_BadBare_place ?hxn_BadBare_what ?hxi_BadPlaces ?hxt_BadPlaces ?hxn_BadPlaces_index ?no_BadPlaces_BadRoom ?no_TooMany_BadRoom ?no_TooMany_BadPlaces ?no_NoWay_BadRoom ?no_NoWay_BadPlaces ?no_NoWay_TooMany ?hm_is_whole ?hl_is_whole ?hc_is_whole ?hk_is_whole ?hm_is_within ?hl_is_within ?hc_is_within ?hk_is_within ?hm_is_sequence ?hl_is_sequence ?hc_is_sequence ?hk_is_sequence ?hm_mask_of ?hl_mask_of ?hc_mask_of ?hk_mask_of ?hm_places_in ?hl_places_in ?hc_places_in ?hk_places_in ?hm_is_place ?hl_is_place ?hc_is_place ?hk_is_place ?hm_check_places ?hl_check_places ?hc_check_places ?hk_check_places ?hm_is_before_list ?hl_is_before_list ?hc_is_before_list ?hk_is_before_list ?hm_checked_befores ?hl_checked_befores ?hc_checked_befores ?hk_checked_befores ?hm_afters_of ?hl_afters_of ?hc_afters_of ?hk_afters_of ?hm_ordered_of ?hl_ordered_of ?hc_ordered_of ?hk_ordered_of ?hm_reached_along ?hl_reached_along ?hc_reached_along ?hk_reached_along ?hm_check_rings ?hl_check_rings ?hc_check_rings ?hk_check_rings ?hm_check_roads ?hl_check_roads ?hc_check_roads ?hk_check_roads ?hm_check_room ?hl_check_room ?hc_check_room ?hk_check_room ?hm_check_small ?hl_check_small ?hc_check_small ?hk_check_small ?hm_moves_at ?hl_moves_at ?hc_moves_at ?hk_moves_at ?hm_distances_from ?hl_distances_from ?hc_distances_from ?hk_distances_from ?hm_reached_standings ?hl_reached_standings ?hc_reached_standings ?hk_reached_standings ?hm_least_way ?hl_least_way ?hc_least_way ?hk_least_way ?hm_way_between ?hl_way_between ?hc_way_between ?hk_way_between ?hm_least_room ?hl_least_room ?hc_least_room ?hk_least_room ?hm_price_of ?hl_price_of ?hc_price_of ?hk_price_of ?hm_shown_price_of ?hl_shown_price_of ?hc_shown_price_of ?hk_shown_price_of ?hm_ready_price_of ?hl_ready_price_of ?hc_ready_price_of ?hk_ready_price_of ?hm_law_hand ?hl_law_hand ?hc_law_hand ?hk_law_hand ?hm_law_mixed ?hl_law_mixed ?hc_law_mixed ?hk_law_mixed ?hm_law_take ?hl_law_take ?hc_law_take ?hk_law_take ?hm_law_whole ?hl_law_whole ?hc_law_whole ?hk_law_whole ?hm_law_two ?hl_law_two ?hc_law_two ?hk_law_two ?hm_law_led ?hl_law_led ?hc_law_led ?hk_law_led ?hm_law_order ?hl_law_order ?hc_law_order ?hk_law_order ?hm_law_bare ?hl_law_bare ?hc_law_bare ?hk_law_bare ?hm_law_tree ?hl_law_tree ?hc_law_tree ?hk_law_tree ?hm_law_masks ?hl_law_masks ?hc_law_masks ?hk_law_masks ?hm_law_filled ?hl_law_filled ?hc_law_filled ?hk_law_filled ?hm_law_held ?hl_law_held ?hc_law_held ?hk_law_held ?hm_law_reach ?hl_law_reach ?hc_law_reach ?hk_law_reach ?hm_law_price ?hl_law_price ?hc_law_price ?hk_law_price ?hm_law_small_size ?hl_law_small_size ?hc_law_small_size ?hk_law_small_size ?hm_law_any_bare ?hl_law_any_bare ?hc_law_any_bare ?hk_law_any_bare ?hm_law_copied ?hl_law_copied ?hc_law_copied ?hk_law_copied ?hm_law_places ?hl_law_places ?hc_law_places ?hk_law_places ?hm_law_listed ?hl_law_listed ?hc_law_listed ?hk_law_listed ?hm_law_least_way ?hl_law_least_way ?hc_law_least_way ?hk_law_least_way ?hm_law_room_for ?hl_law_room_for ?hc_law_room_for ?hk_law_room_for ?hm_law_shuffled ?hl_law_shuffled ?hc_law_shuffled ?hk_law_shuffled ?hm_law_way_told ?hl_law_way_told ?hc_law_way_told ?hk_law_way_told ?hm_law_great_refused ?hl_law_great_refused ?hc_law_great_refused ?hk_law_great_refused ?hm_law_spoilt ?hl_law_spoilt ?hc_law_spoilt ?hk_law_spoilt ?hm_law_refusals ?hl_law_refusals ?hc_law_refusals ?hk_law_refusals ?hm_law_prices ?hl_law_prices ?hc_law_prices ?hk_law_prices ?hm_law ?hl_law ?hc_law ?hk_law ?hl_TooMany___init__ ?hc_TooMany___init__ ?hk_TooMany___init__ ?hl_BadBare___init__ ?hc_BadBare___init__ ?hk_BadBare___init__ ?hl_BadPlaces___init__ ?hc_BadPlaces___init__ ?hk_BadPlaces___init__ ?hl_Bare___init__ ?hc_Bare___init__ ?hk_Bare___init__ ?hl_Bare___len__ ?hc_Bare___len__ ?hk_Bare___len__ ?hl_Bare___eq__ ?hc_Bare___eq__ ?hk_Bare___eq__ ?hm_MOST_PLACES ?hm_MOST_ROOM ?hm_MOST_SEARCHED ?hz_ValueError ?hz_abs ?hz_all ?hz_any ?hz_bool ?hz_enumerate ?hz_int ?hz_isinstance ?hz_len ?hz_list ?hz_range ?hz_set ?hz_sorted ?hz_sum ?hz_tuple ?hm_UndoError ?yc_mk_Bare ?yc_fn_Bare ?yc_kp_Bare ?yc_pg_Bare ?yc_hd_Bare ?yc_po_Bare ?yc_sa_Bare ?yc_ha_Bare ?yc_hm_Bare ?yc_me_Bare ?yc_hn ?yc_ht ?hfn_Bare___len__ ?hfn_Bare___eq__ ?hne_Bare ?hna_Bare_befores ?hna_Bare_end ?hna_Bare_afters ?hna_Bare_ordered ?hna_Bare_needs ?ve_g ?ve_k ?ve_d ?ve_a ?ve_m ?vk_u ?dt_reached_along ?ti_reached_along ?tb_cd0 ?tb_no0 ?tb_hd0 ?tb_ne01 ?tb_ne02 ?tb_ne03 ?tb_cd1 ?tb_no1 ?tb_hd1 ?tb_ne10 ?tb_ne12 ?tb_ne13 ?tb_cd2 ?tb_no2 ?tb_hd2 ?tb_ne20 ?tb_ne21 ?tb_ne23 ?tb_cd3 ?tb_no3 ?tb_hd3 ?tb_ne30 ?tb_ne31 ?tb_ne32
    (case hm_TooMany => k_is)
    (case hm_BadBare => k_is)
    (case hm_BadPlaces => k_is)
    (case hm_BadRoom => k_is)
    (case hm_NoWay => k_is)
    (case hm_Bare => k_is)
    (case tb_at0 => exact PySem.W.km_tabs_of Y _ (.tail _ (.tail _ (.tail _ (.head _)))))
    (case tb_at1 => exact PySem.W.km_tabs_of Y _ (.tail _ (.tail _ (.head _))))
    (case tb_at2 => exact PySem.W.km_tabs_of Y _ (.tail _ (.head _)))
    (case tb_at3 => exact PySem.W.km_tabs_of Y _ (.head _))
    (case xl_TooMany => k_is)
    (case xv_TooMany => decide +kernel)
    (case xs_TooMany => k_is)
    (case xg_TooMany => k_is)
    (case xh_TooMany => k_is)
    (case xk_TooMany => k_is)
    (case xb_TooMany => k_is)
    (case xy_TooMany => k_is)
    (case xd_TooMany => k_is)
    (case xc_TooMany => k_is)
    (case xz_TooMany => first | rfl | k_is)
    (case xl_BadBare => k_is)
    (case xv_BadBare => decide +kernel)
    (case xs_BadBare => k_is)
    (case xg_BadBare => k_is)
    (case xh_BadBare => k_is)
    (case xk_BadBare => k_is)
    (case xb_BadBare => k_is)
    (case xy_BadBare => k_is)
    (case xd_BadBare => k_is)
    (case xc_BadBare => k_is)
    (case xz_BadBare => first | rfl | k_is)
    (case xl_BadPlaces => k_is)
    (case xv_BadPlaces => decide +kernel)
    (case xs_BadPlaces => k_is)
    (case xg_BadPlaces => k_is)
    (case xh_BadPlaces => k_is)
    (case xk_BadPlaces => k_is)
    (case xb_BadPlaces => k_is)
    (case xy_BadPlaces => k_is)
    (case xd_BadPlaces => k_is)
    (case xc_BadPlaces => k_is)
    (case xz_BadPlaces => first | rfl | k_is)
    (case xq_BadRoom => k_exc)
    (case xk_BadRoom => k_is)
    (case xb_BadRoom => k_is)
    (case xy_BadRoom => k_is)
    (case xc_BadRoom => k_is)
    (case xz_BadRoom => first | rfl | k_is)
    (case xq_NoWay => k_exc)
    (case xk_NoWay => k_is)
    (case xb_NoWay => k_is)
    (case xy_NoWay => k_is)
    (case xc_NoWay => k_is)
    (case xz_NoWay => first | rfl | k_is)
    (case ya_Bare => k_is)
    (case hat_Bare___len__ => k_is)
    (case hat_Bare___eq__ => k_is)
    (case hxi_TooMany => k_is)
    (case hxt_TooMany => k_is)
    (case hxn_TooMany_most => k_is)
    (case hxi_BadBare => k_is)
    (case hxt_BadBare => k_is)
    (case hxn_BadBare_place => k_is)
    (case hxn_BadBare_what => k_is)
    (case hxi_BadPlaces => k_is)
    (case hxt_BadPlaces => k_is)
    (case hxn_BadPlaces_index => k_is)
    (case no_BadPlaces_BadRoom => k_is)
    (case no_TooMany_BadRoom => k_is)
    (case no_TooMany_BadPlaces => k_is)
    (case no_NoWay_BadRoom => k_is)
    (case no_NoWay_BadPlaces => k_is)
    (case no_NoWay_TooMany => k_is)
    (case hm_is_whole => k_is)
    (case hl_is_whole => k_is)
    (case hc_is_whole => k_is)
    (case hk_is_whole => k_is)
    (case hm_is_within => k_is)
    (case hl_is_within => k_is)
    (case hc_is_within => k_is)
    (case hk_is_within => k_is)
    (case hm_is_sequence => k_is)
    (case hl_is_sequence => k_is)
    (case hc_is_sequence => k_is)
    (case hk_is_sequence => k_is)
    (case hm_mask_of => k_is)
    (case hl_mask_of => k_is)
    (case hc_mask_of => k_is)
    (case hk_mask_of => k_is)
    (case hm_places_in => k_is)
    (case hl_places_in => k_is)
    (case hc_places_in => k_is)
    (case hk_places_in => k_is)
    (case hm_is_place => k_is)
    (case hl_is_place => k_is)
    (case hc_is_place => k_is)
    (case hk_is_place => k_is)
    (case hm_check_places => k_is)
    (case hl_check_places => k_is)
    (case hc_check_places => k_is)
    (case hk_check_places => k_is)
    (case hm_is_before_list => k_is)
    (case hl_is_before_list => k_is)
    (case hc_is_before_list => k_is)
    (case hk_is_before_list => k_is)
    (case hm_checked_befores => k_is)
    (case hl_checked_befores => k_is)
    (case hc_checked_befores => k_is)
    (case hk_checked_befores => k_is)
    (case hm_afters_of => k_is)
    (case hl_afters_of => k_is)
    (case hc_afters_of => k_is)
    (case hk_afters_of => k_is)
    (case hm_ordered_of => k_is)
    (case hl_ordered_of => k_is)
    (case hc_ordered_of => k_is)
    (case hk_ordered_of => k_is)
    (case hm_reached_along => k_is)
    (case hl_reached_along => k_is)
    (case hc_reached_along => k_is)
    (case hk_reached_along => k_is)
    (case hm_check_rings => k_is)
    (case hl_check_rings => k_is)
    (case hc_check_rings => k_is)
    (case hk_check_rings => k_is)
    (case hm_check_roads => k_is)
    (case hl_check_roads => k_is)
    (case hc_check_roads => k_is)
    (case hk_check_roads => k_is)
    (case hm_check_room => k_is)
    (case hl_check_room => k_is)
    (case hc_check_room => k_is)
    (case hk_check_room => k_is)
    (case hm_check_small => k_is)
    (case hl_check_small => k_is)
    (case hc_check_small => k_is)
    (case hk_check_small => k_is)
    (case hm_moves_at => k_is)
    (case hl_moves_at => k_is)
    (case hc_moves_at => k_is)
    (case hk_moves_at => k_is)
    (case hm_distances_from => k_is)
    (case hl_distances_from => k_is)
    (case hc_distances_from => k_is)
    (case hk_distances_from => k_is)
    (case hm_reached_standings => k_is)
    (case hl_reached_standings => k_is)
    (case hc_reached_standings => k_is)
    (case hk_reached_standings => k_is)
    (case hm_least_way => k_is)
    (case hl_least_way => k_is)
    (case hc_least_way => k_is)
    (case hk_least_way => k_is)
    (case hm_way_between => k_is)
    (case hl_way_between => k_is)
    (case hc_way_between => k_is)
    (case hk_way_between => k_is)
    (case hm_least_room => k_is)
    (case hl_least_room => k_is)
    (case hc_least_room => k_is)
    (case hk_least_room => k_is)
    (case hm_price_of => k_is)
    (case hl_price_of => k_is)
    (case hc_price_of => k_is)
    (case hk_price_of => k_is)
    (case hm_shown_price_of => k_is)
    (case hl_shown_price_of => k_is)
    (case hc_shown_price_of => k_is)
    (case hk_shown_price_of => k_is)
    (case hm_ready_price_of => k_is)
    (case hl_ready_price_of => k_is)
    (case hc_ready_price_of => k_is)
    (case hk_ready_price_of => k_is)
    (case hm_law_hand => k_is)
    (case hl_law_hand => k_is)
    (case hc_law_hand => k_is)
    (case hk_law_hand => k_is)
    (case hm_law_mixed => k_is)
    (case hl_law_mixed => k_is)
    (case hc_law_mixed => k_is)
    (case hk_law_mixed => k_is)
    (case hm_law_take => k_is)
    (case hl_law_take => k_is)
    (case hc_law_take => k_is)
    (case hk_law_take => k_is)
    (case hm_law_whole => k_is)
    (case hl_law_whole => k_is)
    (case hc_law_whole => k_is)
    (case hk_law_whole => k_is)
    (case hm_law_two => k_is)
    (case hl_law_two => k_is)
    (case hc_law_two => k_is)
    (case hk_law_two => k_is)
    (case hm_law_led => k_is)
    (case hl_law_led => k_is)
    (case hc_law_led => k_is)
    (case hk_law_led => k_is)
    (case hm_law_order => k_is)
    (case hl_law_order => k_is)
    (case hc_law_order => k_is)
    (case hk_law_order => k_is)
    (case hm_law_bare => k_is)
    (case hl_law_bare => k_is)
    (case hc_law_bare => k_is)
    (case hk_law_bare => k_is)
    (case hm_law_tree => k_is)
    (case hl_law_tree => k_is)
    (case hc_law_tree => k_is)
    (case hk_law_tree => k_is)
    (case hm_law_masks => k_is)
    (case hl_law_masks => k_is)
    (case hc_law_masks => k_is)
    (case hk_law_masks => k_is)
    (case hm_law_filled => k_is)
    (case hl_law_filled => k_is)
    (case hc_law_filled => k_is)
    (case hk_law_filled => k_is)
    (case hm_law_held => k_is)
    (case hl_law_held => k_is)
    (case hc_law_held => k_is)
    (case hk_law_held => k_is)
    (case hm_law_reach => k_is)
    (case hl_law_reach => k_is)
    (case hc_law_reach => k_is)
    (case hk_law_reach => k_is)
    (case hm_law_price => k_is)
    (case hl_law_price => k_is)
    (case hc_law_price => k_is)
    (case hk_law_price => k_is)
    (case hm_law_small_size => k_is)
    (case hl_law_small_size => k_is)
    (case hc_law_small_size => k_is)
    (case hk_law_small_size => k_is)
    (case hm_law_any_bare => k_is)
    (case hl_law_any_bare => k_is)
    (case hc_law_any_bare => k_is)
    (case hk_law_any_bare => k_is)
    (case hm_law_copied => k_is)
    (case hl_law_copied => k_is)
    (case hc_law_copied => k_is)
    (case hk_law_copied => k_is)
    (case hm_law_places => k_is)
    (case hl_law_places => k_is)
    (case hc_law_places => k_is)
    (case hk_law_places => k_is)
    (case hm_law_listed => k_is)
    (case hl_law_listed => k_is)
    (case hc_law_listed => k_is)
    (case hk_law_listed => k_is)
    (case hm_law_least_way => k_is)
    (case hl_law_least_way => k_is)
    (case hc_law_least_way => k_is)
    (case hk_law_least_way => k_is)
    (case hm_law_room_for => k_is)
    (case hl_law_room_for => k_is)
    (case hc_law_room_for => k_is)
    (case hk_law_room_for => k_is)
    (case hm_law_shuffled => k_is)
    (case hl_law_shuffled => k_is)
    (case hc_law_shuffled => k_is)
    (case hk_law_shuffled => k_is)
    (case hm_law_way_told => k_is)
    (case hl_law_way_told => k_is)
    (case hc_law_way_told => k_is)
    (case hk_law_way_told => k_is)
    (case hm_law_great_refused => k_is)
    (case hl_law_great_refused => k_is)
    (case hc_law_great_refused => k_is)
    (case hk_law_great_refused => k_is)
    (case hm_law_spoilt => k_is)
    (case hl_law_spoilt => k_is)
    (case hc_law_spoilt => k_is)
    (case hk_law_spoilt => k_is)
    (case hm_law_refusals => k_is)
    (case hl_law_refusals => k_is)
    (case hc_law_refusals => k_is)
    (case hk_law_refusals => k_is)
    (case hm_law_prices => k_is)
    (case hl_law_prices => k_is)
    (case hc_law_prices => k_is)
    (case hk_law_prices => k_is)
    (case hm_law => k_is)
    (case hl_law => k_is)
    (case hc_law => k_is)
    (case hk_law => k_is)
    (case hl_TooMany___init__ => k_is)
    (case hc_TooMany___init__ => k_is)
    (case hk_TooMany___init__ => k_is)
    (case hl_BadBare___init__ => k_is)
    (case hc_BadBare___init__ => k_is)
    (case hk_BadBare___init__ => k_is)
    (case hl_BadPlaces___init__ => k_is)
    (case hc_BadPlaces___init__ => k_is)
    (case hk_BadPlaces___init__ => k_is)
    (case hl_Bare___init__ => k_is)
    (case hc_Bare___init__ => k_is)
    (case hk_Bare___init__ => k_is)
    (case hl_Bare___len__ => k_is)
    (case hc_Bare___len__ => k_is)
    (case hk_Bare___len__ => k_is)
    (case hl_Bare___eq__ => k_is)
    (case hc_Bare___eq__ => k_is)
    (case hk_Bare___eq__ => k_is)
    (case hm_MOST_PLACES => k_is)
    (case hm_MOST_ROOM => k_is)
    (case hm_MOST_SEARCHED => k_is)
    (case hz_ValueError => k_is)
    (case hz_abs => k_is)
    (case hz_all => k_is)
    (case hz_any => k_is)
    (case hz_bool => k_is)
    (case hz_enumerate => k_is)
    (case hz_int => k_is)
    (case hz_isinstance => k_is)
    (case hz_len => k_is)
    (case hz_list => k_is)
    (case hz_range => k_is)
    (case hz_set => k_is)
    (case hz_sorted => k_is)
    (case hz_sum => k_is)
    (case hz_tuple => k_is)
    (case hm_UndoError => k_is)
    (case yc_mk_Bare => first | k_is | rfl | decide)
    (case yc_fn_Bare => first | k_is | rfl | decide)
    (case yc_kp_Bare => first | k_is | rfl | decide)
    (case yc_pg_Bare => first | k_is | rfl | decide)
    (case yc_hd_Bare => first | k_is | rfl | decide)
    (case yc_po_Bare => first | k_is | rfl | decide)
    (case yc_sa_Bare => first | k_is | rfl | decide)
    (case yc_ha_Bare => first | k_is | rfl | decide)
    (case yc_hm_Bare => first | k_is | rfl | decide)
    (case yc_me_Bare => first | k_is | rfl | decide)
    (case yc_hn => first | k_is | rfl | decide)
    (case yc_ht => first | k_is | rfl | decide)
    (case hfn_Bare___len__ => k_is)
    (case hfn_Bare___eq__ => k_is)
    (case hne_Bare => k_is)
    (case hna_Bare_befores => k_is)
    (case hna_Bare_end => k_is)
    (case hna_Bare_afters => k_is)
    (case hna_Bare_ordered => k_is)
    (case hna_Bare_needs => k_is)
    (case ve_g => first | k_is | rfl | decide)
    (case ve_k => first | k_is | rfl | decide)
    (case ve_d => first | k_is | rfl | decide)
    (case ve_a => first | k_is | rfl | decide)
    (case ve_m => first | k_is | rfl | decide)
    (case vk_u => first | k_is | rfl | decide)
    (case dt_reached_along => k_is)
    (case ti_reached_along => decide +kernel)
    (case tb_cd0 => exact rfl)
    (case tb_no0 => first | kernel_rfl | k_is | decide +kernel)
    (case tb_hd0 => first | kernel_rfl | k_is | decide +kernel)
    (case tb_ne01 => decide)
    (case tb_ne02 => decide)
    (case tb_ne03 => decide)
    (case tb_cd1 => exact rfl)
    (case tb_no1 => first | kernel_rfl | k_is | decide +kernel)
    (case tb_hd1 => first | kernel_rfl | k_is | decide +kernel)
    (case tb_ne10 => decide)
    (case tb_ne12 => decide)
    (case tb_ne13 => decide)
    (case tb_cd2 => exact rfl)
    (case tb_no2 => first | kernel_rfl | k_is | decide +kernel)
    (case tb_hd2 => first | kernel_rfl | k_is | decide +kernel)
    (case tb_ne20 => decide)
    (case tb_ne21 => decide)
    (case tb_ne23 => decide)
    (case tb_cd3 => exact rfl)
    (case tb_no3 => first | kernel_rfl | k_is | decide +kernel)
    (case tb_hd3 => first | kernel_rfl | k_is | decide +kernel)
    (case tb_ne30 => decide)
    (case tb_ne31 => decide)
    (case tb_ne32 => decide)
#print axioms PySem.Challenge.cw_undocells_k12_ways_and_prices_holds
