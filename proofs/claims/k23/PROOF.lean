import PyProof.Rows.All
import Wide.All
import OpenK.AllK
import Wide.FinOn
import HandS.ForMost
import HandS.Exc
import HandS.TryOnly
import HandS.ExcOwn
import HandS.WordsExc
import HandS.ExcInit
import HandS.ExcField
import HandS.IsInst
import HandS.Evl
import HandS.Deep
import HandS.WideBits
import HandS.Codes
import HandS.Conv
import HandS.SortInts
import HandS.More
import HandS.Style
import HandS.Dict
import HandS.Small
import HandS.Slots
import PySem.Challenge.RW_undocells_k23_chains_of_thirty_digits
import KE.GoesEnum
import KE.GoesMore
set_option Elab.async false
set_option linter.all false
set_option maxRecDepth 100000
set_option maxHeartbeats 4000000
namespace My
open PySem PySem.Spec PyProof.Rows L2
def top (i : Nat) : Stmt := PySem.Challenge.pw_undocells_k23_chains_of_thirty_digits.main.body.getD i (.Pass ⟨0, 0, 0, 0⟩)
abbrev s_is_whole : Stmt := top 1
theorem sc_is_whole : FnScope ["thing"] ["thing"] (defScope s_is_whole) := ⟨rfl, rfl, rfl, by decide +kernel, rfl, by decide +kernel, by decide +kernel⟩
abbrev s_is_within : Stmt := top 2
theorem sc_is_within : FnScope ["thing", "least", "most"] ["thing", "least", "most"] (defScope s_is_within) := ⟨rfl, rfl, rfl, by decide +kernel, rfl, by decide +kernel, by decide +kernel⟩
abbrev s_is_sequence : Stmt := top 3
theorem sc_is_sequence : FnScope ["thing"] ["thing"] (defScope s_is_sequence) := ⟨rfl, rfl, rfl, by decide +kernel, rfl, by decide +kernel, by decide +kernel⟩
abbrev s_check_room : Stmt := top 13
theorem sc_check_room : FnScope ["room"] ["room"] (defScope s_check_room) := ⟨rfl, rfl, rfl, by decide +kernel, rfl, by decide +kernel, by decide +kernel⟩
abbrev s_check_length : Stmt := top 16
theorem sc_check_length : FnScope ["length"] ["length"] (defScope s_check_length) := ⟨rfl, rfl, rfl, by decide +kernel, rfl, by decide +kernel, by decide +kernel⟩
abbrev s_chain_price : Stmt := top 17
theorem sc_chain_price : FnScope ["length"] ["length"] (defScope s_chain_price) := ⟨rfl, rfl, rfl, by decide +kernel, rfl, by decide +kernel, by decide +kernel⟩
abbrev s_longest_chain : Stmt := top 18
theorem sc_longest_chain : FnScope ["cells"] ["cells"] (defScope s_longest_chain) := ⟨rfl, rfl, rfl, by decide +kernel, rfl, by decide +kernel, by decide +kernel⟩
abbrev s_moves_of : Stmt := top 19
theorem sc_moves_of : FnScope ["length", "known", "half"] ["length", "known"] (defScope s_moves_of) := ⟨rfl, rfl, rfl, by decide +kernel, rfl, by decide +kernel, by decide +kernel⟩
abbrev s_chain_moves : Stmt := top 20
theorem sc_chain_moves : FnScope ["length"] ["length"] (defScope s_chain_moves) := ⟨rfl, rfl, rfl, by decide +kernel, rfl, by decide +kernel, by decide +kernel⟩
abbrev s_chain_move : Stmt := top 21
theorem sc_chain_move : FnScope ["length", "number", "known", "first", "many", "left", "half", "there", "rest"] ["length", "number"] (defScope s_chain_move) := ⟨rfl, rfl, rfl, by decide +kernel, rfl, by decide +kernel, by decide +kernel⟩
abbrev s_chain_standing : Stmt := top 22
theorem sc_chain_standing : FnScope ["length", "number", "known", "first", "many", "left", "filled", "half", "there", "rest"] ["length", "number"] (defScope s_chain_standing) := ⟨rfl, rfl, rfl, by decide +kernel, rfl, by decide +kernel, by decide +kernel⟩
abbrev s_check_standing : Stmt := top 23
theorem sc_check_standing : FnScope ["length", "standing", "met", "index", "place"] ["length", "standing"] (defScope s_check_standing) := ⟨rfl, rfl, rfl, by decide +kernel, rfl, by decide +kernel, by decide +kernel⟩
abbrev s_chain_number : Stmt := top 24
theorem sc_chain_number : FnScope ["length", "standing", "places", "known", "first", "many", "base", "sign", "half", "there", "rest", "later", "ahead", "place"] ["length", "standing"] (defScope s_chain_number) := ⟨rfl, rfl, rfl, by decide +kernel, rfl, by decide +kernel, by decide +kernel⟩
abbrev s_law_hand : Stmt := top 26
theorem sc_law_hand : FnScope ["_law_script", "_law_total", "_law_cells", "_law_cell"] ["_law_script"] (defScope s_law_hand) := ⟨rfl, rfl, rfl, by decide +kernel, rfl, by decide +kernel, by decide +kernel⟩
abbrev s_law_mixed : Stmt := top 27
theorem sc_law_mixed : FnScope ["_law_number", "_law_turn", "_law_once", "_law_twice"] ["_law_number", "_law_turn"] (defScope s_law_mixed) := ⟨rfl, rfl, rfl, by decide +kernel, rfl, by decide +kernel, by decide +kernel⟩
abbrev s_law_take : Stmt := top 28
theorem sc_law_take : FnScope ["_law_hand_here", "_law_many", "_law_cell", "_law_rest"] ["_law_hand_here", "_law_many"] (defScope s_law_take) := ⟨rfl, rfl, rfl, by decide +kernel, rfl, by decide +kernel, by decide +kernel⟩
abbrev s_law_whole : Stmt := top 29
theorem sc_law_whole : FnScope ["_law_thing"] ["_law_thing"] (defScope s_law_whole) := ⟨rfl, rfl, rfl, by decide +kernel, rfl, by decide +kernel, by decide +kernel⟩
abbrev s_law_two : Stmt := top 30
theorem sc_law_two : FnScope ["_law_n", "_law_total", "_law_k"] ["_law_n"] (defScope s_law_two) := ⟨rfl, rfl, rfl, by decide +kernel, rfl, by decide +kernel, by decide +kernel⟩
abbrev s_law_order : Stmt := top 31
theorem sc_law_order : FnScope ["_law_hand_here", "_law_many", "_law_left", "_law_told", "_law_k"] ["_law_hand_here", "_law_many"] (defScope s_law_order) := ⟨rfl, rfl, rfl, by decide +kernel, rfl, by decide +kernel, by decide +kernel⟩
abbrev s_law_places : Stmt := top 32
theorem sc_law_places : FnScope ["_law_thing", "_law_part"] ["_law_thing"] (defScope s_law_places) := ⟨rfl, rfl, rfl, by decide +kernel, rfl, by decide +kernel, by decide +kernel⟩
abbrev s_law_shuffled : Stmt := top 33
theorem sc_law_shuffled : FnScope ["_law_hand_here", "_law_things", "_law_at"] ["_law_hand_here", "_law_things"] (defScope s_law_shuffled) := ⟨rfl, rfl, rfl, by decide +kernel, rfl, by decide +kernel, by decide +kernel⟩
abbrev s_law_chain_counts : Stmt := top 34
theorem sc_law_chain_counts : FnScope ["_law_length_here", "_law_digits", "_law_rest", "_law_k", "_law_counts", "_law_at", "_law_low", "_law_high"] ["_law_length_here"] (defScope s_law_chain_counts) := ⟨rfl, rfl, rfl, by decide +kernel, rfl, by decide +kernel, by decide +kernel⟩
abbrev s_law_chain_at : Stmt := top 35
theorem sc_law_chain_at : FnScope ["_law_counts", "_law_first", "_law_length_here", "_law_number", "_law_half", "_law_rest", "_law_back"] ["_law_counts", "_law_first", "_law_length_here", "_law_number"] (defScope s_law_chain_at) := ⟨rfl, rfl, rfl, by decide +kernel, rfl, by decide +kernel, by decide +kernel⟩
abbrev s_law_chain_met : Stmt := top 36
theorem sc_law_chain_met : FnScope ["_law_counts", "_law_first", "_law_length_here", "_law_filled", "_law_half", "_law_lower", "_law_upper", "_law_met_here", "_law_place"] ["_law_counts", "_law_first", "_law_length_here", "_law_filled"] (defScope s_law_chain_met) := ⟨rfl, rfl, rfl, by decide +kernel, rfl, by decide +kernel, by decide +kernel⟩
abbrev s_law_great : Stmt := top 37
theorem sc_law_great : FnScope ["_law_hand_here", "_law_limit", "_law_total", "_law_k"] ["_law_hand_here", "_law_limit"] (defScope s_law_great) := ⟨rfl, rfl, rfl, by decide +kernel, rfl, by decide +kernel, by decide +kernel⟩
abbrev s_law_length : Stmt := top 38
theorem sc_law_length : FnScope ["_law_hand_here", "_law_at", "_law_limit", "_law_k", "_law_length_here", "_law_power"] ["_law_hand_here"] (defScope s_law_length) := ⟨rfl, rfl, rfl, by decide +kernel, rfl, by decide +kernel, by decide +kernel⟩
abbrev s_law_met : Stmt := top 39
theorem sc_law_met : FnScope ["_law_length_here", "_law_standing", "_law_told", "e"] ["_law_length_here", "_law_standing"] (defScope s_law_met) := ⟨rfl, rfl, rfl, by decide +kernel, rfl, by decide +kernel, by decide +kernel⟩
abbrev s_law_refused : Stmt := top 40
theorem sc_law_refused : FnScope ["_law_which", "_law_length_here", "_law_number"] ["_law_which", "_law_length_here", "_law_number"] (defScope s_law_refused) := ⟨rfl, rfl, rfl, by decide +kernel, rfl, by decide +kernel, by decide +kernel⟩
abbrev s_law_drawn_number : Stmt := top 41
theorem sc_law_drawn_number : FnScope ["_law_hand_here", "_law_counts", "_law_length_here", "_law_at", "_law_low", "_law_high", "_law_border"] ["_law_hand_here", "_law_counts", "_law_length_here"] (defScope s_law_drawn_number) := ⟨rfl, rfl, rfl, by decide +kernel, rfl, by decide +kernel, by decide +kernel⟩
abbrev s_law_spoilt : Stmt := top 42
theorem sc_law_spoilt : FnScope ["_law_hand_here", "_law_length_here", "_law_standing", "_law_at", "_law_where", "_law_moved", "_law_added"] ["_law_hand_here", "_law_length_here", "_law_standing"] (defScope s_law_spoilt) := ⟨rfl, rfl, rfl, by decide +kernel, rfl, by decide +kernel, by decide +kernel⟩
abbrev s_law_moves_fit : Stmt := top 43
theorem sc_law_moves_fit : FnScope ["_law_hand_here", "_law_counts", "_law_length_here", "_law_number", "_law_standing", "_law_place", "_law_after", "_law_changed", "_law_spoilt_here", "_law_due", "_law_other"] ["_law_hand_here", "_law_counts", "_law_length_here", "_law_number"] (defScope s_law_moves_fit) := ⟨rfl, rfl, rfl, by decide +kernel, rfl, by decide +kernel, by decide +kernel⟩
abbrev s_law : Stmt := top 44
theorem sc_law : FnScope ["_law_script", "_law_hand_here", "_law_length_here", "_law_counts", "_law_power", "_law_k", "_law_cells", "_law_turn", "_law_odd", "_law_wrong", "_law_standing", "_law_at", "_law_again"] ["_law_script"] (defScope s_law) := ⟨rfl, rfl, rfl, by decide +kernel, rfl, by decide +kernel, by decide +kernel⟩
abbrev s_BadPlaces___init__ : Stmt := inClass (top 6) 0
theorem sc_BadPlaces___init__ : FnScope ["self", "index"] ["self", "index"] (defScope s_BadPlaces___init__) := ⟨rfl, rfl, rfl, by decide +kernel, rfl, by decide +kernel, by decide +kernel⟩
structure Ad where
  f_is_whole : Addr
  d_is_whole : FuncData
  f_is_within : Addr
  d_is_within : FuncData
  f_is_sequence : Addr
  d_is_sequence : FuncData
  f_check_room : Addr
  d_check_room : FuncData
  f_check_length : Addr
  d_check_length : FuncData
  f_chain_price : Addr
  d_chain_price : FuncData
  f_longest_chain : Addr
  d_longest_chain : FuncData
  f_moves_of : Addr
  d_moves_of : FuncData
  f_chain_moves : Addr
  d_chain_moves : FuncData
  f_chain_move : Addr
  d_chain_move : FuncData
  f_chain_standing : Addr
  d_chain_standing : FuncData
  f_check_standing : Addr
  d_check_standing : FuncData
  f_chain_number : Addr
  d_chain_number : FuncData
  f_law_hand : Addr
  d_law_hand : FuncData
  f_law_mixed : Addr
  d_law_mixed : FuncData
  f_law_take : Addr
  d_law_take : FuncData
  f_law_whole : Addr
  d_law_whole : FuncData
  f_law_two : Addr
  d_law_two : FuncData
  f_law_order : Addr
  d_law_order : FuncData
  f_law_places : Addr
  d_law_places : FuncData
  f_law_shuffled : Addr
  d_law_shuffled : FuncData
  f_law_chain_counts : Addr
  d_law_chain_counts : FuncData
  f_law_chain_at : Addr
  d_law_chain_at : FuncData
  f_law_chain_met : Addr
  d_law_chain_met : FuncData
  f_law_great : Addr
  d_law_great : FuncData
  f_law_length : Addr
  d_law_length : FuncData
  f_law_met : Addr
  d_law_met : FuncData
  f_law_refused : Addr
  d_law_refused : FuncData
  f_law_drawn_number : Addr
  d_law_drawn_number : FuncData
  f_law_spoilt : Addr
  d_law_spoilt : FuncData
  f_law_moves_fit : Addr
  d_law_moves_fit : FuncData
  f_law : Addr
  d_law : FuncData
  c_UndoError : Addr
  c_BadPlaces : Addr
  c_BadRoom : Addr
  c_BadLength : Addr
  c_BadNumber : Addr
  c_NeverStands : Addr
  f_BadPlaces___init__ : Addr
  d_BadPlaces___init__ : FuncData
structure Txt (K : PySem.W.Frag) (mg : Str → Option Value) (a : Ad) : Prop where
  m_is_whole : mg "is_whole" = some (.ref a.f_is_whole)
  F_is_whole : Fun K "is_whole" "is_whole" s_is_whole a.f_is_whole a.d_is_whole
  b_is_whole : Binds K a.d_is_whole ["thing"] []
  m_is_within : mg "is_within" = some (.ref a.f_is_within)
  F_is_within : Fun K "is_within" "is_within" s_is_within a.f_is_within a.d_is_within
  b_is_within : Binds K a.d_is_within ["thing", "least", "most"] []
  m_is_sequence : mg "is_sequence" = some (.ref a.f_is_sequence)
  F_is_sequence : Fun K "is_sequence" "is_sequence" s_is_sequence a.f_is_sequence a.d_is_sequence
  b_is_sequence : Binds K a.d_is_sequence ["thing"] []
  m_check_room : mg "check_room" = some (.ref a.f_check_room)
  F_check_room : Fun K "check_room" "check_room" s_check_room a.f_check_room a.d_check_room
  b_check_room : Binds K a.d_check_room ["room"] []
  m_check_length : mg "check_length" = some (.ref a.f_check_length)
  F_check_length : Fun K "check_length" "check_length" s_check_length a.f_check_length a.d_check_length
  b_check_length : Binds K a.d_check_length ["length"] []
  m_chain_price : mg "chain_price" = some (.ref a.f_chain_price)
  F_chain_price : Fun K "chain_price" "chain_price" s_chain_price a.f_chain_price a.d_chain_price
  b_chain_price : Binds K a.d_chain_price ["length"] []
  m_longest_chain : mg "longest_chain" = some (.ref a.f_longest_chain)
  F_longest_chain : Fun K "longest_chain" "longest_chain" s_longest_chain a.f_longest_chain a.d_longest_chain
  b_longest_chain : Binds K a.d_longest_chain ["cells"] []
  m_moves_of : mg "moves_of" = some (.ref a.f_moves_of)
  F_moves_of : Fun K "moves_of" "moves_of" s_moves_of a.f_moves_of a.d_moves_of
  b_moves_of : Binds K a.d_moves_of ["length", "known"] []
  m_chain_moves : mg "chain_moves" = some (.ref a.f_chain_moves)
  F_chain_moves : Fun K "chain_moves" "chain_moves" s_chain_moves a.f_chain_moves a.d_chain_moves
  b_chain_moves : Binds K a.d_chain_moves ["length"] []
  m_chain_move : mg "chain_move" = some (.ref a.f_chain_move)
  F_chain_move : Fun K "chain_move" "chain_move" s_chain_move a.f_chain_move a.d_chain_move
  b_chain_move : Binds K a.d_chain_move ["length", "number"] []
  m_chain_standing : mg "chain_standing" = some (.ref a.f_chain_standing)
  F_chain_standing : Fun K "chain_standing" "chain_standing" s_chain_standing a.f_chain_standing a.d_chain_standing
  b_chain_standing : Binds K a.d_chain_standing ["length", "number"] []
  m_check_standing : mg "check_standing" = some (.ref a.f_check_standing)
  F_check_standing : Fun K "check_standing" "check_standing" s_check_standing a.f_check_standing a.d_check_standing
  b_check_standing : Binds K a.d_check_standing ["length", "standing"] []
  m_chain_number : mg "chain_number" = some (.ref a.f_chain_number)
  F_chain_number : Fun K "chain_number" "chain_number" s_chain_number a.f_chain_number a.d_chain_number
  b_chain_number : Binds K a.d_chain_number ["length", "standing"] []
  m_law_hand : mg "_law_hand" = some (.ref a.f_law_hand)
  F_law_hand : Fun K "_law_hand" "_law_hand" s_law_hand a.f_law_hand a.d_law_hand
  b_law_hand : Binds K a.d_law_hand ["_law_script"] []
  m_law_mixed : mg "_law_mixed" = some (.ref a.f_law_mixed)
  F_law_mixed : Fun K "_law_mixed" "_law_mixed" s_law_mixed a.f_law_mixed a.d_law_mixed
  b_law_mixed : Binds K a.d_law_mixed ["_law_number", "_law_turn"] []
  m_law_take : mg "_law_take" = some (.ref a.f_law_take)
  F_law_take : Fun K "_law_take" "_law_take" s_law_take a.f_law_take a.d_law_take
  b_law_take : Binds K a.d_law_take ["_law_hand_here", "_law_many"] []
  m_law_whole : mg "_law_whole" = some (.ref a.f_law_whole)
  F_law_whole : Fun K "_law_whole" "_law_whole" s_law_whole a.f_law_whole a.d_law_whole
  b_law_whole : Binds K a.d_law_whole ["_law_thing"] []
  m_law_two : mg "_law_two" = some (.ref a.f_law_two)
  F_law_two : Fun K "_law_two" "_law_two" s_law_two a.f_law_two a.d_law_two
  b_law_two : Binds K a.d_law_two ["_law_n"] []
  m_law_order : mg "_law_order" = some (.ref a.f_law_order)
  F_law_order : Fun K "_law_order" "_law_order" s_law_order a.f_law_order a.d_law_order
  b_law_order : Binds K a.d_law_order ["_law_hand_here", "_law_many"] []
  m_law_places : mg "_law_places" = some (.ref a.f_law_places)
  F_law_places : Fun K "_law_places" "_law_places" s_law_places a.f_law_places a.d_law_places
  b_law_places : Binds K a.d_law_places ["_law_thing"] []
  m_law_shuffled : mg "_law_shuffled" = some (.ref a.f_law_shuffled)
  F_law_shuffled : Fun K "_law_shuffled" "_law_shuffled" s_law_shuffled a.f_law_shuffled a.d_law_shuffled
  b_law_shuffled : Binds K a.d_law_shuffled ["_law_hand_here", "_law_things"] []
  m_law_chain_counts : mg "_law_chain_counts" = some (.ref a.f_law_chain_counts)
  F_law_chain_counts : Fun K "_law_chain_counts" "_law_chain_counts" s_law_chain_counts a.f_law_chain_counts a.d_law_chain_counts
  b_law_chain_counts : Binds K a.d_law_chain_counts ["_law_length_here"] []
  m_law_chain_at : mg "_law_chain_at" = some (.ref a.f_law_chain_at)
  F_law_chain_at : Fun K "_law_chain_at" "_law_chain_at" s_law_chain_at a.f_law_chain_at a.d_law_chain_at
  b_law_chain_at : Binds K a.d_law_chain_at ["_law_counts", "_law_first", "_law_length_here", "_law_number"] []
  m_law_chain_met : mg "_law_chain_met" = some (.ref a.f_law_chain_met)
  F_law_chain_met : Fun K "_law_chain_met" "_law_chain_met" s_law_chain_met a.f_law_chain_met a.d_law_chain_met
  b_law_chain_met : Binds K a.d_law_chain_met ["_law_counts", "_law_first", "_law_length_here", "_law_filled"] []
  m_law_great : mg "_law_great" = some (.ref a.f_law_great)
  F_law_great : Fun K "_law_great" "_law_great" s_law_great a.f_law_great a.d_law_great
  b_law_great : Binds K a.d_law_great ["_law_hand_here", "_law_limit"] []
  m_law_length : mg "_law_length" = some (.ref a.f_law_length)
  F_law_length : Fun K "_law_length" "_law_length" s_law_length a.f_law_length a.d_law_length
  b_law_length : Binds K a.d_law_length ["_law_hand_here"] []
  m_law_met : mg "_law_met" = some (.ref a.f_law_met)
  F_law_met : Fun K "_law_met" "_law_met" s_law_met a.f_law_met a.d_law_met
  b_law_met : Binds K a.d_law_met ["_law_length_here", "_law_standing"] []
  m_law_refused : mg "_law_refused" = some (.ref a.f_law_refused)
  F_law_refused : Fun K "_law_refused" "_law_refused" s_law_refused a.f_law_refused a.d_law_refused
  b_law_refused : Binds K a.d_law_refused ["_law_which", "_law_length_here", "_law_number"] []
  m_law_drawn_number : mg "_law_drawn_number" = some (.ref a.f_law_drawn_number)
  F_law_drawn_number : Fun K "_law_drawn_number" "_law_drawn_number" s_law_drawn_number a.f_law_drawn_number a.d_law_drawn_number
  b_law_drawn_number : Binds K a.d_law_drawn_number ["_law_hand_here", "_law_counts", "_law_length_here"] []
  m_law_spoilt : mg "_law_spoilt" = some (.ref a.f_law_spoilt)
  F_law_spoilt : Fun K "_law_spoilt" "_law_spoilt" s_law_spoilt a.f_law_spoilt a.d_law_spoilt
  b_law_spoilt : Binds K a.d_law_spoilt ["_law_hand_here", "_law_length_here", "_law_standing"] []
  m_law_moves_fit : mg "_law_moves_fit" = some (.ref a.f_law_moves_fit)
  F_law_moves_fit : Fun K "_law_moves_fit" "_law_moves_fit" s_law_moves_fit a.f_law_moves_fit a.d_law_moves_fit
  b_law_moves_fit : Binds K a.d_law_moves_fit ["_law_hand_here", "_law_counts", "_law_length_here", "_law_number"] []
  m_law : mg "law" = some (.ref a.f_law)
  F_law : Fun K "law" "law" s_law a.f_law a.d_law
  b_law : Binds K a.d_law ["_law_script"] []
  m_BadPlaces : mg "BadPlaces" = some (.ref a.c_BadPlaces)
  x_BadPlaces : OexC K a.c_BadPlaces
  xf_BadPlaces : XfC K a.c_BadPlaces
  xi_BadPlaces : PySem.W.findIn K (.ref a.c_BadPlaces) "__init__" = some (some (.ref a.f_BadPlaces___init__))
  xt_BadPlaces : PySem.W.typeIn K (.ref a.f_BadPlaces___init__) = some (.type "function")
  xe_BadPlaces : PySem.W.exmOne K (.ref a.c_BadPlaces) (.ref a.c_BadPlaces) = some true
  xn_BadPlaces_index : PySem.W.findIn K (.ref a.c_BadPlaces) "index" = some none
  F_BadPlaces___init__ : Fun K "__init__" "BadPlaces.__init__" s_BadPlaces___init__ a.f_BadPlaces___init__ a.d_BadPlaces___init__
  b_BadPlaces___init__ : Binds K a.d_BadPlaces___init__ ["self", "index"] []
  m_BadRoom : mg "BadRoom" = some (.ref a.c_BadRoom)
  q_BadRoom : PySem.W.excIn K a.c_BadRoom [.type "ValueError", .type "Exception", .type "BaseException", .type "object"] "ValueError.__new__" = true
  k_BadRoom : PySem.W.keepIn K (.ref a.c_BadRoom) = true
  sb_BadRoom : PySem.W.subIn K (.ref a.c_BadRoom) (.type "BaseException") = some true
  ty_BadRoom : PySem.W.typeIn K (.ref a.c_BadRoom) = some (.type "type")
  xe_BadRoom : PySem.W.exmOne K (.ref a.c_BadRoom) (.ref a.c_BadRoom) = some true
  m_BadLength : mg "BadLength" = some (.ref a.c_BadLength)
  q_BadLength : PySem.W.excIn K a.c_BadLength [.type "ValueError", .type "Exception", .type "BaseException", .type "object"] "ValueError.__new__" = true
  k_BadLength : PySem.W.keepIn K (.ref a.c_BadLength) = true
  sb_BadLength : PySem.W.subIn K (.ref a.c_BadLength) (.type "BaseException") = some true
  ty_BadLength : PySem.W.typeIn K (.ref a.c_BadLength) = some (.type "type")
  xe_BadLength : PySem.W.exmOne K (.ref a.c_BadLength) (.ref a.c_BadLength) = some true
  m_BadNumber : mg "BadNumber" = some (.ref a.c_BadNumber)
  q_BadNumber : PySem.W.excIn K a.c_BadNumber [.type "ValueError", .type "Exception", .type "BaseException", .type "object"] "ValueError.__new__" = true
  k_BadNumber : PySem.W.keepIn K (.ref a.c_BadNumber) = true
  sb_BadNumber : PySem.W.subIn K (.ref a.c_BadNumber) (.type "BaseException") = some true
  ty_BadNumber : PySem.W.typeIn K (.ref a.c_BadNumber) = some (.type "type")
  xe_BadNumber : PySem.W.exmOne K (.ref a.c_BadNumber) (.ref a.c_BadNumber) = some true
  m_NeverStands : mg "NeverStands" = some (.ref a.c_NeverStands)
  q_NeverStands : PySem.W.excIn K a.c_NeverStands [.type "ValueError", .type "Exception", .type "BaseException", .type "object"] "ValueError.__new__" = true
  k_NeverStands : PySem.W.keepIn K (.ref a.c_NeverStands) = true
  sb_NeverStands : PySem.W.subIn K (.ref a.c_NeverStands) (.type "BaseException") = some true
  ty_NeverStands : PySem.W.typeIn K (.ref a.c_NeverStands) = some (.type "type")
  xe_NeverStands : PySem.W.exmOne K (.ref a.c_NeverStands) (.ref a.c_NeverStands) = some true
  g_MOST_ROOM : ∃ u, mg "MOST_ROOM" = some u ∧ RelV (.int 200) u
  g_MOST_LENGTH : ∃ u, mg "MOST_LENGTH" = some u ∧ RelV (.int 1000000000000000000000000000000) u
  z_ValueError : mg "ValueError" = none
  z_abs : mg "abs" = none
  z_all : mg "all" = none
  z_bool : mg "bool" = none
  z_enumerate : mg "enumerate" = none
  z_int : mg "int" = none
  z_isinstance : mg "isinstance" = none
  z_len : mg "len" = none
  z_list : mg "list" = none
  z_max : mg "max" = none
  z_min : mg "min" = none
  z_range : mg "range" = none
  z_sorted : mg "sorted" = none
  z_tuple : mg "tuple" = none
/-! ### steps of readings -/
theorem cx_K {CX : CXT} {P : Program} {w : World} {K : PySem.W.Frag} {mg : Str → Option Value} {base : Heap} {N : List Str} {qual : Str} {scope : Scope} {f : Addr} {cd : Value} {A : Around} {outer : List Env} {s : Shared} {H : Hp} {E : XK} :
    (cxOf CX P w K mg base N qual scope f cd A outer s H E).K = K := rfl
theorem ixl {K : PySem.W.Frag} {H : Hp} {p : Addr} {xs : List V} {i : Int} {v : V} {Q : VK} (h : SqL K H p xs) (e : atI xs i = some v) (q : Q v H) : rIxL K (.ref p) (.int i) H Q := ⟨p, xs, i, v, rfl, rfl, h, e, q⟩
theorem setl {H : Hp} {p : Addr} {xs : List V} {k : Int} {j : Nat} {v : V} {Q : Hp → Prop} (h : H p = some (.lst xs)) (e : ixN xs.length k = some j) (q : Q (upd H p (.lst (xs.set j v)))) : rSetL (.ref p) (.int k) v H Q := ⟨p, xs, k, j, rfl, rfl, h, e, q⟩
theorem atI_int {ns : List Int} {i : Int} (h0 : 0 ≤ i) (h1 : i < (ns.length : Int)) : ∃ z, z ∈ ns ∧ atI (ns.map V.int) i = some (.int z) := by
  obtain ⟨k, rfl⟩ : ∃ k : Nat, i = (k : Int) := ⟨i.toNat, by omega⟩
  have hk : k < ns.length := by omega
  exact ⟨ns[k], List.getElem_mem hk, atI_nat (by rw [List.getElem?_map, List.getElem?_eq_getElem hk] <;> rfl)⟩
theorem str1 {a b : Nat} : ((⟨#[a]⟩ : Str) = ⟨#[b]⟩) = (a = b) := by
  apply propext
  constructor
  · intro h
    have q : (#[a] : Array Nat) = #[b] := congrArg Str.cps h
    have q2 : ([a] : List Nat) = [b] := congrArg Array.toList q
    exact (List.cons.inj q2).1
  · intro h; rw [h]
theorem int_at {ns : List Int} {i : Nat} {x : V} (h : (ns.map V.int)[i]? = some x) : ∃ z, ns[i]? = some z ∧ x = .int z := by
  rw [List.getElem?_map] at h
  cases e : ns[i]? with
  | none => rw [e] at h; cases h
  | some z => rw [e] at h; exact ⟨z, rfl, (Option.some.inj h).symm⟩
/-- C(x, ..) made: what is asked once the arguments stand -/
def mkO (C : Addr) (sp : Sp) (dvs : List V) (vs : List V) (H1 : Hp) (Q : XK) : Prop := vs.length ≤ 1000 ∧ ∀ e, H1 e = none → sp (.ref e :: (vs ++ dvs)) (upd H1 e (exo e C none))
  (fun v H2 => v = .non ∧ ∃ (d : Addr) (fs : List (Str × V)), H2 e = some (exo e C (some d)) ∧ H2 d = some (exd d fs) ∧ H1 d = none ∧ Q (.ref C) (some d) (upd (del H2 e) d (.xd fs))) (fun _ _ _ => False)
theorem tMkO_eq {C : Addr} {sp : Sp} {dvs : List V} {ta : TA} : tMkO C sp dvs ta = fun σ H Q => ta σ H fun vs H1 => mkO C sp dvs vs H1 Q := rfl
/-- what a comprehension asks behind its iterator's making -/
def LcG (J : It) (g : TG) (tt : TT) (te : TE) (vs : List Nat) (σ : L2.St) (Q : VK) (H1 : Hp) : Prop := ∀ D, H1 D = none → ∃ W : Nat → Nat → Hp → Prop, (∃ m, W 0 m (upd H1 D (.lst []))) ∧ ∀ i m H, W i m H →
  (J.stop i H ∧ Q (.ref D) H) ∨ (J.go i H ∧ ∃ Nx : Hp → Prop, (∀ H', Nx H' → ∃ m', m' < m ∧ W (i + 1) m' H') ∧ ∀ x H', J.yld i H x H' → g x (wipe σ vs) H' fun σ2 H2 => wipe σ2 vs = wipe σ vs ∧ tt σ2 H2 fun b H3 =>
    if b = true then te σ2 H3 fun y H4 => ∃ acc, H4 D = some (.lst acc) ∧ acc.length < sizeLine ∧ Nx (upd H4 D (.lst (acc ++ [y]))) else Nx H3)
theorem tLc_eq {wi : TI} {g : TG} {tt : TT} {te : TE} {vs : List Nat} : tLc wi g tt te vs = fun σ H Q => wi σ H fun J H1 => LcG J g tt te vs σ Q H1 := rfl
theorem lcg_range {lo : Int} {n : Nat} {g : TG} {tt : TT} {te : TE} {vs : List Nat} {σ : L2.St} {H1 : Hp} {Q : VK} (Pv : Addr → Nat → Hp → Prop) (h0 : ∀ D, H1 D = none → Pv D 0 (upd H1 D (.lst [])))
    (hs : ∀ D i H, H1 D = none → i < n → Pv D i H → g (.int (lo + i)) (wipe σ vs) H fun σ2 H2 => wipe σ2 vs = wipe σ vs ∧ tt σ2 H2 fun b H3 =>
      if b = true then te σ2 H3 fun y H4 => ∃ acc, H4 D = some (.lst acc) ∧ acc.length < sizeLine ∧ Pv D (i + 1) (upd H4 D (.lst (acc ++ [y]))) else Pv D (i + 1) H3) (hd : ∀ D H, H1 D = none → Pv D n H → Q (.ref D) H) : LcG (Itr lo n) g tt te vs σ Q H1 :=
  fun D hD => lc_range (Qd := fun H => Q (.ref D) H) (Pv D) (h0 D hD) (fun i H hi h => hs D i H hD hi h) fun H h => hd D H hD h
theorem lcg_list {K : PySem.W.Frag} {a : Addr} {xs : List V} {g : TG} {tt : TT} {te : TE} {vs : List Nat} {σ : L2.St} {H1 : Hp} {Q : VK} (Pv : Addr → Nat → Hp → Prop) (h0 : ∀ D, H1 D = none → Pv D 0 (upd H1 D (.lst []))) (hl : ∀ D i H, H1 D = none → i ≤ xs.length → Pv D i H → SqL K H a xs)
    (hs : ∀ D i x H, H1 D = none → xs[i]? = some x → Pv D i H → g x (wipe σ vs) H fun σ2 H2 => wipe σ2 vs = wipe σ vs ∧ tt σ2 H2 fun b H3 =>
      if b = true then te σ2 H3 fun y H4 => ∃ acc, H4 D = some (.lst acc) ∧ acc.length < sizeLine ∧ Pv D (i + 1) (upd H4 D (.lst (acc ++ [y]))) else Pv D (i + 1) H3) (hd : ∀ D H, H1 D = none → Pv D xs.length H → Q (.ref D) H) : LcG (Itl K a) g tt te vs σ Q H1 :=
  fun D hD => lc_list (Qd := fun H => Q (.ref D) H) (Pv D) (h0 D hD) (fun i H hi h => hl D i H hD hi h) (fun i x H hi h => hs D i x H hD hi h) fun H h => hd D H hD h
local macro_rules | `(tactic| walk_at "cmul") => `(tactic| first | exact .inl ⟨by omega, by omega⟩ | exact .inr ⟨by omega, by omega⟩)
local macro_rules | `(tactic| walk_at "r1") => `(tactic| first | refine ⟨_, rfl, ?_⟩ | refine ⟨_, _, rfl, rfl, ?_⟩ | refine Or.inl ⟨_, rfl, ?_⟩)
local macro_rules | `(tactic| walk_at "sm") => `(tactic| try simp only [tSeq, tAsg, tRet, tRetN, tDrop, tOp, tUn, tVar, tC, tCB, tCons, tNil, tLst, tTup, tTest, tB, tAnd, tOr, tNot, tAndV, tOrV, tNotV, tIf, tIfS, tNext, tCont, tBreak, tCall, tCallS, WE, tXf, rI0, rI, rU, gName, gNil, gCons, gTup, gSub, tAug, tBM, tBM0, tM1, rNewStrs, tLc_eq, iRng1, iRng2, iList, iTup, tYes, wipe, List.foldl_cons, List.foldl_nil, rEq, rNe, scal, rIxS, rSlS, tSl, tPart, tNoPart, tChain, ipI, str1, tMkO_eq, L2.start, List.map_cons, List.map_nil, List.append_nil, List.cons_append, List.nil_append, List.length_cons, List.length_nil, List.drop, List.replicate, List.getElem?_cons_zero, List.getElem?_cons_succ, List.set_cons_zero, List.set_cons_succ, Option.some.injEq, V.int.injEq, V.str.injEq, V.ref.injEq, V.bl.injEq, List.cons.injEq, reduceCtorEq, false_and, and_false, exists_false, or_false, false_or, exists_eq_left', exists_eq_left, and_assoc, cx_K, exists_and_left, exists_and_right, and_true, true_and, decide_eq_true_eq, if_true, if_false, Bool.false_eq_true])
local macro_rules | `(tactic| walk_at "rm") => `(tactic| refine ⟨by walk_at "cmul", ?_⟩)

/-! ### a target that is a field of an exception that is being made -/
def gOst (K : PySem.W.Frag) (f : Str) (to : TE) : TG := fun y σ H Q => to σ H fun x H2 => ∃ a C : Addr, x = .ref a ∧ OexC K C ∧ PySem.W.findIn K (.ref C) f = some none ∧
  ((H2 a = some (exo a C none) ∧ ∀ dx, H2 dx = none → dx ≠ a → Q σ (upd (upd H2 dx (exd dx [(f, y)])) a (exo a C (some dx)))) ∨
    ∃ (dx : Addr) (fs : List (Str × V)), H2 a = some (exo a C (some dx)) ∧ H2 dx = some (exd dx fs) ∧ fs.length ≤ 900 ∧ Q σ (upd H2 dx (exd dx ((f, y) :: fs))))
theorem pg_ost {X : Cx} {o : Expr} {to : TE} {f : Str} {pos : Pos} (ho : PE X o to) : PG X (.Attribute o f pos) (gOst X.K f to) := by
  refine ⟨fun pins s σ H v u Q I r h => ?_⟩
  rw [assign_Attribute]
  refine wpAny_bind (wpAny_holding (thn (ho.run pins s σ H _ I h) fun ov s1 ⟨x, H1, I1, r1, q1⟩ => ?_))
  refine wpAny_bind (wpAny_standAt (wpAny_bind (wpAny_holding ?_)))
  obtain ⟨a, C, rfl, T, hno, q⟩ := q1
  obtain rfl : ov = Value.ref a := r1
  rcases q with ⟨ea, q⟩ | ⟨dx, fs, ea, ed, hl, q⟩
  · exact ost_new T I1 ea hno r fun dx s' n ne J => wpAny_release ⟨σ, _, J, q dx n ne⟩
  · exact ost_old T I1 ea ed hl hno r fun s' J => wpAny_release ⟨σ, _, J, q⟩

/-- all but p is kept -/
def Fr (p : Addr) (H H' : Hp) : Prop := ∀ b o, b ≠ p → H b = some o → H' b = some o
theorem Fr.refl {p : Addr} (H : Hp) : Fr p H H := fun _ _ _ h => h
theorem Fr.trans {p : Addr} {H H1 H2 : Hp} (a : Fr p H H1) (b : Fr p H1 H2) : Fr p H H2 := fun c o n h => b c o n (a c o n h)
theorem Fr.of {p : Addr} {H H1 : Hp} (a : Evl.Ex H H1) : Fr p H H1 := fun c o _ h => a c o h
theorem Fr.upd {p : Addr} {H : Hp} {o : HO} : Fr p H (upd H p o) := fun c u n h => by rw [upd_ne n]; exact h
/-- what is not known of H stays so -/
def spInit1 (C : Addr) (f1 : Str) : Sp := fun vs H Q _ => ∃ (e : Addr) (x : V), vs = [.ref e, x] ∧ H e = some (exo e C none) ∧
  ∀ (d : Addr) (H' : Hp), H d = none → d ≠ e → Fr e H H' → H' e = some (exo e C (some d)) → H' d = some (exd d [(f1, x)]) → Q .non H'
theorem mk1 {C : Addr} {f1 : Str} {x : V} {H1 : Hp} {Q : XK} (k : ∀ (d : Addr) (H' : Hp), Evl.Ex H1 H' → H' d = some (.xd [(f1, x)]) → Q (.ref C) (some d) H') :
    mkO C (spInit1 C f1) [] [x] H1 Q := by
  refine ⟨by show 1 ≤ 1000; omega, fun e he => ⟨e, x, rfl, upd_same, fun d H' hd hne hf h1 h2 => ⟨rfl, d, _, h1, h2, ?_, ?_⟩⟩⟩
  · rw [upd_ne hne] at hd
    exact hd
  · refine k d _ (fun b o hb => ?_) upd_same
    have nbe : b ≠ e := ne_of_none hb he
    rw [upd_ne hne] at hd
    have nbd : b ≠ d := ne_of_none hb hd
    rw [upd_ne nbd, del_ne nbe]
    exact hf b o nbe (by rw [upd_ne nbe]; exact hb)

section
variable {P : Program} {w : World} {K : PySem.W.Frag} {mg : Str → Option Value} {base : Heap} {a : Ad}
/-! ### BadPlaces(index) -/
theorem ok_BadPlaces_init (T : Txt K mg a) : FnOk P w K mg base CX0 1 a.f_BadPlaces___init__ a.d_BadPlaces___init__ ["self", "index"] (spInit1 a.c_BadPlaces "index") := by
  refine T.F_BadPlaces___init__.ok sc_BadPlaces___init__ (fun vs H Q E h => ?_) (fun cdv A outer s H vs Q E hr h => ?_)
  · obtain ⟨e, x, rfl, _⟩ := h
    rfl
  · obtain ⟨e, x, rfl, he, k⟩ := h
    refine ⟨_, pss_one (ps_asg (pv 1) (pg_ost (pv 0))), ?_⟩
    refine ⟨_, rfl, _, rfl, e, a.c_BadPlaces, rfl, T.x_BadPlaces, T.xn_BadPlaces_index, .inl ⟨he, fun dx hdx hne => ?_⟩⟩
    refine k dx _ hdx hne (fun b o nb hb => ?_) upd_same (by rw [upd_ne hne, upd_same])
    rw [upd_ne nb, upd_ne (ne_of_none hb hdx)]
    exact hb
/-! ### the hand -/
/-- a hand stands at p: the script's cells, how many of them are taken, the rest of a great one, the mixed sum -/
def HandAt (H : Hp) (p c : Addr) : Prop := ∃ (cells : List Int) (i g t : Int), H p = some (.lst [.ref c, .int i, .int g, .int t]) ∧ H c = some (.lst (cells.map V.int)) ∧
  cells.length ≤ 63 ∧ (∀ x ∈ cells, 0 ≤ x) ∧ 0 ≤ i ∧ i ≤ 63 ∧ 0 ≤ g ∧ 0 ≤ t ∧ t < 2147483549
def spHand (K : PySem.W.Frag) : Sp := fun vs H Q _ => ∃ (s : Addr) (ns : List Int), vs = [.ref s] ∧ SqL K H s (ns.map V.int) ∧ ns.length ≤ 63 ∧
  ∀ p c H', H p = none → Evl.Ex H H' → HandAt H' p c → Q (.ref p) H'
def ivHand (H : Hp) (sc l : Addr) (ns : List Int) : Nat → L2.St → Hp → Prop := fun i σ H' => ∃ (t : Int) (cells : List Int) (v : Option V), σ = [some (.ref sc), some (.int t), some (.ref l), v] ∧
  H' l = some (.lst (cells.map V.int)) ∧ cells.length = i ∧ i ≤ ns.length ∧ (∀ x ∈ cells, 0 ≤ x) ∧ 0 ≤ t ∧ t < 2147483549 ∧ Evl.Ex H H'
theorem ok_law_hand (T : Txt K mg a) : FnOk P w K mg base CX0 1 a.f_law_hand a.d_law_hand ["_law_script"] (spHand K) := by
  refine T.F_law_hand.ok sc_law_hand (fun vs H Q E h => ?_) (fun cdv A outer s H vs Q E hr h => ?_)
  · obtain ⟨_, _, rfl, _⟩ := h
    rfl
  · obtain ⟨sc, ns, rfl, hS, hl, k⟩ := h
    refine ⟨_, (pss_cons (ps_set (i := 1) sc_law_hand.nd rfl (by first | exact Or.inl rfl | exact Or.inr rfl) (pe_op op_add (pe_callB call_len_seq (by rfl) T.z_len (by decide +kernel) (pa_cons (pv 0) pa_nil)) pe_int))
  (pss_cons (ps_set (i := 2) sc_law_hand.nd rfl (by first | exact Or.inl rfl | exact Or.inr rfl) (pe_lst pa_nil))
  (pss_cons (ps_for PassesOwn.never rfl (pi_list (pv 0)) (pg_name (i := 3) sc_law_hand.nd rfl (by first | exact Or.inl rfl | exact Or.inr rfl)) (pss_cons (ps_set (i := 1) sc_law_hand.nd rfl (by first | exact Or.inl rfl | exact Or.inr rfl) (pe_op op_mod (pe_callTy call_int1 (by rfl) T.z_int (by decide +kernel) (pa_cons (pe_op op_add (pe_op op_mul (pv 1) pe_int) (pe_callTy call_int1 (by rfl) T.z_int (by decide +kernel) (pa_cons (pv 3) pa_nil))) pa_nil)) pe_int))
  (pss_one (ps_expr (pe_bm PySem.F.plainAttrs_list PySem.F.slot_list_append PySem.F.type_list_append mt_append (pv 2) (pa_cons (pe_callB call_abs (by rfl) T.z_abs (by decide +kernel) (pa_cons (pe_callTy call_int1 (by rfl) T.z_int (by decide +kernel) (pa_cons (pv 3) pa_nil)) pa_nil)) pa_nil))))))
  (pss_one (ps_ret (pe_lst (pa_cons (pv 2) (pa_cons pe_int (pa_cons pe_int (pa_cons (pv 1) pa_nil)))))))))), ?_⟩
    walk_at "sm"
    refine ⟨_, .inl hS, by decide, fun l hl0 => ?_⟩
    have nls : ∀ {b o}, H b = some o → b ≠ l := fun hb => ne_of_none hb hl0
    refine ⟨_, rfl, sc, rfl, ⟨_, Evl.ex_l (Evl.Ex.new hl0) hS⟩, for_list (K := K) (a := sc) (xs := ns.map V.int) (ivHand H sc l ns) ⟨_, [], none, rfl, upd_same, rfl, Nat.zero_le _, (by intro x hx; cases hx), ?_, ?_, Evl.Ex.new hl0⟩ (fun i σ H' _ ⟨_, _, _, _, _, _, _, _, _, _, e⟩ => Evl.ex_l e hS) ?_ ?_⟩
    · rw [List.length_map]; omega
    · rw [List.length_map]; omega
    · rintro i y σ H' hi ⟨t, cells, v, rfl, h1, h2, h3, h4, h5, h6, h7⟩
      obtain ⟨z, hz, rfl⟩ := int_at hi
      have hi' := (List.getElem?_eq_some_iff.mp hz).1
      walk_at "sm"
      refine ⟨.inl ⟨by omega, by omega⟩, by decide, .inl ⟨rfl, _, SqL.of h1⟩, l, _, _, rfl, rfl, h1, ?_, ?_⟩
      · rw [List.length_map]; exact Nat.lt_of_lt_of_le (by omega : cells.length < 100) (by decide)
      · refine ⟨_, cells ++ [if z < 0 then -z else z], _, rfl, by rw [upd_same, List.map_append]; rfl, by rw [List.length_append, h2]; rfl, by omega, ?_, Int.emod_nonneg _ (by decide), ?_, Evl.Ex.mut h7 hl0⟩
        · intro x hx
          rcases List.mem_append.mp hx with hx | hx
          · exact h4 x hx
          · rw [List.mem_singleton] at hx
            subst hx
            split <;> omega
        · have := Int.emod_lt_of_pos (t * 2017 + z) (show (0 : Int) < 2147483543 by decide)
          omega
    · rintro σ H' ⟨t, cells, v, rfl, h1, h2, h3, h4, h5, h6, h7⟩
      walk_at "sm"
      refine ⟨by decide, fun p hp => ?_⟩
      refine k p l _ (Evl.fresh_back h7 hp) (h7.trans (Evl.Ex.new hp)) ⟨cells, 0, 0, t, upd_same, by rw [upd_ne (ne_of_none h1 hp)]; exact h1, ?_, h4, by decide, by decide, by decide, h5, h6⟩
      rw [h2, List.length_map]; exact hl
def spMixed : Sp := fun vs H Q _ => ∃ (n t : Int), vs = [.int n, .int t] ∧ 0 ≤ n ∧ n < 2147483600 ∧ 0 ≤ t ∧ t ≤ 64 ∧ ∀ r, 0 ≤ r → Q (.int r) H
theorem ok_law_mixed (T : Txt K mg a) : FnOk P w K mg base CX0 1 a.f_law_mixed a.d_law_mixed ["_law_number", "_law_turn"] spMixed := by
  refine T.F_law_mixed.ok sc_law_mixed (fun vs H Q E h => ?_) (fun cdv A outer s H vs Q E hr h => ?_)
  · obtain ⟨_, _, rfl, _⟩ := h
    rfl
  · obtain ⟨n, t, rfl, h1, h2, h3, h4, k⟩ := h
    refine ⟨_, (pss_cons (ps_set (i := 2) sc_law_mixed.nd rfl (by first | exact Or.inl rfl | exact Or.inr rfl) (pe_op op_mod (pe_callTy call_int1 (by rfl) T.z_int (by decide +kernel) (pa_cons (pe_op op_add (pe_op op_add (pe_op op_mul (pv 0) pe_int) (pe_op op_mul (pv 1) pe_int)) pe_int) pa_nil)) pe_int))
  (pss_cons (ps_set (i := 3) sc_law_mixed.nd rfl (by first | exact Or.inl rfl | exact Or.inr rfl) (pe_op op_mod (pe_callTy call_int1 (by rfl) T.z_int (by decide +kernel) (pa_cons (pe_op op_add (pe_op op_add (pe_op op_mul (pv 2) (pv 2)) (pe_op op_mul (pv 1) pe_int)) (pe_op op_fdiv (pv 2) pe_int)) pa_nil)) pe_int))
  (pss_one (ps_ret (pe_op op_fdiv (pe_callTy call_int1 (by rfl) T.z_int (by decide +kernel) (pa_cons (pe_op op_mod (pe_callTy call_int1 (by rfl) T.z_int (by decide +kernel) (pa_cons (pe_op op_add (pe_op op_mul (pv 3) pe_int) (pe_op op_fdiv (pv 2) pe_int)) pa_nil)) pe_int) pa_nil)) pe_int))))), ?_⟩
    walk_at "sm"
    have e1 := Int.emod_nonneg (n * 40014 + t * 7331 + 60013) (show (2147483399 : Int) ≠ 0 by decide)
    have e2 := Int.emod_lt_of_pos (n * 40014 + t * 7331 + 60013) (show (0 : Int) < 2147483399 by decide)
    refine ⟨.inl ⟨by omega, by omega⟩, .inl ⟨by omega, by omega⟩, by decide, .inl ⟨by omega, by omega⟩, .inl ⟨by omega, by omega⟩, ⟨by decide, by decide⟩, by decide, .inr ⟨by decide, by decide⟩, ⟨by decide, by decide⟩, by decide, ⟨by decide, by decide⟩, k _ ?_⟩
    exact Int.ediv_nonneg (Int.emod_nonneg _ (by decide)) (by decide)
def spTake : Sp := fun vs H Q _ => ∃ (p c : Addr) (m : Int), vs = [.ref p, .int m] ∧ HandAt H p c ∧ 0 < m ∧ m < 1073741824 ∧
  ∀ r H', 0 ≤ r → r < m → Fr p H H' → HandAt H' p c → Q (.int r) H'
def midTake (H : Hp) (p c : Addr) (m : Int) : L2.St → Hp → Prop := fun σ' H' => ∃ v, σ' = [some (.ref p), some (.int m), v, none] ∧ Fr p H H' ∧ HandAt H' p c
theorem ok_law_take (T : Txt K mg a) : FnOk P w K mg base CX0 2 a.f_law_take a.d_law_take ["_law_hand_here", "_law_many"] spTake := by
  refine T.F_law_take.ok sc_law_take (fun vs H Q E h => ?_) (fun cdv A outer s H vs Q E hr h => ?_)
  · obtain ⟨_, _, _, rfl, _⟩ := h
    rfl
  · obtain ⟨p, c, m, rfl, ⟨cells, i, g, t, hp, hc, hl, hx, hi0, hi1, hg, ht0, ht1⟩, hm0, hm1, k⟩ := h
    refine ⟨_, (Evl.pss_cut (ps_if (PW.pt (pw_and (pt_cmpR op_eq (pe_ix ix_list (pv 0) pe_int (fun _ _ => rfl)) pe_int (nomark _)) (pw_and1 (pt_cmpR op_lt (pe_ix ix_list (pv 0) pe_int (fun _ _ => rfl)) (pe_callB call_len_seq (by rfl) T.z_len (by decide +kernel) (pa_cons (pe_ix ix_list (pv 0) pe_int (fun _ _ => rfl)) pa_nil)) (nomark _))))) (pss_cons (ps_set (i := 2) sc_law_take.nd rfl (by first | exact Or.inl rfl | exact Or.inr rfl) (pe_ix ix_list (pe_ix ix_list (pv 0) pe_int (fun _ _ => rfl)) (pe_ix ix_list (pv 0) pe_int (fun _ _ => rfl)) (fun _ _ => rfl)))
  (pss_cons (ps_asg (pe_op op_add (pe_ix ix_list (pv 0) pe_int (fun _ _ => rfl)) pe_int) (pg_sub (pv 0) pe_int set_list (by intro _; rfl)))
  (pss_cons (ps_if (pt_cmpR op_lt (pv 2) (pe_op op_pow pe_int pe_int) (nomark _)) (pss_one (ps_ret (pe_op op_mod (pe_callTy call_int1 (by rfl) T.z_int (by decide +kernel) (pa_cons (pe_call (ok_law_mixed T) (hr.mono (by decide)) rfl T.m_law_mixed T.F_law_mixed.kp T.b_law_mixed .nil pass0 (pa_cons (pe_op op_mod (pe_callTy call_int1 (by rfl) T.z_int (by decide +kernel) (pa_cons (pv 2) pa_nil)) pe_int) (pa_cons (pe_ix ix_list (pv 0) pe_int (fun _ _ => rfl)) pa_nil))) pa_nil)) (pv 1))))
    pss_nil)
  (pss_one (ps_asg (pv 2) (pg_sub (pv 0) pe_int set_list (by intro _; rfl)))))))
    pss_nil)
  (pss_cons (ps_if (pt_cmpR op_gt (pe_ix ix_list (pv 0) pe_int (fun _ _ => rfl)) pe_int (nomark _)) (pss_cons (ps_set (i := 3) sc_law_take.nd rfl (by first | exact Or.inl rfl | exact Or.inr rfl) (pe_ix ix_list (pv 0) pe_int (fun _ _ => rfl)))
  (pss_cons (ps_asg (pe_op op_fdiv (pe_callTy call_int1 (by rfl) T.z_int (by decide +kernel) (pa_cons (pv 3) pa_nil)) (pv 1)) (pg_sub (pv 0) pe_int set_list (by intro _; rfl)))
  (pss_one (ps_ret (pe_op op_mod (pe_callTy call_int1 (by rfl) T.z_int (by decide +kernel) (pa_cons (pv 3) pa_nil)) (pv 1))))))
    pss_nil)
  (pss_cons (ps_asg (pe_op op_mod (pe_callTy call_int1 (by rfl) T.z_int (by decide +kernel) (pa_cons (pe_op op_add (pe_ix ix_list (pv 0) pe_int (fun _ _ => rfl)) pe_int) pa_nil)) pe_int) (pg_sub (pv 0) pe_int set_list (by intro _; rfl)))
  (pss_one (ps_ret (pe_op op_mod (pe_callTy call_int1 (by rfl) T.z_int (by decide +kernel) (pa_cons (pe_call (ok_law_mixed T) (hr.mono (by decide)) rfl T.m_law_mixed T.F_law_mixed.kp T.b_law_mixed .nil pass0 (pa_cons (pe_ix ix_list (pv 0) pe_int (fun _ _ => rfl)) (pa_cons (pe_ix ix_list (pv 0) pe_int (fun _ _ => rfl)) pa_nil))) pa_nil)) (pv 1))))))), ?_⟩
    walk_at "sm"
    have ncp : c ≠ p := ne_of hc hp (by intro q; injection q with q; cases cells with
      | nil => cases q
      | cons x r => injection q with q _; cases q)
    refine ⟨midTake H p c m, ?_, ?_⟩
    · walk_at "sm"
      have sK : SqL K H p [.ref c, .int i, .int g, .int t] := SqL.of hp
      refine ixl sK rfl ?_
      walk_at "sm"
      refine ite2 (fun cg => ?_) (fun cg => ⟨_, rfl, Fr.refl H, cells, i, g, t, hp, hc, hl, hx, hi0, hi1, hg, ht0, ht1⟩)
      refine ixl sK rfl (ixl sK rfl ?_)
      walk_at "sm"
      refine ⟨_, .inl (SqL.of hc), ?_⟩
      walk_at "sm"
      refine ite2 (fun ci => ?_) (fun ci => ⟨_, rfl, Fr.refl H, cells, i, g, t, hp, hc, hl, hx, hi0, hi1, hg, ht0, ht1⟩)
      rw [List.length_map] at ci
      obtain ⟨z, hz, ez⟩ := atI_int hi0 ci
      have hz0 := hx z hz
      refine ixl sK rfl (ixl sK rfl (ixl (SqL.of hc) ez (ixl sK rfl ?_)))
      walk_at "sm"
      refine setl hp rfl ?_
      have hp1 : (upd H p (.lst [.ref c, .int (i + 1), .int g, .int t])) p = some (.lst [.ref c, .int (i + 1), .int g, .int t]) := upd_same
      have hc1 : (upd H p (.lst [.ref c, .int (i + 1), .int g, .int t])) c = some (.lst (cells.map V.int)) := by rw [upd_ne ncp]; exact hc
      refine ⟨⟨by decide, by decide, by decide⟩, ite2 (fun cz => ?_) (fun cz => ?_)⟩
      · refine ⟨by decide, ixl (SqL.of hp1) rfl ⟨_, _, rfl, Int.emod_nonneg _ (by decide), ?_, by omega, by omega, fun r hr0 => ?_⟩⟩
        · have := Int.emod_lt_of_pos z (show (0 : Int) < 2147483399 by decide)
          omega
        · walk_at "sm"
          exact ⟨hm0, k _ _ (Int.emod_nonneg _ (by omega)) (Int.emod_lt_of_pos _ hm0) Fr.upd ⟨cells, i + 1, g, t, hp1, hc1, hl, hx, by omega, by omega, hg, ht0, ht1⟩⟩
      · refine setl hp1 rfl ⟨_, rfl, Fr.upd.trans Fr.upd, cells, i + 1, z, t, upd_same, by rw [upd_ne ncp]; exact hc1, hl, hx, by omega, by omega, hz0, ht0, ht1⟩
    · rintro σ' H' ⟨v, rfl, f, cells', i', g', t', hp', hc, hl', hx', hi0', hi1', hg', ht0', ht1'⟩
      have ncp' : c ≠ p := ne_of hc hp' (by intro q; injection q with q; cases cells' with
        | nil => cases q
        | cons x r => injection q with q _; cases q)
      walk_at "sm"
      have sK : SqL K H' p [.ref c, .int i', .int g', .int t'] := SqL.of hp'
      refine ixl sK rfl ?_
      walk_at "sm"
      refine ite2 (fun cg => ?_) (fun cg => ?_)
      · refine ixl sK rfl ?_
        walk_at "sm"
        refine ⟨⟨hm0, hm1⟩, setl hp' rfl ⟨hm0, k _ _ (Int.emod_nonneg _ (by omega)) (Int.emod_lt_of_pos _ hm0) (f.trans Fr.upd) ⟨cells', i', g' / m, t', upd_same, by rw [upd_ne ncp']; exact hc, hl', hx', hi0', hi1', Int.ediv_nonneg hg' (by omega), ht0', ht1'⟩⟩⟩
      · refine ixl sK rfl ?_
        walk_at "sm"
        have e0 := Int.emod_nonneg (t' + 1) (show (2147483549 : Int) ≠ 0 by decide)
        have e1 := Int.emod_lt_of_pos (t' + 1) (show (0 : Int) < 2147483549 by decide)
        refine ⟨by decide, setl hp' rfl ?_⟩
        have hp1 : (upd H' p (.lst [.ref c, .int i', .int g', .int ((t' + 1) % 2147483549)])) p = some (.lst [.ref c, .int i', .int g', .int ((t' + 1) % 2147483549)]) := upd_same
        refine ixl (SqL.of hp1) rfl (ixl (SqL.of hp1) rfl ⟨_, _, rfl, e0, by omega, by omega, by omega, fun r hr0 => ?_⟩)
        walk_at "sm"
        exact ⟨hm0, k _ _ (Int.emod_nonneg _ (by omega)) (Int.emod_lt_of_pos _ hm0) (f.trans Fr.upd) ⟨cells', i', g', (t' + 1) % 2147483549, hp1, by rw [upd_ne ncp']; exact hc, hl', hx', hi0', hi1', hg', e0, e1⟩⟩
end
/-! ### chains: the numbers of moves, the standings -/
def Mv (n : Nat) : Nat := if h : n ≤ 1 then 1 else 2 * Mv (n / 2) + Mv (n - n / 2)
termination_by n
theorem Mv1 {n : Nat} (h : n ≤ 1) : Mv n = 1 := by rw [Mv, dif_pos h]
theorem Mv2 {n : Nat} (h : 2 ≤ n) : Mv n = 2 * Mv (n / 2) + Mv (n - n / 2) := by rw [Mv, dif_neg (by omega)]
theorem Mv_pos (n : Nat) : 1 ≤ Mv n := by
  induction n using Nat.strongRecOn with
  | _ n ih =>
    by_cases h : n ≤ 1
    · rw [Mv1 h]; exact Nat.le_refl 1
    · rw [Mv2 (by omega)]
      have := ih (n / 2) (by omega)
      omega
def St (f n k : Nat) : List Nat := if h : n ≤ 1 then (if k = 1 then [f] else []) else
  if k ≤ Mv (n / 2) then St f (n / 2) k else if k - Mv (n / 2) ≤ Mv (n - n / 2) then (f + n / 2 - 1) :: St (f + n / 2) (n - n / 2) (k - Mv (n / 2)) else St f (n / 2) (Mv (n / 2) - (k - Mv (n / 2) - Mv (n - n / 2))) ++ [f + n - 1]
termination_by n
theorem St1 {f n k : Nat} (h : n ≤ 1) : St f n k = if k = 1 then [f] else [] := by rw [St, dif_pos h]
section
variable {f n k : Nat}
theorem St_lo (h : 2 ≤ n) (h1 : k ≤ Mv (n / 2)) : St f n k = St f (n / 2) k := by rw [St, dif_neg (by omega), if_pos h1]
theorem St_mi (h : 2 ≤ n) (h1 : Mv (n / 2) < k) (h2 : k - Mv (n / 2) ≤ Mv (n - n / 2)) : St f n k = (f + n / 2 - 1) :: St (f + n / 2) (n - n / 2) (k - Mv (n / 2)) := by rw [St, dif_neg (by omega), if_neg (by omega), if_pos h2]
theorem St_hi (h : 2 ≤ n) (h1 : Mv (n / 2) < k) (h2 : Mv (n - n / 2) < k - Mv (n / 2)) : St f n k = St f (n / 2) (Mv (n / 2) - (k - Mv (n / 2) - Mv (n - n / 2))) ++ [f + n - 1] := by rw [St, dif_neg (by omega), if_neg (by omega), if_neg (by omega)]
end
theorem St_zero (n : Nat) : ∀ f, St f n 0 = [] := by
  induction n using Nat.strongRecOn with
  | _ n ih =>
    intro f
    by_cases h : n ≤ 1
    · rw [St1 h]; rfl
    · rw [St_lo (by omega) (Nat.zero_le _)]
      exact ih _ (by omega) f
theorem St_full (n : Nat) : ∀ f, 1 ≤ n → St f n (Mv n) = [f + n - 1] := by
  intro f h1
  by_cases h : n ≤ 1
  · rw [St1 h, Mv1 h, if_pos rfl, show n = 1 by omega]
    rfl
  · have a := Mv_pos (n / 2)
    have b := Mv2 (show 2 ≤ n by omega)
    rw [St_hi (by omega) (by omega) (by omega)]
    have : Mv (n / 2) - (Mv n - Mv (n / 2) - Mv (n - n / 2)) = 0 := by omega
    rw [this, St_zero]
    rfl
theorem St_mem (n : Nat) : ∀ f k x, 1 ≤ n → x ∈ St f n k → f ≤ x ∧ x < f + n := by
  induction n using Nat.strongRecOn with
  | _ n ih =>
    intro f k x h1 hx
    by_cases h : n ≤ 1
    · rw [St1 h] at hx
      split at hx
      · rw [List.mem_singleton] at hx; omega
      · cases hx
    · by_cases c1 : k ≤ Mv (n / 2)
      · rw [St_lo (by omega) c1] at hx
        have := ih (n / 2) (by omega) f k x (by omega) hx
        omega
      · by_cases c2 : k - Mv (n / 2) ≤ Mv (n - n / 2)
        · rw [St_mi (by omega) (by omega) c2] at hx
          rcases List.mem_cons.mp hx with rfl | hx
          · omega
          · have := ih (n - n / 2) (by omega) _ _ x (by omega) hx
            omega
        · rw [St_hi (by omega) (by omega) (by omega)] at hx
          rcases List.mem_append.mp hx with hx | hx
          · have := ih (n / 2) (by omega) _ _ x (by omega) hx
            omega
          · rw [List.mem_singleton] at hx; omega
theorem St_sorted (n : Nat) : ∀ f k, 1 ≤ n → (St f n k).Pairwise (· < ·) := by
  induction n using Nat.strongRecOn with
  | _ n ih =>
    intro f k h1
    by_cases h : n ≤ 1
    · rw [St1 h]
      split
      · exact List.pairwise_singleton _ _
      · exact .nil
    · by_cases c1 : k ≤ Mv (n / 2)
      · rw [St_lo (by omega) c1]
        exact ih (n / 2) (by omega) f k (by omega)
      · by_cases c2 : k - Mv (n / 2) ≤ Mv (n - n / 2)
        · rw [St_mi (by omega) (by omega) c2]
          refine .cons (fun x hx => ?_) (ih _ (by omega) _ _ (by omega))
          have := St_mem _ _ _ x (by omega) hx
          omega
        · rw [St_hi (by omega) (by omega) (by omega)]
          refine List.pairwise_append.mpr ⟨ih _ (by omega) _ _ (by omega), List.pairwise_singleton _ _, fun x hx y hy => ?_⟩
          have := St_mem _ _ _ x (by omega) hx
          rw [List.mem_singleton] at hy
          omega
/-- the number of a standing -/
def Nm (f n : Nat) (l : List Nat) : Option Nat := if h : n ≤ 1 then some l.length else
  if l.filter (fun x => decide (f + n / 2 ≤ x)) = [] then Nm f (n / 2) (l.filter fun x => decide (x < f + n / 2))
  else if l.filter (fun x => decide (x < f + n / 2)) = [f + n / 2 - 1] then (Nm (f + n / 2) (n - n / 2) (l.filter fun x => decide (f + n / 2 ≤ x))).map fun v => Mv (n / 2) + v
  else if l.filter (fun x => decide (f + n / 2 ≤ x)) = [f + n - 1] then (Nm f (n / 2) (l.filter fun x => decide (x < f + n / 2))).map fun v => 2 * Mv (n / 2) + Mv (n - n / 2) - v else none
termination_by n
theorem filt_all {p : Nat → Bool} {l : List Nat} (h : ∀ x ∈ l, p x = true) : l.filter p = l := List.filter_eq_self.mpr h
theorem filt_no {p : Nat → Bool} {l : List Nat} (h : ∀ x ∈ l, p x = false) : l.filter p = [] := List.filter_eq_nil_iff.mpr fun x hx => by rw [h x hx]; decide
theorem Nm_St (n : Nat) : ∀ f k, 1 ≤ n → k ≤ Mv n → Nm f n (St f n k) = some k := by
  induction n using Nat.strongRecOn with
  | _ n ih =>
    intro f k h1 hk
    by_cases h : n ≤ 1
    · rw [Nm, dif_pos h, St1 h]
      rw [Mv1 h] at hk
      rcases (show k = 0 ∨ k = 1 by omega) with rfl | rfl <;> rfl
    · have e2 := Mv2 (show 2 ≤ n by omega)
      have hp := Mv_pos (n / 2)
      have hp2 := Mv_pos (n - n / 2)
      have lowA : ∀ b, ∀ x ∈ St f (n / 2) b, x < f + n / 2 := fun b x hx => (St_mem _ _ _ x (by omega) hx).2
      rw [Nm, dif_neg h]
      by_cases c1 : k ≤ Mv (n / 2)
      · rw [St_lo (by omega) c1, if_pos (filt_no fun x hx => decide_eq_false (by have := lowA k x hx; omega)), filt_all fun x hx => decide_eq_true (lowA k x hx)]
        exact ih _ (by omega) f k (by omega) c1
      · by_cases c2 : k - Mv (n / 2) ≤ Mv (n - n / 2)
        · rw [St_mi (by omega) (by omega) c2]
          have up : ∀ x ∈ St (f + n / 2) (n - n / 2) (k - Mv (n / 2)), f + n / 2 ≤ x := fun x hx => (St_mem _ _ _ x (by omega) hx).1
          have r := ih (n - n / 2) (by omega) (f + n / 2) (k - Mv (n / 2)) (by omega) c2
          have u1 : ((f + n / 2 - 1) :: St (f + n / 2) (n - n / 2) (k - Mv (n / 2))).filter (fun x => decide (f + n / 2 ≤ x)) = St (f + n / 2) (n - n / 2) (k - Mv (n / 2)) := by
            rw [List.filter_cons, if_neg (by simp; omega)]
            exact filt_all fun x hx => decide_eq_true (up x hx)
          have u2 : ((f + n / 2 - 1) :: St (f + n / 2) (n - n / 2) (k - Mv (n / 2))).filter (fun x => decide (x < f + n / 2)) = [f + n / 2 - 1] := by
            rw [List.filter_cons, if_pos (by simp; omega), filt_no fun x hx => decide_eq_false (by have := up x hx; omega)]
          rw [u1, u2, if_neg, if_pos rfl, r]
          · show some (Mv (n / 2) + (k - Mv (n / 2))) = some k
            congr 1; omega
          · intro q
            rw [q] at r
            have z := ih (n - n / 2) (by omega) (f + n / 2) 0 (by omega) (Nat.zero_le _)
            rw [St_zero] at z
            rw [z] at r
            have := Option.some.inj r
            omega
        · rw [St_hi (by omega) (by omega) (by omega)]
          generalize hb : Mv (n / 2) - (k - Mv (n / 2) - Mv (n - n / 2)) = b
          have r := ih (n / 2) (by omega) f b (by omega) (by omega)
          have u1 : (St f (n / 2) b ++ [f + n - 1]).filter (fun x => decide (f + n / 2 ≤ x)) = [f + n - 1] := by
            rw [List.filter_append, filt_no fun x hx => decide_eq_false (by have := lowA b x hx; omega), List.nil_append]
            exact filt_all fun x hx => decide_eq_true (by rw [List.mem_singleton] at hx; omega)
          have u2 : (St f (n / 2) b ++ [f + n - 1]).filter (fun x => decide (x < f + n / 2)) = St f (n / 2) b := by
            rw [List.filter_append, filt_all fun x hx => decide_eq_true (lowA b x hx), filt_no (l := [f + n - 1]) fun x hx => decide_eq_false (by rw [List.mem_singleton] at hx; omega), List.append_nil]
          rw [u1, u2, if_neg (List.cons_ne_nil _ _), if_neg, if_pos rfl, r]
          · show some (2 * Mv (n / 2) + Mv (n - n / 2) - b) = some k
            congr 1; omega
          · intro q
            rw [q] at r
            have z := ih (n / 2) (by omega) f (Mv (n / 2)) (by omega) (Nat.le_refl _)
            rw [St_full _ _ (by omega)] at z
            rw [z] at r
            have := Option.some.inj r
            omega
/-- the place that the move after k moves fills or empties -/
def Pm (f n k : Nat) : Nat := if h : n ≤ 1 then f else
  if Mv (n / 2) ≤ k ∧ k < Mv (n / 2) + Mv (n - n / 2) then Pm (f + n / 2) (n - n / 2) (k - Mv (n / 2)) else if k < Mv (n / 2) then Pm f (n / 2) k else Pm f (n / 2) (2 * Mv (n / 2) + Mv (n - n / 2) - 1 - k)
termination_by n
/-- B is A with p put in, or taken out -/
def Tg (A B : List Nat) (p : Nat) : Prop := B.filter (fun x => !A.contains x) ++ A.filter (fun x => !B.contains x) = [p]
theorem Tg.sym {A B : List Nat} {p : Nat} (h : Tg A B p) : Tg B A p := by
  unfold Tg at h ⊢
  generalize B.filter (fun x => !A.contains x) = X at *
  generalize A.filter (fun x => !B.contains x) = Y at *
  match X, Y, h with
  | [], [_], h => exact h
  | [_], [], h => exact h
  | [], [], h => cases h
  | _ :: _ :: _, _, h => cases h
  | [_], _ :: _, h => cases h
  | [], _ :: _ :: _, h => cases h
theorem Tg.iff {A B : List Nat} {p x : Nat} (h : Tg A B p) (n : x ≠ p) : x ∈ A ↔ x ∈ B := by
  unfold Tg at h
  constructor
  · intro hx
    by_cases hb : x ∈ B
    · exact hb
    · have : x ∈ B.filter (fun x => !A.contains x) ++ A.filter (fun x => !B.contains x) := List.mem_append.mpr (.inr (List.mem_filter.mpr ⟨hx, by simpa using hb⟩))
      rw [h, List.mem_singleton] at this
      exact absurd this n
  · intro hx
    by_cases hb : x ∈ A
    · exact hb
    · have : x ∈ B.filter (fun x => !A.contains x) ++ A.filter (fun x => !B.contains x) := List.mem_append.mpr (.inl (List.mem_filter.mpr ⟨hx, by simpa using hb⟩))
      rw [h, List.mem_singleton] at this
      exact absurd this n
theorem Tg.cons {A B : List Nat} {p y : Nat} (h : Tg A B p) (hA : y ∉ A) (hB : y ∉ B) : Tg (y :: A) (y :: B) p := by
  unfold Tg at h ⊢
  have key : ∀ {C D : List Nat}, y ∉ C → (y :: C).filter (fun x => !(y :: D).contains x) = C.filter (fun x => !D.contains x) := by
    intro C D hC
    rw [List.filter_cons, if_neg (by simp)]
    refine List.filter_congr fun x hx => ?_
    have : x ≠ y := fun q => hC (q ▸ hx)
    simp [this]
  rw [key hB, key hA]
  exact h
theorem Tg.snoc {A B : List Nat} {p y : Nat} (h : Tg A B p) (hA : y ∉ A) (hB : y ∉ B) : Tg (A ++ [y]) (B ++ [y]) p := by
  unfold Tg at h ⊢
  have key : ∀ {C D : List Nat}, y ∉ C → (C ++ [y]).filter (fun x => !(D ++ [y]).contains x) = C.filter (fun x => !D.contains x) := by
    intro C D hC
    rw [List.filter_append, show [y].filter (fun x => !(D ++ [y]).contains x) = [] by simp, List.append_nil]
    refine List.filter_congr fun x hx => ?_
    have : x ≠ y := fun q => hC (q ▸ hx)
    simp [this]
  rw [key hB, key hA]
  exact h
theorem Pm_ok (n : Nat) : ∀ f k, 1 ≤ n → k < Mv n → Tg (St f n k) (St f n (k + 1)) (Pm f n k) ∧ f ≤ Pm f n k ∧ Pm f n k < f + n ∧ (Pm f n k = f ∨ Pm f n k - 1 ∈ St f n k) := by
  induction n using Nat.strongRecOn with
  | _ n ih =>
    intro f k h1 hk
    by_cases h : n ≤ 1
    · rw [Mv1 h] at hk
      have : k = 0 := by omega
      subst this
      rw [Pm, dif_pos h, St1 h, St1 h]
      exact ⟨rfl, by omega, by omega, .inl rfl⟩
    · have e2 := Mv2 (show 2 ≤ n by omega)
      have hp := Mv_pos (n / 2)
      have hp2 := Mv_pos (n - n / 2)
      rw [Pm, dif_neg h]
      by_cases c0 : k < Mv (n / 2)
      · rw [if_neg (by omega), if_pos c0, St_lo (f := f) (n := n) (k := k) (by omega) (by omega), St_lo (f := f) (n := n) (k := k + 1) (by omega) (by omega)]
        obtain ⟨a, b, c, d⟩ := ih (n / 2) (by omega) f k (by omega) c0
        exact ⟨a, b, by omega, d⟩
      · by_cases c1 : k < Mv (n / 2) + Mv (n - n / 2)
        · rw [if_pos ⟨by omega, c1⟩]
          obtain ⟨a, b, c, d⟩ := ih (n - n / 2) (by omega) (f + n / 2) (k - Mv (n / 2)) (by omega) (by omega)
          have up : ∀ b, f + n / 2 - 1 ∉ St (f + n / 2) (n - n / 2) b := fun b q => by have := (St_mem _ _ _ _ (by omega) q).1; omega
          have eB : St f n (k + 1) = (f + n / 2 - 1) :: St (f + n / 2) (n - n / 2) (k - Mv (n / 2) + 1) := by
            rw [St_mi (by omega) (by omega) (by omega)]
            congr 2; omega
          have eA : St f n k = (f + n / 2 - 1) :: St (f + n / 2) (n - n / 2) (k - Mv (n / 2)) := by
            by_cases c2 : k = Mv (n / 2)
            · rw [St_lo (by omega) (by omega), c2, St_full _ _ (by omega), Nat.sub_self, St_zero]
            · rw [St_mi (by omega) (by omega) (by omega)]
          rw [eA, eB]
          refine ⟨a.cons (up _) (up _), by omega, by omega, .inr ?_⟩
          rcases d with d | d
          · rw [d]; exact List.mem_cons_self
          · exact List.mem_cons_of_mem _ d
        · rw [if_neg (by omega), if_neg c0]
          obtain ⟨a, b, c, d⟩ := ih (n / 2) (by omega) f (2 * Mv (n / 2) + Mv (n - n / 2) - 1 - k) (by omega) (by omega)
          generalize hb : 2 * Mv (n / 2) + Mv (n - n / 2) - 1 - k = j at *
          have lo : ∀ b, f + n - 1 ∉ St f (n / 2) b := fun b q => by have := (St_mem _ _ _ _ (by omega) q).2; omega
          have eB : St f n (k + 1) = St f (n / 2) j ++ [f + n - 1] := by
            rw [St_hi (by omega) (by omega) (by omega)]
            congr 2; omega
          have d2 : Pm f (n / 2) j = f ∨ Pm f (n / 2) j - 1 ∈ St f (n / 2) (j + 1) := by
            rcases d with d | d
            · exact .inl d
            · by_cases q : Pm f (n / 2) j = f
              · exact .inl q
              · exact .inr ((a.iff (by omega)).mp d)
          have eA : St f n k = St f (n / 2) (j + 1) ++ [f + n - 1] := by
            by_cases c2 : k = Mv (n / 2) + Mv (n - n / 2)
            · rw [St_mi (by omega) (by omega) (by omega), c2, Nat.add_sub_cancel_left, St_full _ _ (by omega)]
              have : j + 1 = Mv (n / 2) := by omega
              rw [this, St_full _ _ (by omega)]
              show [_, _] = [_, _]
              congr 2; omega
            · rw [St_hi (by omega) (by omega) (by omega)]
              congr 2; omega
          rw [eA, eB]
          refine ⟨a.sym.snoc (lo _) (lo _), by omega, by omega, ?_⟩
          rcases d2 with d2 | d2
          · exact .inl d2
          · exact .inr (List.mem_append.mpr (.inl d2))
/-- what halving n leads to -/
def Cl (n : Nat) : List Nat := (List.range 101).flatMap fun j => [n / 2 ^ j, n / 2 ^ j + 1]
def Closed (C : List Nat) : Prop := C.length ≤ 202 ∧ ∀ m ∈ C, 2 ≤ m → m / 2 ∈ C ∧ m - m / 2 ∈ C
theorem mem_Cl {n m : Nat} : m ∈ Cl n ↔ ∃ j, j < 101 ∧ (m = n / 2 ^ j ∨ m = n / 2 ^ j + 1) := by
  unfold Cl
  rw [List.mem_flatMap]
  constructor
  · rintro ⟨j, hj, hm⟩
    refine ⟨j, List.mem_range.mp hj, ?_⟩
    rcases List.mem_cons.mp hm with h | h
    · exact .inl h
    · exact .inr (List.mem_singleton.mp h)
  · rintro ⟨j, hj, rfl | rfl⟩
    · exact ⟨j, List.mem_range.mpr hj, List.mem_cons_self⟩
    · exact ⟨j, List.mem_range.mpr hj, List.mem_cons_of_mem _ (List.mem_singleton.mpr rfl)⟩
theorem Cl_self {n : Nat} : n ∈ Cl n := mem_Cl.mpr ⟨0, by decide, .inl (by rw [Nat.pow_zero, Nat.div_one])⟩
theorem Cl_closed {n : Nat} (h : n < 2 ^ 100) : Closed (Cl n) := by
  refine ⟨?_, fun m hm m2 => ?_⟩
  · unfold Cl
    rw [List.length_flatMap, show (fun j : Nat => [n / 2 ^ j, n / 2 ^ j + 1].length) = fun _ => 2 from rfl]
    decide
  · obtain ⟨j, hj, e⟩ := mem_Cl.mp hm
    have z : j ≠ 100 := by
      rintro rfl
      have : n / 2 ^ 100 = 0 := Nat.div_eq_of_lt h
      omega
    have s : n / 2 ^ (j + 1) = n / 2 ^ j / 2 := by rw [Nat.pow_succ, Nat.div_div_eq_div_mul]
    exact ⟨mem_Cl.mpr ⟨j + 1, by omega, by omega⟩, mem_Cl.mpr ⟨j + 1, by omega, by omega⟩⟩
theorem len_sub : ∀ {l C : List Nat}, l.Nodup → (∀ k ∈ l, k ∈ C) → l.length ≤ C.length
  | [], _, _, _ => Nat.zero_le _
  | x :: l, C, h, hs => by
    rw [List.nodup_cons] at h
    have e := List.length_erase_of_mem (hs x List.mem_cons_self)
    have p := List.length_pos_of_mem (hs x List.mem_cons_self)
    have := len_sub (C := C.erase x) h.2 fun k hk => (List.mem_erase_of_ne (fun q : k = x => h.1 (by rw [← q]; exact hk))).mpr (hs k (List.mem_cons_of_mem _ hk))
    rw [List.length_cons]
    omega

open SX (S)
local macro_rules | `(tactic| walk_at "sm") => `(tactic| try simp only [tLstRg, tRg1, tPar, tPar3, tDGet, tDNotIn, tDIn, tBits, tDNewK, tSeq, tAsg, tRet, tRetN, tDrop, tOp, tUn, tVar, tC, tCB, tCons, tNil, tLst, tTup, tTest, tB, tAnd, tOr, tNot, tAndV, tOrV, tNotV, tIf, tIfS, tNext, tCont, tBreak, tCall, tCallS, WE, tXf, rI0, rI, rU, gName, gNil, gCons, gTup, gSub, tAug, tBM, tBM0, tM1, rNewStrs, tLc_eq, iRng1, iRng2, iList, iTup, tYes, wipe, List.foldl_cons, List.foldl_nil, rEq, rNe, scal, rIxS, rSlS, tSl, tPart, tNoPart, tChain, ipI, str1, tMkO_eq, L2.start, List.map_cons, List.map_nil, List.append_nil, List.cons_append, List.nil_append, List.length_cons, List.length_nil, List.drop, List.replicate, List.getElem?_cons_zero, List.getElem?_cons_succ, List.set_cons_zero, List.set_cons_succ, Option.some.injEq, V.int.injEq, V.str.injEq, V.ref.injEq, V.bl.injEq, List.cons.injEq, reduceCtorEq, false_and, and_false, exists_false, or_false, false_or, exists_eq_left', exists_eq_left, and_assoc, cx_K, exists_and_left, exists_and_right, and_true, true_and, decide_eq_true_eq, if_true, if_false, Bool.false_eq_true])

theorem sz {n : Nat} (h : n ≤ 100000) : n ≤ sizeLine := Evl.sz_of h
theorem kw_flat (l : List Str) : (l.map V.str).all flatV = true := by
  induction l with
  | nil => rfl
  | cons s l ih => rw [List.map_cons, List.all_cons, ih]; rfl
theorem str_at_map {l : List Str} {i : Nat} {x : V} (h : (l.map V.str)[i]? = some x) : ∃ z, l[i]? = some z ∧ x = .str z := by
  rw [List.getElem?_map] at h
  cases e : l[i]? with
  | none => rw [e] at h; cases h
  | some z => rw [e] at h; exact ⟨z, rfl, (Option.some.inj h).symm⟩
theorem in_tup {K : PySem.W.Frag} {H : Hp} {p : Addr} {xs : List V} {x : V} {Q : VK} (h : SqT K H p xs) (fx : flatV x = true) (fxs : xs.all flatV = true) (q : Q (.bl (inV x xs)) H) : rIn K false x (.ref p) H Q := ⟨p, xs, rfl, .inr h, fx, fxs, q⟩
theorem ni_tup {K : PySem.W.Frag} {H : Hp} {p : Addr} {xs : List V} {x : V} {Q : VK} (h : SqT K H p xs) (fx : flatV x = true) (fxs : xs.all flatV = true) (q : Q (.bl (!inV x xs)) H) : rIn K true x (.ref p) H Q := ⟨p, xs, rfl, .inr h, fx, fxs, q⟩
theorem isi_ty {K : PySem.W.Frag} {H : Hp} {x : V} {t : String} {n : String} {b : Bool} {Q : VK} (ht : TyX K H x (.type t)) (hk : kitB t n = some b) (q : Q (.bl b) H) : rIsi K [x, .ty n] H Q := ⟨x, .ty n, .type t, .type n, b, rfl, .ty n, ht, kit_ty hk, q⟩
theorem Paired.snoc {α β : Type} {F : α → β → Prop} {x : α} {y : β} (r : F x y) : ∀ {l : List α} {m : List β}, Paired F l m → Paired F (l ++ [x]) (m ++ [y])
  | _, _, .nil => .cons r .nil
  | _, _, .cons q t => .cons q (Paired.snoc r t)
theorem HandAt.go {H H' : Hp} {p c : Addr} (e : Evl.Ex H H') (h : HandAt H p c) : HandAt H' p c := by
  obtain ⟨cells, i, g, t, hp, hc, r⟩ := h
  exact ⟨cells, i, g, t, e _ _ hp, e _ _ hc, r⟩
theorem HandAt.lt {H : Hp} {p c l : Addr} (h : HandAt H p c) (hl : H l = none) : l ≠ p := by
  obtain ⟨cells, i, g, t, hp, _⟩ := h
  exact Ne.symm (ne_of_none hp hl)
theorem HandAt.lc {H : Hp} {p c l : Addr} (h : HandAt H p c) (hl : H l = none) : l ≠ c := by
  obtain ⟨cells, i, g, t, hp, hc, _⟩ := h
  exact Ne.symm (ne_of_none hc hl)
theorem HandAt.upd {H : Hp} {p c l : Addr} {o : HO} (h : HandAt H p c) (n1 : l ≠ p) (n2 : l ≠ c) : HandAt (upd H l o) p c := by
  obtain ⟨cells, i, g, t, hp, hc, r⟩ := h
  exact ⟨cells, i, g, t, by rw [upd_ne (Ne.symm n1)]; exact hp, by rw [upd_ne (Ne.symm n2)]; exact hc, r⟩
theorem Fr.mut {p l : Addr} {H H' : Hp} {o : HO} (f : Fr p H H') (hl : H l = none) : Fr p H (L2.upd H' l o) := fun b u n h => by
  rw [upd_ne (ne_of_none h hl)]
  exact f b u n h
theorem Fr.lst {K : PySem.W.Frag} {H H' : Hp} {p l : Addr} {xs : List V} (f : Fr p H H') (n : l ≠ p) (h : H l = some (.lst xs)) : SqL K H' l xs := SqL.of (f _ _ n h)
theorem atI_str {l : List Str} {i : Int} (h0 : 0 ≤ i) (h1 : i < (l.length : Int)) : ∃ z, z ∈ l ∧ atI (l.map V.str) i = some (.str z) := by
  obtain ⟨k, rfl⟩ : ∃ k : Nat, i = (k : Int) := ⟨i.toNat, by omega⟩
  have hk : k < l.length := by omega
  exact ⟨l[k], List.getElem_mem hk, atI_nat (by rw [List.getElem?_map, List.getElem?_eq_getElem hk] <;> rfl)⟩
theorem tk {p c : Addr} {m : Int} {H : Hp} {Q : VK} {E : XK} (h : HandAt H p c) (h0 : 0 < m) (h1 : m < 1073741824) (k : ∀ (r : Int) (H' : Hp), 0 ≤ r → r < m → Fr p H H' → HandAt H' p c → Q (.int r) H') : spTake [.ref p, .int m] H Q E := ⟨p, c, m, rfl, h, h0, h1, k⟩
def dV : V → PyData
  | .bl b => .bool b
  | .int i => .int i
  | .str x => .str x
  | _ => .none
def okF : V → Bool
  | .non => true
  | .bl _ => true
  | .int _ => true
  | .str x => PyData.strOk x
  | _ => false
theorem dp_flat {K : PySem.W.Frag} {H : Hp} {v : V} (h : okF v = true) : Dp K H v (dV v) := by
  cases v with
  | non => exact .non
  | bl b => exact .bl b
  | int i => exact .int i
  | str x => exact .str x
  | byt b => cases h
  | flt b => cases h
  | ref b => cases h
  | ty b => cases h
theorem dp_flats {K : PySem.W.Frag} {H : Hp} : ∀ {vs : List V}, vs.all okF = true → DpAll K H vs (vs.map dV)
  | [], _ => .nil
  | v :: vs, h => by
    rw [List.all_cons, Bool.and_eq_true] at h
    exact .cons (dp_flat h.1) (dp_flats h.2)
theorem lay_flat {v : V} (h : okF v = true) : (dV v).canLay0 = true ∧ (dV v).depth ≤ 1 := by
  cases v with
  | non => exact ⟨rfl, by decide⟩
  | bl b => exact ⟨rfl, by show 0 ≤ 1; omega⟩
  | int i => exact ⟨rfl, by show 0 ≤ 1; omega⟩
  | str x => exact ⟨h, by show 0 ≤ 1; omega⟩
  | byt b => cases h
  | flt b => cases h
  | ref b => cases h
  | ty b => cases h
theorem lay_all {n : Nat} : ∀ {ds : List PyData}, (∀ d ∈ ds, d.canLay0 = true ∧ d.depth ≤ n) → PyData.canLayAll0 ds = true ∧ PyData.depthAll ds ≤ n
  | [], _ => ⟨rfl, Nat.zero_le _⟩
  | d :: ds, h => by
    have h1 := h d List.mem_cons_self
    have h2 := lay_all (ds := ds) fun x hx => h x (List.mem_cons_of_mem _ hx)
    refine ⟨?_, ?_⟩
    · show (d.canLay0 && PyData.canLayAll0 ds) = true
      rw [h1.1, h2.1]; rfl
    · show max d.depth (PyData.depthAll ds) ≤ n
      omega
theorem lay_tup {n : Nat} {ds : List PyData} (h : ∀ d ∈ ds, d.canLay0 = true ∧ d.depth ≤ n) : (PyData.tuple ds).canLay0 = true ∧ (PyData.tuple ds).depth ≤ n + 1 := by
  have q := lay_all h
  exact ⟨q.1, by show PyData.depthAll ds + 1 ≤ n + 1; omega⟩
theorem lay_lst {n : Nat} {ds : List PyData} (h : ∀ d ∈ ds, d.canLay0 = true ∧ d.depth ≤ n) : (PyData.list ds).canLay0 = true ∧ (PyData.list ds).depth ≤ n + 1 := by
  have q := lay_all h
  exact ⟨q.1, by show PyData.depthAll ds + 1 ≤ n + 1; omega⟩
theorem shaped_of {d : PyData} {n : Nat} (h : d.canLay0 = true ∧ d.depth ≤ n) (hn : n ≤ 64) : SeqAt.shaped d = true := by
  unfold SeqAt.shaped
  rw [h.1, decide_eq_true (Nat.le_trans h.2 hn)]
  rfl
theorem ne_same {K : PySem.W.Frag} {H : Hp} {x y : V} {d : PyData} {Q : VK} (hx : Dp K H x d) (hy : Dp K H y d) (hs : SeqAt.shaped d = true) (q : Q (.bl false) H) : rNeD K x y H Q :=
  ⟨d, d, hx, hy, hs, hs, by rw [SeqAt.eqv_refl d (SeqAt.canLay_of_shaped hs)]; exact q⟩
theorem eq_same {K : PySem.W.Frag} {H : Hp} {x y : V} {d : PyData} {Q : VK} (hx : Dp K H x d) (hy : Dp K H y d) (hs : SeqAt.shaped d = true) (q : Q (.bl true) H) : rEqD K x y H Q :=
  ⟨d, d, hx, hy, hs, hs, by rw [SeqAt.eqv_refl d (SeqAt.canLay_of_shaped hs)]; exact q⟩
theorem op_eqD_s {X : Cx} {a : Addr} {pins : List (Addr × Obj)} (hu : (X.suite a pins).A.units + 64 < cLine) : OpR (X.suite a pins) (compareOp .Eq) (rEqD X.K) := op_eqD hu
theorem op_neD_s {X : Cx} {a : Addr} {pins : List (Addr × Obj)} (hu : (X.suite a pins).A.units + 64 < cLine) : OpR (X.suite a pins) (compareOp .NotEq) (rNeD X.K) := op_neD hu
theorem ix_list_b {X : Cx} {s : Shared} {H : Hp} {scope : Scope} {env : Env} {fp : List Addr} : IxR (X.blk s H scope env fp) (rIxL X.K) := ix_list
theorem ix_tup_b {X : Cx} {s : Shared} {H : Hp} {scope : Scope} {env : Env} {fp : List Addr} : IxR (X.blk s H scope env fp) (rIxT X.K) := ix_tup
theorem ixt {K : PySem.W.Frag} {H : Hp} {p : Addr} {xs : List V} {i : Int} {v : V} {Q : VK} (h : H p = some (.tup xs)) (e : atI xs i = some v) (q : Q v H) : rIxT K (.ref p) (.int i) H Q := ⟨p, xs, i, v, rfl, rfl, SqT.of h, e, q⟩
theorem was_true {K : PySem.W.Frag} {C : Addr} {i : Nat} {ts : Addr → Value → Option Addr → TS} {Wout : WX} {D : Ends} {d : Option Addr} {σ : L2.St} {H : Hp} (he : PySem.W.exmOne K (.ref C) (.ref C) = some true)
    (h : ∀ a, H a = none → ts a (.ref C) d { nx := fun σ' H' => D.nx (σ'.set i none) H', rt := D.rt, bk := fun σ' H' => D.bk (σ'.set i none) H', ct := fun σ' H' => D.ct (σ'.set i none) H' } (σ.set i (some (.ref a))) H) :
    wAs K (.ref C) i ts Wout D (.ref C) d σ H := ⟨true, he, fun _ => h, fun q => nomatch q⟩
/-! ### an own error made without arguments -/
theorem pmk_own0 {X : Cx} {C : Addr} {bmB : List Value} {B newId initId : String} {x : Str} {p pos : Pos} (F : ExcBaseFacts B newId initId bmB) (q : PySem.W.excIn X.K C bmB newId = true) (gC : X.mg x = some (.ref C)) (kC : PySem.W.keepIn X.K (.ref C) = true) (r : Raises X (.ref C)) (hg : Gl X x)
    (hdb : (x == ("__debug__" : Str)) = false := by decide) : PMk X (.Call (.Name x p) [] [] pos) (fun _ H Q => Q (.ref C) none H) := by
  intro pins s σ H Q I h
  refine wpAny_Call_Name_kw (ld_glob I hg gC ?_ hdb)
  refine PySem.W.callWith_K0 I.kIn kC ?_
  show wpAny _ _ (call (.ref C) []) _ _ _
  obtain ⟨bm, N, nm, qn, bs, hdct, sn, sub, ab, col, dd, k0, k1, k2, k3, k5, mN, hC, hN, hni, T⟩ := exc_obj I.kIn q
  refine wpAny_call_exc_subT F T hC hN hni (fun h' e hm => ?_) (Nat.zero_le _)
  exact mk_of I hm r h (I.hok.gone hm.new)
/-! ### a walk over what is a list or a tuple -/
theorem pi_or {X : Cx} {tg it : Expr} {r1 r2 : TI} (h1 : PI X tg it r1) (h2 : PI X tg it r2) : PI X tg it (fun σ H R => r1 σ H R ∨ r2 σ H R) :=
  ⟨fun pins s σ H R I h => h.elim (fun z => h1.run pins s σ H R I z) fun z => h2.run pins s σ H R I z⟩


/-! ### things whose class is told -/
def PlainV (H : Hp) (x : V) : Prop := x = .non ∨ (∃ b, x = .bl b) ∨ (∃ i, x = .int i) ∨ (∃ s, x = .str s) ∨ (∃ p xs, x = .ref p ∧ H p = some (.tup xs)) ∨ ∃ p xs, x = .ref p ∧ H p = some (.lst xs)
theorem PlainV.go {H H' : Hp} {x : V} (e : Evl.Ex H H') (h : PlainV H x) : PlainV H' x := by
  rcases h with h | h | h | h | ⟨p, xs, h, q⟩ | ⟨p, xs, h, q⟩
  · exact .inl h
  · exact .inr (.inl h)
  · exact .inr (.inr (.inl h))
  · exact .inr (.inr (.inr (.inl h)))
  · exact .inr (.inr (.inr (.inr (.inl ⟨p, xs, h, e _ _ q⟩))))
  · exact .inr (.inr (.inr (.inr (.inr ⟨p, xs, h, e _ _ q⟩))))
theorem plain_int {H : Hp} {i : Int} : PlainV H (.int i) := .inr (.inr (.inl ⟨i, rfl⟩))
def whB : V → Bool
  | .int _ => true
  | _ => false
def wiB (x : V) (lo hi : Int) : Bool := match x with
  | .int i => decide (lo ≤ i) && decide (i ≤ hi)
  | _ => false
def sqV : V → Bool
  | .ref _ => true
  | _ => false
theorem is_int {K : PySem.W.Frag} {H : Hp} {x : V} {Q : VK} (h : PlainV H x) (q : ∀ b c, rIsi K [x, .ty "bool"] H (fun y H' => y = .bl c ∧ H' = H) → (b && !c) = whB x → Q (.bl b) H) : rIsi K [x, .ty "int"] H Q := by
  rcases h with rfl | ⟨b, rfl⟩ | ⟨i, rfl⟩ | ⟨s, rfl⟩ | ⟨p, xs, rfl, e⟩ | ⟨p, xs, rfl, e⟩
  · exact isi_ty (t := "NoneType") (b := false) (.base .non) (by decide +kernel) (q _ false (isi_ty (t := "NoneType") (b := false) (.base .non) (by decide +kernel) ⟨rfl, rfl⟩) rfl)
  · exact isi_ty (t := "bool") (b := true) (.base (.bl _)) (by decide +kernel) (q _ true (isi_ty (t := "bool") (b := true) (.base (.bl _)) (by decide +kernel) ⟨rfl, rfl⟩) rfl)
  · exact isi_ty (t := "int") (b := true) (.base (.int _)) (by decide +kernel) (q _ false (isi_ty (t := "int") (b := false) (.base (.int _)) (by decide +kernel) ⟨rfl, rfl⟩) rfl)
  · exact isi_ty (t := "str") (b := false) (.base (.str _)) (by decide +kernel) (q _ false (isi_ty (t := "str") (b := false) (.base (.str _)) (by decide +kernel) ⟨rfl, rfl⟩) rfl)
  · exact isi_ty (t := "tuple") (b := false) (.base (.tup e)) (by decide +kernel) (q _ false (isi_ty (t := "tuple") (b := false) (.base (.tup e)) (by decide +kernel) ⟨rfl, rfl⟩) rfl)
  · exact isi_ty (t := "list") (b := false) (.base (.lst e)) (by decide +kernel) (q _ false (isi_ty (t := "list") (b := false) (.base (.lst e)) (by decide +kernel) ⟨rfl, rfl⟩) rfl)
theorem isi_mono {K : PySem.W.Frag} {H : Hp} {vs : List V} {c : Bool} {Q : VK} (h : rIsi K vs H fun y H' => y = .bl c ∧ H' = H) (q : Q (.bl c) H) : rIsi K vs H Q := by
  obtain ⟨x, y, t, u, b, e1, e2, e3, e4, e5, _⟩ := h
  cases e5
  exact ⟨x, y, t, u, _, e1, e2, e3, e4, q⟩
theorem isT2 {K : PySem.W.Frag} {H : Hp} {x : V} {tp : Addr} {t : String} {b : Bool} {Q : VK} (hT : H tp = some (.tup [.ty "list", .ty "tuple"])) (ht : TyX K H x (.type t)) (e : PySem.W.kitAny K (.type t) [.type "list", .type "tuple"] = some b) (q : Q (.bl b) H) : rIsiT K [x, .ref tp] H Q :=
  ⟨x, tp, _, _, _, b, rfl, hT, .cons (.ty _) (.cons (.ty _) .nil), ht, e, q⟩
theorem is_seq {K : PySem.W.Frag} {H : Hp} {x : V} {tp : Addr} {Q : VK} (h : PlainV H x) (hT : H tp = some (.tup [.ty "list", .ty "tuple"])) (q : Q (.bl (sqV x)) H) : rIsiT K [x, .ref tp] H Q := by
  rcases h with rfl | ⟨b, rfl⟩ | ⟨i, rfl⟩ | ⟨s, rfl⟩ | ⟨p, xs, rfl, e⟩ | ⟨p, xs, rfl, e⟩
  · exact isT2 (t := "NoneType") (b := false) hT (.base .non) (kitAny_cons (kit_ty (r := false) (by decide +kernel)) (fun _ => kitAny_cons (kit_ty (r := false) (by decide +kernel)) (fun _ => rfl) (fun h => by cases h)) (fun h => by cases h)) q
  · exact isT2 (t := "bool") (b := false) hT (.base (.bl _)) (kitAny_cons (kit_ty (r := false) (by decide +kernel)) (fun _ => kitAny_cons (kit_ty (r := false) (by decide +kernel)) (fun _ => rfl) (fun h => by cases h)) (fun h => by cases h)) q
  · exact isT2 (t := "int") (b := false) hT (.base (.int _)) (kitAny_cons (kit_ty (r := false) (by decide +kernel)) (fun _ => kitAny_cons (kit_ty (r := false) (by decide +kernel)) (fun _ => rfl) (fun h => by cases h)) (fun h => by cases h)) q
  · exact isT2 (t := "str") (b := false) hT (.base (.str _)) (kitAny_cons (kit_ty (r := false) (by decide +kernel)) (fun _ => kitAny_cons (kit_ty (r := false) (by decide +kernel)) (fun _ => rfl) (fun h => by cases h)) (fun h => by cases h)) q
  · exact isT2 (t := "tuple") (b := true) hT (.base (.tup e)) (kitAny_cons (kit_ty (r := false) (by decide +kernel)) (fun _ => kitAny_cons (kit_ty (r := true) (by decide +kernel)) (fun h => by cases h) (fun _ => rfl)) (fun h => by cases h)) q
  · exact isT2 (t := "list") (b := true) hT (.base (.lst e)) (kitAny_cons (kit_ty (r := true) (by decide +kernel)) (fun h => by cases h) (fun _ => rfl)) q
section
variable {P : Program} {w : World} {K : PySem.W.Frag} {mg : Str → Option Value} {base : Heap} {a : Ad}
def spWh : Sp := fun vs H Q _ => ∃ x, vs = [x] ∧ PlainV H x ∧ Q (.bl (whB x)) H
theorem ok_is_whole (T : Txt K mg a) : FnOk P w K mg base CX0 1 a.f_is_whole a.d_is_whole ["thing"] spWh := by
  refine T.F_is_whole.ok sc_is_whole (fun vs H Q E h => ?_) (fun cdv A outer s H vs Q E hr h => ?_)
  · obtain ⟨_, rfl, _⟩ := h
    rfl
  · obtain ⟨x, rfl, hx, k⟩ := h
    refine ⟨_, (pss_one (ps_ret (pe_and (pe_callB call_isi (by rfl) T.z_isinstance (by decide +kernel) (pa_cons (pv 0) (pa_cons (pe_bltn (v := .ty "int") (by rfl) T.z_int (by decide +kernel) rfl) pa_nil))) (pe_one (pe_not (pe_callB call_isi (by rfl) T.z_isinstance (by decide +kernel) (pa_cons (pv 0) (pa_cons (pe_bltn (v := .ty "bool") (by rfl) T.z_bool (by decide +kernel) rfl) pa_nil)))))))), ?_⟩
    walk_at "sm"
    refine is_int hx fun b c hc e => ⟨_, rfl, ?_⟩
    cases b with
    | false => exact iteF (by rw [← e] at k; exact k)
    | true => exact iteT (isi_mono hc ⟨_, rfl, by rw [← e] at k; exact k⟩)
theorem ok_law_whole (T : Txt K mg a) : FnOk P w K mg base CX0 1 a.f_law_whole a.d_law_whole ["_law_thing"] spWh := by
  refine T.F_law_whole.ok sc_law_whole (fun vs H Q E h => ?_) (fun cdv A outer s H vs Q E hr h => ?_)
  · obtain ⟨_, rfl, _⟩ := h
    rfl
  · obtain ⟨x, rfl, hx, k⟩ := h
    refine ⟨_, (pss_one (ps_ret (pe_and (pe_callB call_isi (by rfl) T.z_isinstance (by decide +kernel) (pa_cons (pv 0) (pa_cons (pe_bltn (v := .ty "int") (by rfl) T.z_int (by decide +kernel) rfl) pa_nil))) (pe_one (pe_not (pe_callB call_isi (by rfl) T.z_isinstance (by decide +kernel) (pa_cons (pv 0) (pa_cons (pe_bltn (v := .ty "bool") (by rfl) T.z_bool (by decide +kernel) rfl) pa_nil)))))))), ?_⟩
    walk_at "sm"
    refine is_int hx fun b c hc e => ⟨_, rfl, ?_⟩
    cases b with
    | false => exact iteF (by rw [← e] at k; exact k)
    | true => exact iteT (isi_mono hc ⟨_, rfl, by rw [← e] at k; exact k⟩)
def spWithin : Sp := fun vs H Q _ => ∃ (x : V) (lo hi : Int), vs = [x, .int lo, .int hi] ∧ PlainV H x ∧ Q (.bl (wiB x lo hi)) H
theorem ok_is_within (T : Txt K mg a) : FnOk P w K mg base CX0 2 a.f_is_within a.d_is_within ["thing", "least", "most"] spWithin := by
  refine T.F_is_within.ok sc_is_within (fun vs H Q E h => ?_) (fun cdv A outer s H vs Q E hr h => ?_)
  · obtain ⟨_, _, _, rfl, _⟩ := h
    rfl
  · obtain ⟨x, lo, hi, rfl, hx, k⟩ := h
    refine ⟨_, (pss_one (ps_ret (pe_and (pe_call (ok_is_whole T) (hr.mono (by decide)) rfl T.m_is_whole T.F_is_whole.kp T.b_is_whole .nil pass0 (pa_cons (pv 0) pa_nil)) (pe_one (pe_chain op_le op_le (pv 1) (pv 0) (pv 2)))))), ?_⟩
    walk_at "sm"
    refine ⟨x, rfl, hx, _, rfl, ?_⟩
    rcases hx with rfl | ⟨b, rfl⟩ | ⟨i, rfl⟩ | ⟨s, rfl⟩ | ⟨p, xs, rfl, e⟩ | ⟨p, xs, rfl, e⟩
    · exact iteF k
    · exact iteF k
    · refine iteT ?_
      walk_at "sm"
      refine ite2 (fun h => ?_) (fun h => ?_)
      · have e : wiB (.int i) lo hi = decide (i ≤ hi) := by show (decide _ && decide _) = _; rw [decide_eq_true h]; rfl
        rw [e] at k; exact k
      · have e : wiB (.int i) lo hi = false := by show (decide _ && decide _) = _; rw [decide_eq_false h]; rfl
        rw [e] at k; exact k
    · exact iteF k
    · exact iteF k
    · exact iteF k
def spSeq : Sp := fun vs H Q _ => ∃ x, vs = [x] ∧ PlainV H x ∧ ∀ H', Evl.Ex H H' → Q (.bl (sqV x)) H'
theorem ok_is_sequence (T : Txt K mg a) : FnOk P w K mg base CX0 1 a.f_is_sequence a.d_is_sequence ["thing"] spSeq := by
  refine T.F_is_sequence.ok sc_is_sequence (fun vs H Q E h => ?_) (fun cdv A outer s H vs Q E hr h => ?_)
  · obtain ⟨_, rfl, _⟩ := h
    rfl
  · obtain ⟨x, rfl, hx, k⟩ := h
    refine ⟨_, (pss_one (ps_ret (pe_callB call_isiT (by rfl) T.z_isinstance (by decide +kernel) (pa_cons (pv 0) (pa_cons (pe_tup (pa_cons (pe_bltn (v := .ty "list") (by rfl) T.z_list (by decide +kernel) rfl) (pa_cons (pe_bltn (v := .ty "tuple") (by rfl) T.z_tuple (by decide +kernel) rfl) pa_nil))) pa_nil))))), ?_⟩
    walk_at "sm"
    refine ⟨sz (by decide), fun tp htp => is_seq (hx.go (Evl.Ex.new htp)) upd_same (k _ (Evl.Ex.new htp))⟩
def spTwo : Sp := fun vs H Q _ => ∃ n : Nat, vs = [.int n] ∧ n ≤ 300 ∧ Q (.int (2 ^ n)) H
def ivTwo (n : Nat) (H : Hp) : Nat → L2.St → Hp → Prop := fun i σ H' => ∃ v, σ = [some (.int n), some (.int (2 ^ i)), v] ∧ H' = H
theorem ok_law_two (T : Txt K mg a) : FnOk P w K mg base CX0 1 a.f_law_two a.d_law_two ["_law_n"] spTwo := by
  refine T.F_law_two.ok sc_law_two (fun vs H Q E h => ?_) (fun cdv A outer s H vs Q E hr h => ?_)
  · obtain ⟨_, rfl, _⟩ := h
    rfl
  · obtain ⟨n, rfl, hn, k⟩ := h
    refine ⟨_, (pss_cons (ps_set (i := 1) sc_law_two.nd rfl (by first | exact Or.inl rfl | exact Or.inr rfl) pe_int)
  (pss_cons (ps_for PassesOwn.never rfl (pi_range1 (by rfl) T.z_range (pa_cons (pv 0) pa_nil)) (pg_name (i := 2) sc_law_two.nd rfl (by first | exact Or.inl rfl | exact Or.inr rfl)) (pss_one (ps_set (i := 1) sc_law_two.nd rfl (by first | exact Or.inl rfl | exact Or.inr rfl) (pe_op op_mul (pv 1) pe_int))))
  (pss_one (ps_ret (pv 1))))), ?_⟩
    walk_at "sm"
    refine ⟨_, rfl, (n : Int), rfl, by omega, by omega, ?_⟩
    refine for_range (lo := 0) (n := (n : Int).toNat) (ivTwo n H) ⟨none, rfl, rfl⟩ ?_ ?_
    · rintro i σ H' hi ⟨v, rfl, rfl⟩
      walk_at "sm"
      refine ⟨.inr ⟨by omega, by omega⟩, some (.int (0 + (i : Int))), ?_, rfl⟩
      rw [Int.pow_succ]
    · rintro σ H' ⟨v, rfl, rfl⟩
      walk_at "sm"
      exact k
end


theorem hu1 {n : Nat} (h : n + 64 < cLine) : n + 1 < cLine := by omega
theorem Fr.ex {H H' : Hp} {d : Addr} {o : HO} (hd : H d = none) (f : Fr d (L2.upd H d o) H') : Evl.Ex H H' := fun b u h => f b u (ne_of_none h hd) (by rw [upd_ne (ne_of_none h hd)]; exact h)
theorem wi_int {x : V} {lo hi : Int} (h : wiB x lo hi = true) : ∃ i, x = .int i ∧ lo ≤ i ∧ i ≤ hi := by
  cases x with
  | int i =>
    have : (decide (lo ≤ i) && decide (i ≤ hi)) = true := h
    rw [Bool.and_eq_true, decide_eq_true_eq, decide_eq_true_eq] at this
    exact ⟨i, rfl, this.1, this.2⟩
  | _ => cases h
theorem wi_of {i lo hi : Int} (h1 : lo ≤ i) (h2 : i ≤ hi) : wiB (.int i) lo hi = true := by
  show (decide (lo ≤ i) && decide (i ≤ hi)) = true
  rw [decide_eq_true h1, decide_eq_true h2]; rfl
/-- the memo at d: keys of C, each with its number of moves -/
def MemoAt (C : List Nat) (H : Hp) (d : Addr) : Prop := ∃ ks : List Nat, H d = some (.dK (ks.map fun k : Nat => (.inl (k : Int), .int (Mv k : Int)))) ∧ ks.Nodup ∧ ∀ k ∈ ks, k ∈ C
theorem memo_get {n : Nat} : ∀ {ks : List Nat}, valV (ks.map fun k : Nat => ((.inl (k : Int) : L2.Key), V.int (Mv k : Int))) (.inl (n : Int)) = if n ∈ ks then some (.int (Mv n : Int)) else none
  | [] => by rw [if_neg (by simp)]; rfl
  | k :: ks => by
    rw [List.map_cons]
    by_cases e : k = n
    · subst e
      rw [valV_pos rfl, if_pos List.mem_cons_self]
    · rw [valV_neg (by intro q; exact e (by exact_mod_cast Sum.inl.inj q)), memo_get]
      have : n ∈ k :: ks ↔ n ∈ ks := by
        rw [List.mem_cons]
        constructor
        · rintro (h | h)
          · exact absurd h.symm e
          · exact h
        · exact .inr
      simp only [this]
theorem memo_put {n : Nat} {ks : List Nat} (h : n ∉ ks) : putK (ks.map fun k : Nat => ((.inl (k : Int) : L2.Key), V.int (Mv k : Int))) (.inl (n : Int)) (.int (Mv n : Int)) = (ks ++ [n]).map fun k : Nat => (.inl (k : Int), .int (Mv k : Int)) := by
  unfold putK
  rw [valV_any, memo_get, if_neg h, List.map_append]
  rfl
theorem memo_put2 {n : Nat} {ks : List Nat} (h : n ∈ ks) : putK (ks.map fun k : Nat => ((.inl (k : Int) : L2.Key), V.int (Mv k : Int))) (.inl (n : Int)) (.int (Mv n : Int)) = ks.map fun k : Nat => (.inl (k : Int), .int (Mv k : Int)) := by
  unfold putK
  rw [valV_any, memo_get, if_pos h, Option.isSome_some, if_pos rfl, List.map_map]
  refine List.map_congr_left fun k _ => ?_
  show (if (Sum.inl (k : Int) : L2.Key) = .inl (n : Int) then _ else _) = _
  by_cases e : k = n
  · subst e; rw [if_pos rfl]
  · rw [if_neg (by intro q; exact e (by exact_mod_cast Sum.inl.inj q))]
theorem MemoAt.upd {C : List Nat} {H : Hp} {d l : Addr} {o : HO} (h : MemoAt C H d) (n : d ≠ l) : MemoAt C (upd H l o) d := by
  obtain ⟨ks, e, r⟩ := h
  exact ⟨ks, by rw [upd_ne n]; exact e, r⟩
theorem MemoAt.ne {C : List Nat} {H : Hp} {d l : Addr} (h : MemoAt C H d) (hl : H l = none) : d ≠ l := by
  obtain ⟨ks, e, r⟩ := h
  exact ne_of_none e hl
section
variable {P : Program} {w : World} {K : PySem.W.Frag} {mg : Str → Option Value} {base : Heap} {a : Ad}
/-- a checked number, and what is made of it -/
def spL (C : Addr) (hi : Int) (f : Int → Int) : Sp := fun vs H Q E => ∃ x, vs = [x] ∧ PlainV H x ∧ (∀ i, x = .int i → 1 ≤ i → i ≤ hi → Q (.int (f i)) H) ∧ (wiB x 1 hi = false → E (.ref C) none H)
theorem ok_check_room (T : Txt K mg a) : FnOk P w K mg base (L2.CX P w) 3 a.f_check_room a.d_check_room ["room"] (spL a.c_BadRoom 200 fun i => i) := by
  refine T.F_check_room.okX sc_check_room (fun vs H Q E h => ?_) (fun cdv A outer s H vs Q E hr h => ?_)
  · obtain ⟨_, rfl, _⟩ := h
    rfl
  · obtain ⟨x, rfl, hx, k1, k2⟩ := h
    refine ⟨_, (pss_cons (ps_if (pt_not (pt_val (pe_call (ok_is_within T) (hr.mono (by decide)) rfl T.m_is_within T.F_is_within.kp T.b_is_within .nil pass0 (pa_cons (pv 0) (pa_cons pe_int (pa_cons (pe_glob rfl T.g_MOST_ROOM.choose_spec.1 T.g_MOST_ROOM.choose_spec.2) pa_nil)))))) (pss_one (ps_raise rfl (takes_of rfl rfl rfl rfl) (pmk_own0 PySem.F.excBase_ValueError T.q_BadRoom T.m_BadRoom T.k_BadRoom (raises_own T.sb_BadRoom T.ty_BadRoom) rfl)))
    pss_nil)
  (pss_one (ps_ret (pv 0)))), ?_⟩
    walk_at "sm"
    refine ⟨x, 1, 200, rfl, hx, _, rfl, ?_⟩
    cases e : wiB x 1 200 with
    | false => exact iteT (k2 e)
    | true =>
      obtain ⟨i, rfl, h1, h2⟩ := wi_int e
      exact iteF (k1 i rfl h1 h2)
theorem ok_check_length (T : Txt K mg a) : FnOk P w K mg base (L2.CX P w) 3 a.f_check_length a.d_check_length ["length"] (spL a.c_BadLength (10 ^ 30) fun i => i) := by
  refine T.F_check_length.okX sc_check_length (fun vs H Q E h => ?_) (fun cdv A outer s H vs Q E hr h => ?_)
  · obtain ⟨_, rfl, _⟩ := h
    rfl
  · obtain ⟨x, rfl, hx, k1, k2⟩ := h
    refine ⟨_, (pss_cons (ps_if (pt_not (pt_val (pe_call (ok_is_within T) (hr.mono (by decide)) rfl T.m_is_within T.F_is_within.kp T.b_is_within .nil pass0 (pa_cons (pv 0) (pa_cons pe_int (pa_cons (pe_glob rfl T.g_MOST_LENGTH.choose_spec.1 T.g_MOST_LENGTH.choose_spec.2) pa_nil)))))) (pss_one (ps_raise rfl (takes_of rfl rfl rfl rfl) (pmk_own0 PySem.F.excBase_ValueError T.q_BadLength T.m_BadLength T.k_BadLength (raises_own T.sb_BadLength T.ty_BadLength) rfl)))
    pss_nil)
  (pss_one (ps_ret (pv 0)))), ?_⟩
    walk_at "sm"
    refine ⟨x, 1, 10 ^ 30, rfl, hx, _, rfl, ?_⟩
    cases e : wiB x 1 (10 ^ 30) with
    | false => exact iteT (k2 e)
    | true =>
      obtain ⟨i, rfl, h1, h2⟩ := wi_int e
      exact iteF (k1 i rfl h1 h2)
theorem ok_chain_price (T : Txt K mg a) : FnOk P w K mg base (L2.CX P w) 4 a.f_chain_price a.d_chain_price ["length"] (spL a.c_BadLength (10 ^ 30) fun i => 1 + (PySem.Builtin.Int.intBits (i - 1) : Int)) := by
  refine T.F_chain_price.okX sc_chain_price (fun vs H Q E h => ?_) (fun cdv A outer s H vs Q E hr h => ?_)
  · obtain ⟨_, rfl, _⟩ := h
    rfl
  · obtain ⟨x, rfl, hx, k1, k2⟩ := h
    refine ⟨_, (pss_one (ps_ret (pe_op op_add pe_int (pe_bits (pe_op op_sub (pe_call (ok_check_length T) (hr.mono (by decide)) rfl T.m_check_length T.F_check_length.kp T.b_check_length .nil (passes_call (takes_of rfl rfl rfl rfl) (fun _ _ _ _ q => q)) (pa_cons (pv 0) pa_nil)) pe_int))))), ?_⟩
    walk_at "sm"
    refine ⟨x, rfl, hx, fun i e h1 h2 => ?_, k2⟩
    exact ⟨_, rfl, k1 i e h1 h2⟩
theorem ok_longest_chain (T : Txt K mg a) : FnOk P w K mg base (L2.CX P w) 4 a.f_longest_chain a.d_longest_chain ["cells"] (spL a.c_BadRoom 200 fun i => 2 ^ (i - 1).toNat) := by
  refine T.F_longest_chain.okX sc_longest_chain (fun vs H Q E h => ?_) (fun cdv A outer s H vs Q E hr h => ?_)
  · obtain ⟨_, rfl, _⟩ := h
    rfl
  · obtain ⟨x, rfl, hx, k1, k2⟩ := h
    refine ⟨_, (pss_one (ps_ret (pe_op op_oneShl pe_int (pe_op op_sub (pe_call (ok_check_room T) (hr.mono (by decide)) rfl T.m_check_room T.F_check_room.kp T.b_check_room .nil (passes_call (takes_of rfl rfl rfl rfl) (fun _ _ _ _ q => q)) (pa_cons (pv 0) pa_nil)) pe_int)))), ?_⟩
    walk_at "sm"
    refine ⟨x, rfl, hx, fun i e h1 h2 => ?_, k2⟩
    exact ⟨_, rfl, (i - 1).toNat, by show i - 1 = _; omega, by omega, k1 i e h1 h2⟩
def spMv (C : List Nat) (k : Nat) : Sp := fun vs H Q _ => ∃ (n : Nat) (d : Addr), vs = [.int n, .ref d] ∧ 1 ≤ n ∧ n ≤ 2 ^ k ∧ n ∈ C ∧ MemoAt C H d ∧ ∀ H', Fr d H H' → MemoAt C H' d → Q (.int (Mv n : Int)) H'
theorem ok_mv0 (T : Txt K mg a) : FnOk P w K mg base CX0 1 a.f_moves_of a.d_moves_of ["length", "known"] (fun _ _ _ _ => False) :=
  T.F_moves_of.ok sc_moves_of (fun vs H Q E h => False.elim h) (fun cdv A outer s H vs Q E hr h => False.elim h)
theorem ok_mv (T : Txt K mg a) {C : List Nat} (hC : Closed C) : ∀ k, FnOk P w K mg base CX0 (k + 2) a.f_moves_of a.d_moves_of ["length", "known"] (spMv C k) := by
  intro k
  induction k with
  | zero =>
    refine T.F_moves_of.ok sc_moves_of (fun vs H Q E h => ?_) (fun cdv A outer s H vs Q E hr h => ?_)
    · obtain ⟨_, _, rfl, _⟩ := h
      rfl
    · obtain ⟨n, d, rfl, h1, h2, h3, h4, k⟩ := h
      have : n = 1 := by simp at h2; omega
      subst this
      have ok_moves_of := fun (_ : Txt K mg a) => ok_mv0 (P := P) (w := w) (base := base) T
      refine ⟨_, (pss_cons (ps_if (pt_cmpR op_eq (pv 0) pe_int (nomark _)) (pss_one (ps_ret pe_int))
    pss_nil)
  (pss_cons (ps_if (pt_cmp (pc_dnotin (hu1 hr.units) (pv 0) (pv 1))) (pss_cons (ps_set (i := 2) sc_moves_of.nd rfl (by first | exact Or.inl rfl | exact Or.inr rfl) (pe_op op_fdiv (pv 0) pe_int))
  (pss_one (ps_asg (pe_op op_add (pe_op op_mul pe_int (pe_call (ok_moves_of T) (hr.mono (by omega)) rfl T.m_moves_of T.F_moves_of.kp T.b_moves_of .nil pass0 (pa_cons (pv 2) (pa_cons (pv 1) pa_nil)))) (pe_call (ok_moves_of T) (hr.mono (by omega)) rfl T.m_moves_of T.F_moves_of.kp T.b_moves_of .nil pass0 (pa_cons (pe_op op_sub (pv 0) (pv 2)) (pa_cons (pv 1) pa_nil)))) (pg_sub (pv 1) (pv 0) (set_dict (hu1 hr.units)) (by intro _; rfl)))))
    pss_nil)
  (pss_one (ps_ret (pe_dget (hu1 hr.units) (pv 1) (pv 0) (fun _ _ => rfl)))))), ?_⟩
      walk_at "sm"
      exact ite2 (fun _ => by rw [Mv1 (Nat.le_refl 1)] at k; exact k _ (Fr.refl _) h4) fun q => absurd rfl q
  | succ k ih =>
    have ok_moves_of := fun (_ : Txt K mg a) => ih
    refine T.F_moves_of.ok sc_moves_of (fun vs H Q E h => ?_) (fun cdv A outer s H vs Q E hr h => ?_)
    · obtain ⟨_, _, rfl, _⟩ := h
      rfl
    · obtain ⟨n, d, rfl, h1, h2, h3, h4, kk⟩ := h
      refine ⟨_, (pss_cons (ps_if (pt_cmpR op_eq (pv 0) pe_int (nomark _)) (pss_one (ps_ret pe_int))
    pss_nil)
  (pss_cons (ps_if (pt_cmp (pc_dnotin (hu1 hr.units) (pv 0) (pv 1))) (pss_cons (ps_set (i := 2) sc_moves_of.nd rfl (by first | exact Or.inl rfl | exact Or.inr rfl) (pe_op op_fdiv (pv 0) pe_int))
  (pss_one (ps_asg (pe_op op_add (pe_op op_mul pe_int (pe_call (ok_moves_of T) (hr.mono (by omega)) rfl T.m_moves_of T.F_moves_of.kp T.b_moves_of .nil pass0 (pa_cons (pv 2) (pa_cons (pv 1) pa_nil)))) (pe_call (ok_moves_of T) (hr.mono (by omega)) rfl T.m_moves_of T.F_moves_of.kp T.b_moves_of .nil pass0 (pa_cons (pe_op op_sub (pv 0) (pv 2)) (pa_cons (pv 1) pa_nil)))) (pg_sub (pv 1) (pv 0) (set_dict (hu1 hr.units)) (by intro _; rfl)))))
    pss_nil)
  (pss_one (ps_ret (pe_dget (hu1 hr.units) (pv 1) (pv 0) (fun _ _ => rfl)))))), ?_⟩
      walk_at "sm"
      refine ite2 (fun e => ?_) (fun e => ?_)
      · have : n = 1 := by omega
        subst this
        rw [Mv1 (Nat.le_refl 1)] at kk
        exact kk _ (Fr.refl _) h4
      have hn : 2 ≤ n := by omega
      obtain ⟨ks, e1, e2, e3⟩ := h4
      refine ⟨_, DGet.k (k := .inl (n : Int)) e1, ?_⟩
      rw [memo_get]
      by_cases q : n ∈ ks
      · rw [if_pos q]
        refine iteF ⟨_, ?_, kk _ (Fr.refl _) ⟨ks, e1, e2, e3⟩⟩
        rw [← if_pos (c := n ∈ ks) (t := some (V.int (Mv n : Int))) (e := none) q, ← memo_get]
        exact DGet.k (k := .inl (n : Int)) e1
      · rw [if_neg q]
        refine iteT ⟨by unfold CDiv; decide, n / 2, d, rfl, by omega, by have := Nat.pow_succ 2 k; omega, (hC.2 n h3 hn).1, ⟨ks, e1, e2, e3⟩, fun H1 f1 m1 => ?_⟩
        refine ⟨_, rfl, .inl ⟨by omega, by omega⟩, n - n / 2, d, ?_, by omega, by have := Nat.pow_succ 2 k; omega, (hC.2 n h3 hn).2, m1, fun H2 f2 m2 => ?_⟩
        · congr 2; omega
        · obtain ⟨ks2, g1, g2, g3⟩ := m2
          have e4 : V.int (2 * (Mv (n / 2) : Int) + (Mv (n - n / 2) : Int)) = .int (Mv n : Int) := by
            rw [Mv2 hn]; congr 1
          have fin : ∀ ks3 : List Nat, (∀ k ∈ ks3, k ∈ C) → ks3.Nodup → n ∈ ks3 → putK (ks2.map fun k : Nat => ((.inl (k : Int) : L2.Key), V.int (Mv k : Int))) (.inl (n : Int)) (.int (Mv n : Int)) = (ks3.map fun k : Nat => (.inl (k : Int), .int (Mv k : Int))) →
              ∃ x, V.int (Mv (n - n / 2) : Int) = V.int x ∧ rSetD (V.ref d) (V.int n) (V.int (2 * (Mv (n / 2) : Int) + x)) H2 fun H3 => ∃ x, DGet H3 d (V.int n) (some x) ∧ Q x H3 := by
            intro ks3 hs hd hm e5
            refine ⟨_, rfl, d, _, rfl, DPut.k (k := .inl (n : Int)) g1 ?_, ?_⟩
            · rw [List.length_map]
              have := len_sub g2 g3
              exact Nat.lt_of_lt_of_le (by have := hC.1; omega : ks2.length < 300) (by decide)
            · rw [e4, e5]
              refine ⟨.int (Mv n : Int), ?_, kk _ ((f1.trans f2).trans Fr.upd) ⟨ks3, upd_same, hd, hs⟩⟩
              rw [← if_pos (c := n ∈ ks3) (t := some (V.int (Mv n : Int))) (e := none) hm, ← memo_get]
              exact DGet.k (k := .inl (n : Int)) upd_same
          by_cases q2 : n ∈ ks2
          · exact fin ks2 g3 g2 q2 (memo_put2 q2)
          · refine fin (ks2 ++ [n]) ?_ ?_ (List.mem_append.mpr (.inr (List.mem_singleton.mpr rfl))) (memo_put q2)
            · intro k hk
              rcases List.mem_append.mp hk with hk | hk
              · exact g3 k hk
              · rw [List.mem_singleton.mp hk]; exact h3
            · rw [List.nodup_append]
              refine ⟨g2, List.nodup_cons.mpr ⟨by simp, .nil⟩, fun x hx y hy => ?_⟩
              rw [List.mem_singleton.mp hy]
              rintro rfl
              exact q2 hx
theorem p30 : (10 : Int) ^ 30 < 2 ^ 100 := by decide
theorem p30n {n : Nat} (h : (n : Int) ≤ 10 ^ 30) : n < 2 ^ 100 := by
  have : (10 : Int) ^ 30 < ((2 ^ 100 : Nat) : Int) := by decide
  omega
def spCM (C : Addr) : Sp := fun vs H Q E => ∃ x, vs = [x] ∧ PlainV H x ∧ (∀ n : Nat, x = .int n → 1 ≤ n → (n : Int) ≤ 10 ^ 30 → ∀ H', Evl.Ex H H' → Q (.int (Mv n : Int)) H') ∧ (wiB x 1 (10 ^ 30) = false → E (.ref C) none H)
theorem ok_chain_moves (T : Txt K mg a) : FnOk P w K mg base (L2.CX P w) 110 a.f_chain_moves a.d_chain_moves ["length"] (spCM a.c_BadLength) := by
  refine T.F_chain_moves.okX sc_chain_moves (fun vs H Q E h => ?_) (fun cdv A outer s H vs Q E hr h => ?_)
  · obtain ⟨_, rfl, _⟩ := h
    rfl
  · obtain ⟨x, rfl, hx, k1, k2⟩ := h
    cases e : wiB x 1 (10 ^ 30) with
    | false =>
      have ok_moves_of := fun (_ : Txt K mg a) => ok_mv0 (P := P) (w := w) (base := base) T
      refine ⟨_, (pss_one (ps_ret (pe_call (ok_moves_of T) (hr.mono (by decide)) rfl T.m_moves_of T.F_moves_of.kp T.b_moves_of .nil pass0 (pa_cons (pe_call (ok_check_length T) (hr.mono (by decide)) rfl T.m_check_length T.F_check_length.kp T.b_check_length .nil (passes_call (takes_of rfl rfl rfl rfl) (fun _ _ _ _ q => q)) (pa_cons (pv 0) pa_nil)) (pa_cons pe_dnewK pa_nil))))), ?_⟩
      walk_at "sm"
      refine ⟨x, rfl, hx, fun i e1 h1 h2 => ?_, fun _ => k2 e⟩
      rw [e1, wi_of h1 h2] at e
      cases e
    | true =>
      obtain ⟨i, rfl, h1, h2⟩ := wi_int e
      obtain ⟨n, rfl⟩ : ∃ n : Nat, i = n := ⟨i.toNat, by omega⟩
      have ok_moves_of := fun (_ : Txt K mg a) => ok_mv (P := P) (w := w) (base := base) T (Cl_closed (p30n h2)) 100
      refine ⟨_, (pss_one (ps_ret (pe_call (ok_moves_of T) (hr.mono (by decide)) rfl T.m_moves_of T.F_moves_of.kp T.b_moves_of .nil pass0 (pa_cons (pe_call (ok_check_length T) (hr.mono (by decide)) rfl T.m_check_length T.F_check_length.kp T.b_check_length .nil (passes_call (takes_of rfl rfl rfl rfl) (fun _ _ _ _ q => q)) (pa_cons (pv 0) pa_nil)) (pa_cons pe_dnewK pa_nil))))), ?_⟩
      walk_at "sm"
      refine ⟨_, rfl, hx, fun i e1 _ _ => ?_, fun q => by rw [e] at q; cases q⟩
      cases e1
      intro d hd
      have := p30n h2
      refine ⟨n, d, rfl, by omega, by omega, Cl_self, ⟨[], upd_same, .nil, by simp⟩, fun H' f _ => k1 n rfl (by omega) h2 _ (Fr.ex hd f)⟩
end


theorem Pm_mi {f n k : Nat} (h : 2 ≤ n) (h1 : Mv (n / 2) ≤ k) (h2 : k < Mv (n / 2) + Mv (n - n / 2)) : Pm f n k = Pm (f + n / 2) (n - n / 2) (k - Mv (n / 2)) := by rw [Pm, dif_neg (by omega), if_pos ⟨h1, h2⟩]
theorem Pm_lo {f n k : Nat} (h : 2 ≤ n) (h1 : k < Mv (n / 2)) : Pm f n k = Pm f (n / 2) k := by rw [Pm, dif_neg (by omega), if_neg (by omega), if_pos h1]
theorem Pm_hi {f n k : Nat} (h : 2 ≤ n) (h1 : Mv (n / 2) + Mv (n - n / 2) ≤ k) : Pm f n k = Pm f (n / 2) (2 * Mv (n / 2) + Mv (n - n / 2) - 1 - k) := by rw [Pm, dif_neg (by omega), if_neg (by omega), if_neg (by omega)]
theorem iteT' {c : Prop} [Decidable c] {p q : Prop} (h : c) (k : p) : if c then p else q := by rw [if_pos h]; exact k
theorem iteF' {c : Prop} [Decidable c] {p q : Prop} (h : ¬ c) (k : q) : if c then p else q := by rw [if_neg h]; exact k
section
variable {P : Program} {w : World} {K : PySem.W.Frag} {mg : Str → Option Value} {base : Heap} {a : Ad}
def spMove (a : Ad) : Sp := fun vs H Q E => ∃ x y, vs = [x, y] ∧ PlainV H x ∧ PlainV H y ∧ (wiB x 1 (10 ^ 30) = false → E (.ref a.c_BadLength) none H) ∧
  (∀ n : Nat, x = .int n → 1 ≤ n → (n : Int) ≤ 10 ^ 30 → (wiB y 0 (Mv n - 1) = false → ∀ H', Evl.Ex H H' → E (.ref a.c_BadNumber) none H') ∧ ∀ k : Nat, y = .int k → k < Mv n → ∀ H', Evl.Ex H H' → Q (.int (Pm 0 n k)) H')
def ivMove (C : List Nat) (d : Addr) (x y : V) (p : Nat) (H : Hp) : Nat → L2.St → Hp → Prop := fun m σ H' => ∃ (f n k : Nat) (v1 v2 v3 : Option V), σ = [some x, some y, some (.ref d), some (.int f), some (.int n), some (.int k), v1, v2, v3] ∧
  m = n ∧ 1 ≤ n ∧ n ≤ 2 ^ 100 ∧ n ∈ C ∧ k < Mv n ∧ Pm f n k = p ∧ MemoAt C H' d ∧ Evl.Ex H H'
theorem ok_chain_move (T : Txt K mg a) : FnOk P w K mg base (L2.CX P w) 111 a.f_chain_move a.d_chain_move ["length", "number"] (spMove a) := by
  refine T.F_chain_move.okX sc_chain_move (fun vs H Q E h => ?_) (fun cdv A outer s H vs Q E hr h => ?_)
  · obtain ⟨_, _, rfl, _⟩ := h
    rfl
  · obtain ⟨x, y, rfl, hx, hy, k1, k2⟩ := h
    cases e : wiB x 1 (10 ^ 30) with
    | false =>
      have ok_moves_of := fun (_ : Txt K mg a) => ok_mv0 (P := P) (w := w) (base := base) T
      refine ⟨_, (pss_cons (ps_if (pt_not (pt_val (pe_call (ok_is_within T) (hr.mono (by decide)) rfl T.m_is_within T.F_is_within.kp T.b_is_within .nil pass0 (pa_cons (pv 1) (pa_cons pe_int (pa_cons (pe_op op_sub (pe_call (ok_chain_moves T) (hr.mono (by decide)) rfl T.m_chain_moves T.F_chain_moves.kp T.b_chain_moves .nil (passes_call (takes_of rfl rfl rfl rfl) (fun _ _ _ _ q => q)) (pa_cons (pv 0) pa_nil)) pe_int) pa_nil)))))) (pss_one (ps_raise rfl (takes_of rfl rfl rfl rfl) (pmk_own0 PySem.F.excBase_ValueError T.q_BadNumber T.m_BadNumber T.k_BadNumber (raises_own T.sb_BadNumber T.ty_BadNumber) rfl)))
    pss_nil)
  (pss_cons (ps_asg (pe_tup (pa_cons pe_dnewK (pa_cons pe_int (pa_cons (pv 0) (pa_cons (pv 1) pa_nil))))) (pg_tup rfl (pgs_cons (pg_name (i := 2) sc_chain_move.nd rfl (by first | exact Or.inl rfl | exact Or.inr rfl)) (pgs_cons (pg_name (i := 3) sc_chain_move.nd rfl (by first | exact Or.inl rfl | exact Or.inr rfl)) (pgs_cons (pg_name (i := 4) sc_chain_move.nd rfl (by first | exact Or.inl rfl | exact Or.inr rfl)) (pgs_cons (pg_name (i := 5) sc_chain_move.nd rfl (by first | exact Or.inl rfl | exact Or.inr rfl)) pgs_nil))))))
  (pss_cons (ps_while (passes_of rfl) (pt_cmpR op_gt (pv 4) pe_int (nomark _)) (pss_cons (ps_set (i := 6) sc_chain_move.nd rfl (by first | exact Or.inl rfl | exact Or.inr rfl) (pe_op op_fdiv (pv 4) pe_int))
  (pss_cons (ps_par (by rfl) sc_chain_move.nd (i := 7) (j := 8) rfl rfl (by decide) rfl rfl (pa_cons (pe_call (ok_moves_of T) (hr.mono (by decide)) rfl T.m_moves_of T.F_moves_of.kp T.b_moves_of .nil pass0 (pa_cons (pv 6) (pa_cons (pv 2) pa_nil))) (pa_cons (pe_call (ok_moves_of T) (hr.mono (by decide)) rfl T.m_moves_of T.F_moves_of.kp T.b_moves_of .nil pass0 (pa_cons (pe_op op_sub (pv 4) (pv 6)) (pa_cons (pv 2) pa_nil))) pa_nil)) (by rfl))
  (pss_one (ps_if (pt_chain op_le op_lt (pv 7) (pv 5) (pe_op op_add (pv 7) (pv 8))) (pss_one (ps_par3 (by rfl) sc_chain_move.nd (i := 3) (j := 4) (l := 5) rfl rfl rfl (by decide) (by decide) (by decide) (by first | rfl | kernel_rfl) (by first | rfl | kernel_rfl) (by first | rfl | kernel_rfl) (pa_cons (pe_op op_add (pv 3) (pv 6)) (pa_cons (pe_op op_sub (pv 4) (pv 6)) (pa_cons (pe_op op_sub (pv 5) (pv 7)) pa_nil))) (by first | rfl | kernel_rfl)))
    (pss_one (ps_par (by rfl) sc_chain_move.nd (i := 4) (j := 5) rfl rfl (by decide) rfl rfl (pa_cons (pv 6) (pa_cons (pe_ifExp (pt_cmpR op_lt (pv 5) (pv 7) (nomark _)) (pv 5) (pe_op op_sub (pe_op op_sub (pe_op op_add (pe_op op_mul pe_int (pv 7)) (pv 8)) pe_int) (pv 5))) pa_nil)) (by rfl))))))))
  (pss_one (ps_ret (pv 3)))))), ?_⟩
      walk_at "sm"
      refine ⟨x, rfl, hx, fun n e1 h1 h2 => ?_, fun _ => k1 e⟩
      rw [e1, wi_of (by omega) h2] at e
      cases e
    | true =>
      obtain ⟨i, rfl, h1, h2⟩ := wi_int e
      obtain ⟨n, rfl⟩ : ∃ n : Nat, i = n := ⟨i.toNat, by omega⟩
      have ok_moves_of := fun (_ : Txt K mg a) => ok_mv (P := P) (w := w) (base := base) T (Cl_closed (p30n h2)) 100
      have hC := Cl_closed (p30n h2)
      refine ⟨_, (pss_cons (ps_if (pt_not (pt_val (pe_call (ok_is_within T) (hr.mono (by decide)) rfl T.m_is_within T.F_is_within.kp T.b_is_within .nil pass0 (pa_cons (pv 1) (pa_cons pe_int (pa_cons (pe_op op_sub (pe_call (ok_chain_moves T) (hr.mono (by decide)) rfl T.m_chain_moves T.F_chain_moves.kp T.b_chain_moves .nil (passes_call (takes_of rfl rfl rfl rfl) (fun _ _ _ _ q => q)) (pa_cons (pv 0) pa_nil)) pe_int) pa_nil)))))) (pss_one (ps_raise rfl (takes_of rfl rfl rfl rfl) (pmk_own0 PySem.F.excBase_ValueError T.q_BadNumber T.m_BadNumber T.k_BadNumber (raises_own T.sb_BadNumber T.ty_BadNumber) rfl)))
    pss_nil)
  (pss_cons (ps_asg (pe_tup (pa_cons pe_dnewK (pa_cons pe_int (pa_cons (pv 0) (pa_cons (pv 1) pa_nil))))) (pg_tup rfl (pgs_cons (pg_name (i := 2) sc_chain_move.nd rfl (by first | exact Or.inl rfl | exact Or.inr rfl)) (pgs_cons (pg_name (i := 3) sc_chain_move.nd rfl (by first | exact Or.inl rfl | exact Or.inr rfl)) (pgs_cons (pg_name (i := 4) sc_chain_move.nd rfl (by first | exact Or.inl rfl | exact Or.inr rfl)) (pgs_cons (pg_name (i := 5) sc_chain_move.nd rfl (by first | exact Or.inl rfl | exact Or.inr rfl)) pgs_nil))))))
  (pss_cons (ps_while (passes_of rfl) (pt_cmpR op_gt (pv 4) pe_int (nomark _)) (pss_cons (ps_set (i := 6) sc_chain_move.nd rfl (by first | exact Or.inl rfl | exact Or.inr rfl) (pe_op op_fdiv (pv 4) pe_int))
  (pss_cons (ps_par (by rfl) sc_chain_move.nd (i := 7) (j := 8) rfl rfl (by decide) rfl rfl (pa_cons (pe_call (ok_moves_of T) (hr.mono (by decide)) rfl T.m_moves_of T.F_moves_of.kp T.b_moves_of .nil pass0 (pa_cons (pv 6) (pa_cons (pv 2) pa_nil))) (pa_cons (pe_call (ok_moves_of T) (hr.mono (by decide)) rfl T.m_moves_of T.F_moves_of.kp T.b_moves_of .nil pass0 (pa_cons (pe_op op_sub (pv 4) (pv 6)) (pa_cons (pv 2) pa_nil))) pa_nil)) (by rfl))
  (pss_one (ps_if (pt_chain op_le op_lt (pv 7) (pv 5) (pe_op op_add (pv 7) (pv 8))) (pss_one (ps_par3 (by rfl) sc_chain_move.nd (i := 3) (j := 4) (l := 5) rfl rfl rfl (by decide) (by decide) (by decide) (by first | rfl | kernel_rfl) (by first | rfl | kernel_rfl) (by first | rfl | kernel_rfl) (pa_cons (pe_op op_add (pv 3) (pv 6)) (pa_cons (pe_op op_sub (pv 4) (pv 6)) (pa_cons (pe_op op_sub (pv 5) (pv 7)) pa_nil))) (by first | rfl | kernel_rfl)))
    (pss_one (ps_par (by rfl) sc_chain_move.nd (i := 4) (j := 5) rfl rfl (by decide) rfl rfl (pa_cons (pv 6) (pa_cons (pe_ifExp (pt_cmpR op_lt (pv 5) (pv 7) (nomark _)) (pv 5) (pe_op op_sub (pe_op op_sub (pe_op op_add (pe_op op_mul pe_int (pv 7)) (pv 8)) pe_int) (pv 5))) pa_nil)) (by rfl))))))))
  (pss_one (ps_ret (pv 3)))))), ?_⟩
      walk_at "sm"
      refine ⟨_, rfl, hx, fun n2 e1 _ _ H1 x1 => ?_, fun q => by rw [e] at q; cases q⟩
      cases e1
      obtain ⟨k3, k4⟩ := k2 n rfl (by omega) h2
      refine ⟨_, rfl, y, 0, _, rfl, hy.go x1, _, rfl, ?_⟩
      cases e2 : wiB y 0 ((Mv n : Int) - 1) with
      | false => exact iteT (k3 e2 H1 x1)
      | true =>
        obtain ⟨j, rfl, j1, j2⟩ := wi_int e2
        obtain ⟨k, rfl⟩ : ∃ k : Nat, j = k := ⟨j.toNat, by omega⟩
        have hk : k < Mv n := by omega
        have k5 := k4 k rfl hk
        refine iteF fun d hd => ⟨sz (by decide), fun t ht => ⟨_, SqT.of upd_same, rfl, _, _, rfl, _, _, rfl, _, _, rfl, _, _, rfl, rfl, ?_⟩⟩
        have := p30n h2
        refine ⟨ivMove (Cl n) d (.int n) (.int k) (Pm 0 n k) H, ⟨n, 0, n, k, none, none, none, rfl, rfl, by omega, by omega, Cl_self, hk, rfl, ⟨[], by rw [upd_ne (ne_of_none upd_same ht), upd_same]; rfl, .nil, by simp⟩, (x1.trans (Evl.Ex.new hd)).trans (Evl.Ex.new ht)⟩, ?_⟩
        rintro m σ H2 ⟨f, n1, k1, v1, v2, v3, rfl, rfl, l1, l2, l3, l4, l5, l6, l7⟩
        walk_at "sm"
        refine ite2 (fun q => ?_) (fun q => ?_)
        · refine ⟨fun σ' H' => ∃ m', m' < m ∧ ivMove (Cl n) d (.int n) (.int k) (Pm 0 n k) H m' σ' H', fun _ _ z => z, ?_⟩
          walk_at "sm"
          have pw : 2 * 2 ^ 99 = 2 ^ 100 := by decide
          have c2 := hC.2 m l3 (by omega)
          have e2 := Mv2 (show 2 ≤ m by omega)
          have mk : ∀ (f' n' k' : Nat) (i1 i2 i3 : Int) (b1 b2 b3 : V) (Hc : Hp), i1 = f' → i2 = n' → i3 = k' → n' < m → 1 ≤ n' → n' ∈ Cl n → k' < Mv n' → Pm f' n' k' = Pm f m k1 → MemoAt (Cl n) Hc d → Evl.Ex H Hc →
              ∃ m', m' < m ∧ ivMove (Cl n) d (.int n) (.int k) (Pm 0 n k) H m' [some (.int n), some (.int k), some (.ref d), some (.int i1), some (.int i2), some (.int i3), some b1, some b2, some b3] Hc := by
            rintro f' n' k' _ _ _ b1 b2 b3 Hc rfl rfl rfl g1 g2 g3 g4 g5 g6 g7
            exact ⟨n', g1, f', n', k', _, _, _, rfl, rfl, g2, by omega, g3, g4, g5.trans l5, g6, g7⟩
          refine ⟨by unfold CDiv; decide, m / 2, d, rfl, by omega, by omega, c2.1, l6, fun H3 f3 m3 => ?_⟩
          refine ⟨m - m / 2, d, by congr 2; omega, by omega, by omega, c2.2, m3, fun H4 f4 m4 => ?_⟩
          have hd2 := Evl.fresh_back x1 hd
          have x4 : Evl.Ex H H4 := fun b o h => f4 b o (ne_of_none h hd2) (f3 b o (ne_of_none h hd2) (l7 b o h))
          refine ⟨_, rfl, ite2 (fun q1 => ⟨_, rfl, _, rfl, ite2 (fun q2 => ⟨_, rfl, ?_⟩) (fun q2 => ⟨_, rfl, iteF' (by omega) ⟨_, rfl, .inl ⟨by omega, by omega⟩, _, rfl, ?_⟩⟩)⟩) (fun q1 => ⟨_, rfl, iteT' (by omega) ?_⟩)⟩
          · refine mk (f + m / 2) (m - m / 2) (k1 - Mv (m / 2)) _ _ _ _ _ _ _ (by omega) (by omega) (by omega) (by omega) (by omega) c2.2 (by omega) ?_ m4 x4
            rw [Pm_mi (n := m) (by omega) (by omega) (by omega)]
          · refine mk f (m / 2) (2 * Mv (m / 2) + Mv (m - m / 2) - 1 - k1) _ _ _ _ _ _ _ (by omega) (by omega) (by omega) (by omega) (by omega) c2.1 (by omega) ?_ m4 x4
            rw [Pm_hi (n := m) (by omega) (by omega)]
          · refine mk f (m / 2) k1 _ _ _ _ _ _ _ (by omega) (by omega) (by omega) (by omega) (by omega) c2.1 (by omega) ?_ m4 x4
            rw [Pm_lo (n := m) (by omega) (by omega)]
        · have : m = 1 := by omega
          subst this
          rw [Pm, dif_pos (by omega)] at l5
          rw [← l5] at k5
          exact k5 _ l7
end


theorem St_mi' {f n k : Nat} (h : 2 ≤ n) (h1 : Mv (n / 2) ≤ k) (h2 : k ≤ Mv (n / 2) + Mv (n - n / 2)) : St f n k = (f + n / 2 - 1) :: St (f + n / 2) (n - n / 2) (k - Mv (n / 2)) := by
  by_cases c2 : k = Mv (n / 2)
  · rw [St_lo h (by omega), c2, St_full _ _ (by omega), Nat.sub_self, St_zero]
  · rw [St_mi h (by omega) (by omega)]
theorem St_hi' {f n k : Nat} (h : 2 ≤ n) (h1 : Mv (n / 2) + Mv (n - n / 2) < k) : St f n k = St f (n / 2) (2 * Mv (n / 2) + Mv (n - n / 2) - k) ++ [f + n - 1] := by
  rw [St_hi h (by omega) (by omega)]
  congr 2; omega
theorem sorted_one : ∀ {xs ys : List Int}, xs.Perm ys → xs.Pairwise (· ≤ ·) → ys.Pairwise (· < ·) → xs = ys
  | [], ys, h, _, _ => by rw [List.Perm.nil_eq h]
  | x :: xs, ys, h, h1, h2 => by
    match ys, h, h2 with
    | [], h, _ => exact absurd h.length_eq (by simp)
    | y :: ys, h, h2 =>
      rw [List.pairwise_cons] at h1 h2
      have e : x = y := by
        have a : x ∈ y :: ys := h.mem_iff.mp List.mem_cons_self
        have b : y ∈ x :: xs := h.mem_iff.mpr List.mem_cons_self
        rcases List.mem_cons.mp a with a | a
        · exact a
        · rcases List.mem_cons.mp b with b | b
          · exact b.symm
          · have := h1.1 y b
            have := h2.1 x a
            omega
      subst e
      rw [sorted_one ((List.perm_cons x).mp h) h1.2 h2.2]
section
variable {P : Program} {w : World} {K : PySem.W.Frag} {mg : Str → Option Value} {base : Heap} {a : Ad}
def spStand (a : Ad) : Sp := fun vs H Q E => ∃ x y, vs = [x, y] ∧ PlainV H x ∧ PlainV H y ∧ (wiB x 1 (10 ^ 30) = false → E (.ref a.c_BadLength) none H) ∧
  (∀ n : Nat, x = .int n → 1 ≤ n → (n : Int) ≤ 10 ^ 30 → (wiB y 0 (Mv n) = false → ∀ H', Evl.Ex H H' → E (.ref a.c_BadNumber) none H') ∧ ∀ k : Nat, y = .int k → k ≤ Mv n → ∀ p H', Evl.Ex H H' → H' p = some (.tup ((St 0 n k).map fun z : Nat => V.int z)) → Q (.ref p) H')
def ivStand (C : List Nat) (d l : Addr) (x y : V) (L : List Nat) (H : Hp) : Nat → L2.St → Hp → Prop := fun m σ H' => ∃ (f k j : Nat) (xs : List Nat) (v1 v2 v3 : Option V), σ = [some x, some y, some (.ref d), some (.int f), some (.int m), some (.int k), some (.ref l), v1, v2, v3] ∧
  1 ≤ m ∧ m ≤ 2 ^ j ∧ xs.length + j ≤ 100 ∧ m ∈ C ∧ k ≤ Mv m ∧ (xs ++ St f m k).Perm L ∧ H' l = some (.lst ((xs.map fun z : Nat => (z : Int)).map V.int)) ∧ MemoAt C H' d ∧ Evl.Ex H H'
theorem ok_chain_standing (T : Txt K mg a) : FnOk P w K mg base (L2.CX P w) 111 a.f_chain_standing a.d_chain_standing ["length", "number"] (spStand a) := by
  refine T.F_chain_standing.okX sc_chain_standing (fun vs H Q E h => ?_) (fun cdv A outer s H vs Q E hr h => ?_)
  · obtain ⟨_, _, rfl, _⟩ := h
    rfl
  · obtain ⟨x, y, rfl, hx, hy, k1, k2⟩ := h
    cases e : wiB x 1 (10 ^ 30) with
    | false =>
      have ok_moves_of := fun (_ : Txt K mg a) => ok_mv0 (P := P) (w := w) (base := base) T
      refine ⟨_, (pss_cons (ps_if (pt_not (pt_val (pe_call (ok_is_within T) (hr.mono (by decide)) rfl T.m_is_within T.F_is_within.kp T.b_is_within .nil pass0 (pa_cons (pv 1) (pa_cons pe_int (pa_cons (pe_call (ok_chain_moves T) (hr.mono (by decide)) rfl T.m_chain_moves T.F_chain_moves.kp T.b_chain_moves .nil (passes_call (takes_of rfl rfl rfl rfl) (fun _ _ _ _ q => q)) (pa_cons (pv 0) pa_nil)) pa_nil)))))) (pss_one (ps_raise rfl (takes_of rfl rfl rfl rfl) (pmk_own0 PySem.F.excBase_ValueError T.q_BadNumber T.m_BadNumber T.k_BadNumber (raises_own T.sb_BadNumber T.ty_BadNumber) rfl)))
    pss_nil)
  (pss_cons (ps_asg (pe_tup (pa_cons pe_dnewK (pa_cons pe_int (pa_cons (pv 0) (pa_cons (pv 1) (pa_cons (pe_lst pa_nil) pa_nil)))))) (pg_tup rfl (pgs_cons (pg_name (i := 2) sc_chain_standing.nd rfl (by first | exact Or.inl rfl | exact Or.inr rfl)) (pgs_cons (pg_name (i := 3) sc_chain_standing.nd rfl (by first | exact Or.inl rfl | exact Or.inr rfl)) (pgs_cons (pg_name (i := 4) sc_chain_standing.nd rfl (by first | exact Or.inl rfl | exact Or.inr rfl)) (pgs_cons (pg_name (i := 5) sc_chain_standing.nd rfl (by first | exact Or.inl rfl | exact Or.inr rfl)) (pgs_cons (pg_name (i := 6) sc_chain_standing.nd rfl (by first | exact Or.inl rfl | exact Or.inr rfl)) pgs_nil)))))))
  (pss_cons (ps_while (passes_of rfl) (pt_cmpR op_gt (pv 4) pe_int (nomark _)) (pss_cons (ps_set (i := 7) sc_chain_standing.nd rfl (by first | exact Or.inl rfl | exact Or.inr rfl) (pe_op op_fdiv (pv 4) pe_int))
  (pss_cons (ps_par (by rfl) sc_chain_standing.nd (i := 8) (j := 9) rfl rfl (by decide) rfl rfl (pa_cons (pe_call (ok_moves_of T) (hr.mono (by decide)) rfl T.m_moves_of T.F_moves_of.kp T.b_moves_of .nil pass0 (pa_cons (pv 7) (pa_cons (pv 2) pa_nil))) (pa_cons (pe_call (ok_moves_of T) (hr.mono (by decide)) rfl T.m_moves_of T.F_moves_of.kp T.b_moves_of .nil pass0 (pa_cons (pe_op op_sub (pv 4) (pv 7)) (pa_cons (pv 2) pa_nil))) pa_nil)) (by rfl))
  (pss_one (ps_if (pt_chain op_le op_le (pv 8) (pv 5) (pe_op op_add (pv 8) (pv 9))) (pss_cons (ps_expr (pe_bm PySem.F.plainAttrs_list PySem.F.slot_list_append PySem.F.type_list_append mt_append (pv 6) (pa_cons (pe_op op_sub (pe_op op_add (pv 3) (pv 7)) pe_int) pa_nil)))
  (pss_one (ps_par3 (by rfl) sc_chain_standing.nd (i := 3) (j := 4) (l := 5) rfl rfl rfl (by decide) (by decide) (by decide) (by first | rfl | kernel_rfl) (by first | rfl | kernel_rfl) (by first | rfl | kernel_rfl) (pa_cons (pe_op op_add (pv 3) (pv 7)) (pa_cons (pe_op op_sub (pv 4) (pv 7)) (pa_cons (pe_op op_sub (pv 5) (pv 8)) pa_nil))) (by first | rfl | kernel_rfl))))
    (pss_one (ps_if (pt_cmpR op_lt (pv 5) (pv 8) (nomark _)) (pss_one (ps_set (i := 4) sc_chain_standing.nd rfl (by first | exact Or.inl rfl | exact Or.inr rfl) (pv 7)))
    (pss_cons (ps_expr (pe_bm PySem.F.plainAttrs_list PySem.F.slot_list_append PySem.F.type_list_append mt_append (pv 6) (pa_cons (pe_op op_sub (pe_op op_add (pv 3) (pv 4)) pe_int) pa_nil)))
  (pss_one (ps_par (by rfl) sc_chain_standing.nd (i := 4) (j := 5) rfl rfl (by decide) rfl rfl (pa_cons (pv 7) (pa_cons (pe_op op_sub (pe_op op_add (pe_op op_mul pe_int (pv 8)) (pv 9)) (pv 5)) pa_nil)) (by rfl)))))))))))
  (pss_one (ps_ret (pe_callTy call_tuple_of (by rfl) T.z_tuple (by decide +kernel) (pa_cons (pe_callB cr_sortedI (by rfl) T.z_sorted (by decide +kernel) (pa_cons (pe_op op_cat (pv 6) (pe_op op_rep (pe_lst (pa_cons (pv 3) pa_nil)) (pv 5))) pa_nil)) pa_nil))))))), ?_⟩
      walk_at "sm"
      refine ⟨x, rfl, hx, fun n e1 h1 h2 => ?_, fun _ => k1 e⟩
      rw [e1, wi_of (by omega) h2] at e
      cases e
    | true =>
      obtain ⟨i, rfl, h1, h2⟩ := wi_int e
      obtain ⟨n, rfl⟩ : ∃ n : Nat, i = n := ⟨i.toNat, by omega⟩
      have ok_moves_of := fun (_ : Txt K mg a) => ok_mv (P := P) (w := w) (base := base) T (Cl_closed (p30n h2)) 100
      have hC := Cl_closed (p30n h2)
      refine ⟨_, (pss_cons (ps_if (pt_not (pt_val (pe_call (ok_is_within T) (hr.mono (by decide)) rfl T.m_is_within T.F_is_within.kp T.b_is_within .nil pass0 (pa_cons (pv 1) (pa_cons pe_int (pa_cons (pe_call (ok_chain_moves T) (hr.mono (by decide)) rfl T.m_chain_moves T.F_chain_moves.kp T.b_chain_moves .nil (passes_call (takes_of rfl rfl rfl rfl) (fun _ _ _ _ q => q)) (pa_cons (pv 0) pa_nil)) pa_nil)))))) (pss_one (ps_raise rfl (takes_of rfl rfl rfl rfl) (pmk_own0 PySem.F.excBase_ValueError T.q_BadNumber T.m_BadNumber T.k_BadNumber (raises_own T.sb_BadNumber T.ty_BadNumber) rfl)))
    pss_nil)
  (pss_cons (ps_asg (pe_tup (pa_cons pe_dnewK (pa_cons pe_int (pa_cons (pv 0) (pa_cons (pv 1) (pa_cons (pe_lst pa_nil) pa_nil)))))) (pg_tup rfl (pgs_cons (pg_name (i := 2) sc_chain_standing.nd rfl (by first | exact Or.inl rfl | exact Or.inr rfl)) (pgs_cons (pg_name (i := 3) sc_chain_standing.nd rfl (by first | exact Or.inl rfl | exact Or.inr rfl)) (pgs_cons (pg_name (i := 4) sc_chain_standing.nd rfl (by first | exact Or.inl rfl | exact Or.inr rfl)) (pgs_cons (pg_name (i := 5) sc_chain_standing.nd rfl (by first | exact Or.inl rfl | exact Or.inr rfl)) (pgs_cons (pg_name (i := 6) sc_chain_standing.nd rfl (by first | exact Or.inl rfl | exact Or.inr rfl)) pgs_nil)))))))
  (pss_cons (ps_while (passes_of rfl) (pt_cmpR op_gt (pv 4) pe_int (nomark _)) (pss_cons (ps_set (i := 7) sc_chain_standing.nd rfl (by first | exact Or.inl rfl | exact Or.inr rfl) (pe_op op_fdiv (pv 4) pe_int))
  (pss_cons (ps_par (by rfl) sc_chain_standing.nd (i := 8) (j := 9) rfl rfl (by decide) rfl rfl (pa_cons (pe_call (ok_moves_of T) (hr.mono (by decide)) rfl T.m_moves_of T.F_moves_of.kp T.b_moves_of .nil pass0 (pa_cons (pv 7) (pa_cons (pv 2) pa_nil))) (pa_cons (pe_call (ok_moves_of T) (hr.mono (by decide)) rfl T.m_moves_of T.F_moves_of.kp T.b_moves_of .nil pass0 (pa_cons (pe_op op_sub (pv 4) (pv 7)) (pa_cons (pv 2) pa_nil))) pa_nil)) (by rfl))
  (pss_one (ps_if (pt_chain op_le op_le (pv 8) (pv 5) (pe_op op_add (pv 8) (pv 9))) (pss_cons (ps_expr (pe_bm PySem.F.plainAttrs_list PySem.F.slot_list_append PySem.F.type_list_append mt_append (pv 6) (pa_cons (pe_op op_sub (pe_op op_add (pv 3) (pv 7)) pe_int) pa_nil)))
  (pss_one (ps_par3 (by rfl) sc_chain_standing.nd (i := 3) (j := 4) (l := 5) rfl rfl rfl (by decide) (by decide) (by decide) (by first | rfl | kernel_rfl) (by first | rfl | kernel_rfl) (by first | rfl | kernel_rfl) (pa_cons (pe_op op_add (pv 3) (pv 7)) (pa_cons (pe_op op_sub (pv 4) (pv 7)) (pa_cons (pe_op op_sub (pv 5) (pv 8)) pa_nil))) (by first | rfl | kernel_rfl))))
    (pss_one (ps_if (pt_cmpR op_lt (pv 5) (pv 8) (nomark _)) (pss_one (ps_set (i := 4) sc_chain_standing.nd rfl (by first | exact Or.inl rfl | exact Or.inr rfl) (pv 7)))
    (pss_cons (ps_expr (pe_bm PySem.F.plainAttrs_list PySem.F.slot_list_append PySem.F.type_list_append mt_append (pv 6) (pa_cons (pe_op op_sub (pe_op op_add (pv 3) (pv 4)) pe_int) pa_nil)))
  (pss_one (ps_par (by rfl) sc_chain_standing.nd (i := 4) (j := 5) rfl rfl (by decide) rfl rfl (pa_cons (pv 7) (pa_cons (pe_op op_sub (pe_op op_add (pe_op op_mul pe_int (pv 8)) (pv 9)) (pv 5)) pa_nil)) (by rfl)))))))))))
  (pss_one (ps_ret (pe_callTy call_tuple_of (by rfl) T.z_tuple (by decide +kernel) (pa_cons (pe_callB cr_sortedI (by rfl) T.z_sorted (by decide +kernel) (pa_cons (pe_op op_cat (pv 6) (pe_op op_rep (pe_lst (pa_cons (pv 3) pa_nil)) (pv 5))) pa_nil)) pa_nil))))))), ?_⟩
      walk_at "sm"
      refine ⟨_, rfl, hx, fun n2 e1 _ _ H1 x1 => ?_, fun q => by rw [e] at q; cases q⟩
      cases e1
      obtain ⟨k3, k4⟩ := k2 n rfl (by omega) h2
      refine ⟨y, 0, _, rfl, hy.go x1, _, rfl, ?_⟩
      cases e2 : wiB y 0 (Mv n : Int) with
      | false => exact iteT (k3 e2 H1 x1)
      | true =>
        obtain ⟨j, rfl, j1, j2⟩ := wi_int e2
        obtain ⟨k, rfl⟩ : ∃ k : Nat, j = k := ⟨j.toNat, by omega⟩
        have hk : k ≤ Mv n := by omega
        have k5 := k4 k rfl hk
        refine iteF fun d hd => ⟨sz (by decide), fun l hl => ⟨sz (by decide), fun t ht => ⟨_, SqT.of upd_same, rfl, _, _, rfl, _, _, rfl, _, _, rfl, _, _, rfl, _, _, rfl, rfl, ?_⟩⟩⟩
        have := p30n h2
        have ndl : d ≠ l := ne_of_none upd_same hl
        have hd2 := Evl.fresh_back x1 hd
        have hl1 : H1 l = none := by rw [upd_ne (Ne.symm ndl)] at hl; exact hl
        have hl2 := Evl.fresh_back x1 hl1
        refine ⟨ivStand (Cl n) d l (.int n) (.int k) (St 0 n k) H, ⟨n, 0, k, 100, [], none, none, none, rfl, by omega, by omega, by show 0 + 100 ≤ 100; omega, Cl_self, hk, .refl _, ?_, ⟨[], ?_, .nil, by simp⟩, ((x1.trans (Evl.Ex.new hd)).trans (Evl.Ex.new hl)).trans (Evl.Ex.new ht)⟩, ?_⟩
        · rw [upd_ne (ne_of_none upd_same ht), upd_same]; rfl
        · rw [upd_ne (ne_of_none (by rw [upd_ne ndl, upd_same]) ht), upd_ne ndl, upd_same]; rfl
        rintro m σ H2 ⟨f, k1, j, xs, v1, v2, v3, rfl, l1, l2, l2b, l3, l4, l5, l6, l7, l8⟩
        walk_at "sm"
        refine ite2 (fun q => ?_) (fun q => ?_)
        · refine ⟨fun σ' H' => ∃ m', m' < m ∧ ivStand (Cl n) d l (.int n) (.int k) (St 0 n k) H m' σ' H', fun _ _ z => z, ?_⟩
          walk_at "sm"
          obtain ⟨j, rfl⟩ : ∃ j', j = j' + 1 := ⟨j - 1, by
            have : j ≠ 0 := by
              rintro rfl
              simp at l2
              omega
            omega⟩
          have p2 : 2 ^ (j + 1) = 2 * 2 ^ j := by rw [Nat.pow_succ]; omega
          have c2 := hC.2 m l3 (by omega)
          have e2 := Mv2 (show 2 ≤ m by omega)
          have pj : 2 ^ (j + 1) ≤ 2 ^ 100 := Nat.pow_le_pow_right (by decide) (by omega)
          have pw : 2 * 2 ^ 99 = 2 ^ 100 := by decide
          have mk : ∀ (f' m' k' : Nat) (xs' : List Nat) (i1 i2 i3 : Int) (b1 b2 b3 : V) (Hc : Hp), i1 = f' → i2 = m' → i3 = k' → m' < m → 1 ≤ m' → 2 * m' ≤ m + 1 → xs'.length ≤ xs.length + 1 → m' ∈ Cl n → k' ≤ Mv m' → (xs' ++ St f' m' k').Perm (xs ++ St f m k1) → Hc l = some (.lst ((xs'.map fun z : Nat => (z : Int)).map V.int)) → MemoAt (Cl n) Hc d → Evl.Ex H Hc →
              ∃ m', m' < m ∧ ivStand (Cl n) d l (.int n) (.int k) (St 0 n k) H m' [some (.int n), some (.int k), some (.ref d), some (.int i1), some (.int i2), some (.int i3), some (.ref l), some b1, some b2, some b3] Hc := by
            rintro f' m' k' xs' _ _ _ b1 b2 b3 Hc rfl rfl rfl g1 g2 g3 g4 g5 g6 g7 g8 g9 g10
            exact ⟨m', g1, f', k', j, xs', _, _, _, rfl, g2, by omega, by omega, g5, g6, g7.trans l5, g8, g9, g10⟩
          refine ⟨by unfold CDiv; decide, m / 2, d, rfl, by omega, by omega, c2.1, l7, fun H3 f3 m3 => ?_⟩
          refine ⟨m - m / 2, d, by congr 2; omega, by omega, by omega, c2.2, m3, fun H4 f4 m4 => ?_⟩
          have x4 : Evl.Ex H H4 := fun b o h => f4 b o (ne_of_none h hd2) (f3 b o (ne_of_none h hd2) (l8 b o h))
          have y4 : H4 l = some (.lst ((xs.map fun z : Nat => (z : Int)).map V.int)) := f4 _ _ (Ne.symm ndl) (f3 _ _ (Ne.symm ndl) l6)
          have yl : ((xs.map fun z : Nat => (z : Int)).map V.int).length < sizeLine := by
            rw [List.length_map, List.length_map]
            exact Nat.lt_of_lt_of_le (by omega : xs.length < 300) (by decide)
          have hi : Mv (m / 2) + Mv (m - m / 2) < k1 → rAppend (V.ref l) [V.int ((f : Int) + m - 1)] H4 fun x_3 H1 => ∃ x_4, V.int (Mv (m / 2) : Int) = V.int x_4 ∧ CMul 2 x_4 ∧ ∃ x_5, V.int (Mv (m - m / 2) : Int) = V.int x_5 ∧
              ∃ m', m' < m ∧ ivStand (Cl n) d l (.int n) (.int k) (St 0 n k) H m' [some (.int n), some (.int k), some (.ref d), some (.int f), some (.int ((m : Int) / 2)), some (.int (2 * x_4 + x_5 - (k1 : Int))), some (.ref l), some (.int ((m : Int) / 2)), some (.int (Mv (m / 2) : Int)), some (.int (Mv (m - m / 2) : Int))] H1 := by
            intro q2
            refine ⟨l, _, _, rfl, rfl, y4, yl, _, rfl, .inl ⟨by omega, by omega⟩, _, rfl, ?_⟩
            refine mk f (m / 2) (2 * Mv (m / 2) + Mv (m - m / 2) - k1) (xs ++ [f + m - 1]) _ _ _ _ _ _ _ rfl (by omega) (by omega) (by omega) (by omega) (by omega) (by rw [List.length_append]; exact Nat.le_refl _) c2.1 (by omega) ?_ ?_ (m4.upd ndl) (x4.mut hl2)
            · rw [St_hi' (n := m) (by omega) q2, List.append_assoc]
              exact (List.perm_append_comm).append_left xs
            · rw [upd_same, List.map_append, List.map_append]
              have : (f : Int) + m - 1 = ((f + m - 1 : Nat) : Int) := by omega
              rw [this]; rfl
          refine ⟨_, rfl, ite2 (fun q1 => ⟨_, rfl, _, rfl, ite2 (fun q2 => ⟨.inl ⟨rfl, _, SqL.of y4⟩, l, _, _, rfl, rfl, y4, yl, _, rfl, ?_⟩) (fun q2 => ⟨_, rfl, iteF' (by omega) ⟨.inl ⟨rfl, _, SqL.of y4⟩, hi (by omega)⟩⟩)⟩) (fun q1 => ⟨_, rfl, iteT' (by omega) ?_⟩)⟩
          · refine mk (f + m / 2) (m - m / 2) (k1 - Mv (m / 2)) (xs ++ [f + m / 2 - 1]) _ _ _ _ _ _ _ (by omega) (by omega) (by omega) (by omega) (by omega) (by omega) (by rw [List.length_append]; exact Nat.le_refl _) c2.2 (by omega) ?_ ?_ (m4.upd ndl) (x4.mut hl2)
            · rw [St_mi' (n := m) (by omega) (by omega) (by omega), List.append_assoc]
              exact .refl _
            · rw [upd_same, List.map_append, List.map_append]
              have : (f : Int) + m / 2 - 1 = ((f + m / 2 - 1 : Nat) : Int) := by omega
              rw [this]; rfl
          · refine mk f (m / 2) k1 xs _ _ _ _ _ _ _ rfl (by omega) rfl (by omega) (by omega) (by omega) (by omega) c2.1 (by omega) ?_ y4 m4 x4
            rw [St_lo (n := m) (by omega) (by omega)]
        · have : m = 1 := by omega
          subst this
          rw [Mv1 (by omega)] at l4
          rw [St1 (by omega)] at l5
          refine ⟨sz (by decide), fun p hp => ⟨p, _, _, rfl, rfl, upd_same, by omega, by omega, ?_, fun p2 hp2 => ?_⟩⟩
          · show 1 * (k1 : Int).toNat ≤ sizeLine
            exact sz (by omega)
          have e3 : (List.replicate (k1 : Int).toNat [V.int (f : Int)]).flatten = ((if k1 = 1 then [f] else []).map fun z : Nat => (z : Int)).map V.int := by
            rcases (show k1 = 0 ∨ k1 = 1 by omega) with rfl | rfl <;> rfl
          rw [e3]
          have n1 : l ≠ p := ne_of_none l6 hp
          have hp2' : H2 p2 = none := Evl.fresh_back (Evl.Ex.new hp) hp2
          have n2 : l ≠ p2 := ne_of_none l6 hp2'
          refine ⟨l, p2, _, _, rfl, rfl, by rw [upd_ne n2, upd_ne n1]; exact l6, upd_same, ?_, fun p3 hp3 => ?_⟩
          · rw [List.length_map, List.length_map, List.length_map, List.length_map]
            refine sz ?_
            split
            · show xs.length + 1 ≤ 100000; omega
            · show xs.length + 0 ≤ 100000; omega
          refine ⟨p3, (xs ++ if k1 = 1 then [f] else []).map fun z : Nat => (z : Int), rfl, ?_, fun ns' p4 h1 h2 hp4 => ?_⟩
          · rw [List.map_append, List.map_append]; exact SqL.of upd_same
          refine ⟨p4, rfl, _, .inl ⟨SqL.of upd_same, fun p5 hp5 => k5 p5 _ (((((l8.trans (Evl.Ex.new hp)).trans (Evl.Ex.new hp2)).trans (Evl.Ex.new hp3)).trans (Evl.Ex.new hp4)).trans (Evl.Ex.new hp5)) ?_⟩⟩
          have e4 : ns' = (St 0 n k).map fun z : Nat => (z : Int) := by
            refine sorted_one (h1.trans (l5.map _)) h2 ?_
            rw [List.pairwise_map]
            exact (St_sorted n 0 k (by omega)).imp fun h => by exact_mod_cast h
          rw [upd_same, e4, List.map_map]
          rfl
end


/-! ### enumerate(t), t a tuple -/
set_option maxHeartbeats 4000000 in
theorem newEnum1 {v : Value} {o : Obj} {J : Heap → Prop} (B : Begins v o J) :
    Meets (Builtin.«enumerate.__new__» ⟨[.type "enumerate", v], []⟩) (fun _ R s => J s.heap ∧
      R (.ok (.ret (.ref (s.heap.push o).objs.size))) { s with heap := (s.heap.push o).push { cls := .type "enumerate", data := .fields #[.none, .bool false, .ref s.heap.objs.size, rawInt 0, .none, .none] } }) :=
  .of_wp fun prog w A R s h => by
    obtain ⟨hp, g, d, tk, os⟩ := s
    obtain ⟨h1, h⟩ := h
    have hsub := sub_enumerate
    have go : ∀ {A1 : Around} {E1 : Value → Shared → Prop} {Q1 : Value → Shared → Prop}, Q1 (.ref hp.objs.size) ⟨hp.push o, g, d, tk, os⟩ → wpAny (model prog w) A1 (pyIter v) Q1 E1 ⟨hp, g, d, tk, os⟩ := fun q => B.iter prog w _ _ ⟨hp, g, d, tk, os⟩ _ h1 q
    wp_walk using go
    refine wpAny_stack_any fun st => wpAny_pure ?_
    split
    · rename_i c _ _ _ _ _
      cases (c == Value.type "enumerate") <;> (wp_walk using go; exact ⟨_, rfl, h⟩)
    · wp_walk using go
      exact ⟨_, rfl, h⟩
theorem callEnum1 {prog : Program} {w : World} {A : Around} {E : Value → Shared → Prop} {s : Shared} {v : Value} {o : Obj} {J : Heap → Prop} {Q : Value → Shared → Prop} (B : Begins v o J) (h1 : J s.heap)
    (h : ∀ h2, IsEnum h2 (s.heap.objs.size + 1) s.heap.objs.size 0 .none → h2.get? s.heap.objs.size = some o → (∀ b u, s.heap.get? b = some u → h2.get? b = some u) → Q (.ref (s.heap.objs.size + 1)) { s with heap := h2 }) :
    wpAny (model prog w) A (call (.type "enumerate") [v]) Q E s := by
  refine callType_new F.called_enumerate (by decide) (F.typeCall_enumerate_1 _) (F.newCall_enumerate_1 _) (fun obj => F.args_object_init_2 obj _) F.entry_enumerate_new (newEnum1 B) ⟨h1, ?_⟩
  have hz : (s.heap.push o).objs.size = s.heap.objs.size + 1 := Heap.size_push ..
  have he := Heap.get?_push_size (s.heap.push o) (o := { cls := .type "enumerate", data := .fields #[.none, .bool false, .ref s.heap.objs.size, rawInt 0, .none, .none] }) rfl
  show _ ∧ _
  rw [hz] at he ⊢
  exact ⟨⟨_, he, rfl⟩, h _ he (Heap.get?_push_of_some _ (Heap.get?_push_size _ B.free)) fun b u x => Heap.get?_push_of_some _ (Heap.get?_push_of_some _ x)⟩
def ItT (K : PySem.W.Frag) (a : Addr) : It where
  go i H := ∃ (xs : List V) (x : V), SqT K H a xs ∧ xs[i]? = some x
  yld i H v H' := ∃ T x, v = .ref T ∧ H T = none ∧ H' = upd H T (.tup [.int (i : Nat), x]) ∧ ∀ xs, SqT K H a xs → xs[i]? = some x
  stop i H := ∃ xs : List V, SqT K H a xs ∧ xs.length = i
theorem tup_ne {h : Heap} {a it : Addr} {i : Nat} {its : Array Value} (p : IsTup h a its) (q : h.IsTupleIter it a i) : a ≠ it := fun z => by
  subst z
  obtain ⟨o, e1, c1, _⟩ := p
  obtain ⟨o2, e2, c2, _⟩ := q
  rw [e1] at e2
  cases e2
  rw [c1] at c2
  injection c2 with c3
  exact absurd c3 (by decide)
theorem turn_enumT {P : Program} {w : World} {K : PySem.W.Frag} {elts : List Expr} {kk : Nat} {tpos : Pos} (a e it : Addr) :
    Turn P w K (.Tuple elts kk tpos) (ItT K a) [e, it] e (fun i h => (∃ old, IsEnum h e it ((i : Nat) : Int) old) ∧ h.IsTupleIter it a i ∧ e ≠ it) where
  mem := List.mem_cons_self
  obj := fun i h z b hb => by
    obtain ⟨⟨old, he⟩, ⟨o, ho, hc, hd⟩, _⟩ := z
    rcases List.mem_cons.mp hb with rfl | hb
    · exact ⟨_, he, fun v q => by cases q⟩
    · rw [List.mem_singleton.mp hb]; exact ⟨o, ho, fun v q => by rw [hd] at q; cases q⟩
  keep := fun i h h2 z k => by
    obtain ⟨⟨old, he⟩, hi, hne⟩ := z
    exact ⟨⟨old, k e (by simp) _ he⟩, hi.at fun o q => k it (by simp) o q, hne⟩
  item := by
    rintro X rfl rfl rfl hc i pins s σ H E I hf z ⟨xs, x, hq, hx⟩
    obtain ⟨⟨old, he⟩, hit, hne⟩ := z
    obtain ⟨its, rv, p, hz⟩ := I.tuple hq
    obtain ⟨u, hu, ru⟩ := rv.get hx
    have hil : i < its.toArray.size := by rw [List.size_toArray]; exact (List.getElem?_eq_some_iff.mp hu).1
    have hai := tup_ne p hit
    have D := Draws.tuple (prog := X.prog) (w := X.w) (A := X.A.in1) (I.ok.hd hc) it a hai its.toArray
    have hea : e ≠ a := fun q => by
      obtain ⟨o, e1, c1, _⟩ := p
      rw [← q, show s.heap.get? e = _ from he] at e1
      cases e1
      injection c1 with c3
      exact absurd c3 (by decide)
    refine wpAny_pyNext_enum_itemC D he ⟨hit, p⟩ hil hne (by simp [hne, hea]) fun y h2 tk hP ho hst hT hsz hk => ?_
    have ey : y = u := by
      have hP2 : its.toArray[i]? = some y := hP
      rw [List.getElem?_toArray, hu] at hP2
      exact (Option.some.inj hP2).symm
    subst ey
    have hel : e < s.heap.objs.size := Heap.lt_size he
    have hil2 : it < s.heap.objs.size := by obtain ⟨_, q, _⟩ := hit; exact Heap.lt_size q
    refine ⟨_, rfl, wpAny_letOwnedTupleGo_enum (s := { s with heap := h2, toks := tk + 1 }) ho fun h3 he3 sb => ?_⟩
    have hT2 := (sb.2 _ (Nat.ne_of_gt hel)).trans hT
    have nw : ObjOk X.prog X.w (upd H s.heap.objs.size (.tup [.int (i : Nat), x])) h3 s.heap.objs.size (.tup [.int (i : Nat), x]) := ⟨by show 2 ≤ sizeLine; decide, [.int i tk, y], .cons ⟨_, rfl⟩ (.cons ru .nil), ⟨_, hT2, rfl, _, rfl⟩⟩
    have I1 : Inv X pins σ (upd H s.heap.objs.size (.tup [.int (i : Nat), x])) { s with heap := h3, toks := tk + 1 } :=
      I.turnedNew (ch := [e, it]) (fun b ob hb q => (sb.2 b fun z => hb (by simp [z])).trans (hk b ob (fun z => hb (by simp [z])) (fun z => hb (by simp [z])) q)) hf (Nat.le_refl _) nw
    refine ⟨.ref s.heap.objs.size, _, I1, rfl, ⟨_, x, rfl, I.hok.fresh (Nat.le_refl _), rfl, fun ys hy => by rw [I.tuple_inj hy hq]; exact hx⟩, ⟨⟨y, ?_⟩, hst.1.at fun o q => (sb.2 it (Ne.symm hne)).trans q, hne⟩, fun b hb => ?_⟩
    · rw [show ((i + 1 : Nat) : Int) = (i : Int) + 1 by omega]
      exact he3
    · have hb2 : b < s.heap.objs.size := by
        rcases List.mem_cons.mp hb with rfl | hb1
        · exact hel
        · rw [List.mem_singleton.mp hb1]; exact hil2
      rw [upd_ne (Nat.ne_of_lt hb2)]
      exact (hf b hb).1
  done := by
    rintro X rfl rfl rfl hc i pins s σ H E I hf z ⟨xs, hq, hx⟩
    obtain ⟨⟨old, he⟩, hit, hne⟩ := z
    obtain ⟨its, rv, p, hz⟩ := I.tuple hq
    obtain ⟨f0, f1, f2, f3, f4, f5⟩ := hf it (by simp)
    have hl := rv.length
    have hn : its.toArray.size = i := by rw [List.size_toArray, ← hl]; exact hx
    have D := Draws.tuple (prog := X.prog) (w := X.w) (A := X.A.in1) (I.ok.hd hc) it a (tup_ne p hit) its.toArray
    exact wpAny_pyNext_enum_endD D he (by rw [hn]; exact ⟨hit, p⟩) fun h2 kx => ⟨rfl, I.turned (t' := s.toks) (fun b o hb q => kx b o hb q) f0 f1 f3 f4 f5⟩
  self := fun A i s Q E z h => wpAny_pyIter_enum z.1.choose_spec h
def iEnumT (K : PySem.W.Frag) (ta : TA) : TI := fun σ H R => ta σ H fun vs H1 => ∃ a xs, vs = [.ref a] ∧ SqT K H1 a xs ∧ R (ItT K a) H1
theorem pi_enumT {X : Cx} {e : Expr} {ta : TA} {p pos tpos : Pos} {elts : List Expr} {kk : Nat} (hg : Gl X "enumerate") (hm : X.mg "enumerate" = none) (ha : PA X [e] ta) (hs : starEach [e] X.env = [(false, eval e X.env)] := by rfl) :
    PI X (.Tuple elts kk tpos) (.Call (.Name "enumerate" p) [e] [] pos) (iEnumT X.K ta) := by
  refine ⟨fun pins s σ H R I h => Call_ (ld_blt I hg hm boot_enumerate (PyProof.Rows.callWith_type1 (thn (ha.run pos pins s σ H _ I h) fun us s1 ⟨vs, H1, I1, r1, a, xs, ex, hq, q⟩ => ?_) hs rfl))⟩
  subst ex
  cases r1 with
  | cons r rr =>
    cases rr
    cases r
    obtain ⟨its, rv, p2, hz⟩ := I1.tuple hq
    refine callEnum1 (begins_tuple a its.toArray) p2 fun h2 he hit hk => wpAny_pyIter_enum he ?_
    have I2 : Inv X pins σ H1 { s1 with heap := h2 } := I1.kept (t' := s1.toks) hk
    refine ⟨s1.heap.objs.size + 1, [s1.heap.objs.size + 1, s1.heap.objs.size], _, _, H1, rfl, I2, turn_enumT a (s1.heap.objs.size + 1) s1.heap.objs.size, ⟨⟨.none, he⟩, ⟨_, hit, rfl, rfl⟩, Nat.succ_ne_self _⟩, fun b hb => ?_, q⟩
    have hle : s1.heap.objs.size ≤ b := by
      rcases List.mem_cons.mp hb with rfl | hb1
      · exact Nat.le_add_right _ _
      · rw [List.mem_singleton.mp hb1]; exact Nat.le_refl _
    exact I1.fpOk hle (I1.hok.fresh hle)
theorem for_en {J : It} {n : Nat} {g : TG} {tb : TS} {D : Ends} {σ : L2.St} {H : Hp} (Pv : Nat → L2.St → Hp → Prop) (h0 : Pv 0 σ H) (hgo : ∀ i σ H, i < n → Pv i σ H → J.go i H) (hstop : ∀ σ H, Pv n σ H → J.stop n H)
    (hs : ∀ i σ H x H1, i < n → Pv i σ H → J.yld i H x H1 → g x σ H1 fun σ2 H2 => tb { D with nx := Pv (i + 1), ct := Pv (i + 1), bk := D.nx } σ2 H2) (hd : ∀ σ H, Pv n σ H → D.nx σ H) :
    ∃ W : Nat → Nat → L2.St → Hp → Prop, (∃ m, W 0 m σ H) ∧ ∀ i m σ H, W i m σ H →
      (J.stop i H ∧ D.nx σ H) ∨ (J.go i H ∧ ∃ N : L2.St → Hp → Prop, (∀ σ1 H1, N σ1 H1 → ∃ m1, m1 < m ∧ W (i + 1) m1 σ1 H1) ∧ ∀ x H1, J.yld i H x H1 → g x σ H1 fun σ2 H2 => tb { D with nx := N, ct := N, bk := D.nx } σ2 H2) := by
  refine ⟨fun i m σ H => m = n - i ∧ i ≤ n ∧ Pv i σ H, ⟨n, rfl, Nat.zero_le _, h0⟩, ?_⟩
  rintro i m σ H ⟨rfl, hi, pv⟩
  rcases Nat.lt_or_eq_of_le hi with hl | rfl
  · exact .inr ⟨hgo i σ H hl pv, Pv (i + 1), fun σ1 H1 q => ⟨n - (i + 1), by omega, rfl, hl, q⟩, fun x H1 y => hs i σ H x H1 hl pv y⟩
  · exact .inl ⟨hstop σ H pv, hd σ H pv⟩
/-! ### the inputs that are checked -/
/-! ### sorted(t), t a tuple -/
open PyProof.Rows in
theorem collect_tup {prog : Program} {w : World} {A : Around} {E : Value → Shared → Prop} {s : Shared} {l : Addr} {vs : List Value} {Q : List Value → Shared → Prop} (hl : PyProof.Rows.IsTup s.heap l vs.toArray)
    (h : Q vs { s with heap := (s.heap.push (PyProof.Rows.seqObj "list" #[] 0)).update s.heap.objs.size (Obj.mapSeq fun x => x ++ vs.toArray) }) (hsz : vs.length ≤ sizeLine) : wpAny (model prog w) A (collect (.ref l)) Q E s := by
  obtain ⟨o, ho, hc, n, hd⟩ := hl
  refine wpAny_bind (wpAny_runValue (codeAny_builtin PyProof.Rows.entry_proto_collect' ?_))
  unfold Builtin.«proto.collect»
  refine wpAny_bind (wpAny_newList (wpAny_pure ⟨Code.quiet_builtin _ (by decide +kernel), codeAny_builtin PyProof.Rows.entry_list_iadd' ?_⟩) (Nat.zero_le _))
  have ho' := Heap.get?_push_of_some (PyProof.Rows.seqObj "list" #[] 0) ho
  unfold Builtin.«list.__iadd__»
  show wpAny _ _ (bind (typeOf (.ref l)) _) _ _ _
  refine wpAny_bind (wpAny_typeOf (v := .ref l) ⟨o, ho', hc⟩ ?_)
  rw [if_pos (by simp)]
  refine wpAny_bind (PyProof.Rows.listItems_at ho' hd (wpAny_bind (PyProof.Rows.listItems_at (Heap.get?_push_size s.1 rfl) rfl ?_)))
  rw [if_neg (by simp)]
  refine wpAny_bind (PyProof.Rows.listUpdate_at (Heap.get?_push_size s.1 rfl) rfl (wpAny_pure ?_) (Nat.zero_le _) (by simp; omega))
  show wpAny _ _ _ _ _ _
  refine wpAny_bind (wpAny_load (PyProof.Rows.get?_update_seq (Heap.get?_push_size s.1 rfl) fun x => x ++ vs.toArray) ?_)
  show wpAny _ _ (pure ((#[] : Array Value) ++ vs.toArray).toList) _ _ _
  rw [show ((#[] : Array Value) ++ vs.toArray).toList = vs by simp]
  exact wpAny_pure h
theorem sorted_ordT {prog : Program} {w : World} {A : Around} {E : Value → Shared → Prop} {s : Shared} {l : Addr} {vs : List Value} {ltv : Value → Value → Bool} {Q : Value → Shared → Prop} (O : SrtO.Swo ltv) (hl : PyProof.Rows.IsTup s.heap l vs.toArray) (hz : vs.length ≤ sizeLine)
    (hS : 2 ≤ vs.length → ∀ (h₁ : Heap) (a : Addr), h₁.get? a = some (PyProof.Rows.seqObj "list" vs.toArray 0) → (∀ (b : Addr) (o : Obj), s.heap.get? b = some o → b ≠ a ∧ h₁.get? b = some o) →
      SrtO.SortableO prog w A.in1.in1 { heap := h₁, gens := s.gens, drawn := s.drawn, toks := s.toks, os := s.os } a vs ltv)
    (h : ∀ (out : List Value), SrtO.Srtd ltv out → SrtO.Stb ltv out vs → Q (Value.ref (s.heap.objs.size + 1)) { heap := PyProof.Rows.sortedAll s.heap vs out.toArray, gens := s.gens, drawn := s.drawn, toks := s.toks, os := s.os }) :
    wpAny (model prog w) A (call (Value.builtin "sorted") [Value.ref l]) Q E s := by
  refine Calls.call_function_entry PyProof.Rows.kind_sorted PyProof.Rows.plain_sorted PyProof.Rows.entry_sorted (PyProof.Rows.args_sorted1 (Value.ref l)) ?_
  refine wpAny_bind (wpAny_pure (wpAny_bind (collect_tup hl ?_ hz)))
  refine wpAny_bind (wpAny_newList ?_ hz)
  have hsz : ((s.heap.push (PyProof.Rows.seqObj "list" #[] 0)).update s.heap.objs.size (Obj.mapSeq fun x => x ++ vs.toArray)).objs.size = s.heap.objs.size + 1 := by
    rw [Heap.size_update, PyProof.Rows.size_push']
  have hoL : (((s.heap.push (PyProof.Rows.seqObj "list" #[] 0)).update s.heap.objs.size (Obj.mapSeq fun x => x ++ vs.toArray)).push (PyProof.Rows.seqObj "list" vs.toArray 0)).get? (s.heap.objs.size + 1) = some (PyProof.Rows.seqObj "list" vs.toArray 0) := by
    rw [← hsz]
    exact Heap.get?_push_size _ rfl
  have keep : ∀ (b : Addr) (o : Obj), s.heap.get? b = some o → b ≠ s.heap.objs.size + 1 ∧ (((s.heap.push (PyProof.Rows.seqObj "list" #[] 0)).update s.heap.objs.size (Obj.mapSeq fun x => x ++ vs.toArray)).push (PyProof.Rows.seqObj "list" vs.toArray 0)).get? b = some o := fun b o q => by
    have hlt := Heap.lt_size q
    refine ⟨Nat.ne_of_lt (Nat.lt_succ_of_lt hlt), Heap.get?_push_of_some _ ?_⟩
    rw [Heap.get?_update_ne _ b s.heap.objs.size _ (Nat.ne_of_lt hlt)]
    exact Heap.get?_push_of_some _ q
  show wpAny (model prog w) A.in1 (do
    let _ ← holding [Value.ref _] (call (Value.builtin "list.sort") [Value.ref _] ({ pos := [Value.ref l] } : Args).kw)
    ret (Value.ref _)) _ _ _
  rw [hsz]
  refine wpAny_bind (wpAny_holding (wpAny_call_entry PyProof.Rows.slot_list_sort ⟨_, hoL, rfl⟩ PyProof.Rows.entry_list_sort (SrtO.list_sort_ord O hoL hz (fun h2 => hS h2 _ _ hoL keep) fun out hs hb => ?_) (PyProof.Rows.args_list_sort _)))
  exact ⟨Value.none, rfl, wpAny_pure ⟨_, rfl, h out hs hb⟩⟩
def rSortedIT (K : PySem.W.Frag) : List V → Hp → VK → Prop := fun vs H Q => ∃ a ns, vs = [V.ref a] ∧ SqT K H a (List.map V.int ns) ∧
  ∀ (ns' : List Int) (p : Addr), ns'.Perm ns → List.Pairwise (fun x1 x2 => x1 ≤ x2) ns' → H p = none → Q (V.ref p) (upd H p (HO.lst (List.map V.int ns')))
theorem cr_sortedIT {X : Cx} : CallR X (Value.builtin "sorted") (rSortedIT X.K) := by
  intro pins s σ H vs us Q I r h
  obtain ⟨a, ns, rfl, hs, q⟩ := h
  obtain ⟨its, rv, hl, hz⟩ := I.tuple hs
  rw [Vals.ref1 r]
  have hi := Vals.ints rv
  refine sorted_ordT SrtO.swo_int hl (by rw [← Vals.length rv]; exact hz) (fun h2 h1 a' x x1 => SrtO.ints_sortable hi h2) fun out h1 h2 => ?_
  obtain ⟨k1, k2, k3⟩ := SrtO.ints_out hi h1 h2
  obtain ⟨ep, he'⟩ := PyProof.Rows.sortedAll_at s.heap its out.toArray
  have hlen : (List.map V.int (List.map SrtO.iv out)).length ≤ sizeLine := by
    rw [List.length_map, k2.length_eq]
    rw [List.length_map] at hz
    exact hz
  exact ⟨V.ref (s.heap.objs.size + 1), upd H (s.heap.objs.size + 1) (HO.lst (List.map V.int (List.map SrtO.iv out))), Inv.laid I (fun x x1 => PyProof.Rows.sortedAll_old) (Nat.le_succ s.heap.objs.size) ⟨hlen, out, ep, vals_of_ints k1, he'⟩, rfl, q (List.map SrtO.iv out) (s.heap.objs.size + 1) k2 k3 (HOk.fresh I.hok (Nat.le_succ s.heap.objs.size))⟩


theorem met_get {n : Nat} : ∀ {ks : List Nat}, valV (ks.map fun k : Nat => ((.inl (k : Int) : L2.Key), V.bl true)) (.inl (n : Int)) = if n ∈ ks then some (.bl true) else none
  | [] => by rw [if_neg (by simp)]; rfl
  | k :: ks => by
    rw [List.map_cons]
    by_cases e : k = n
    · subst e
      rw [valV_pos rfl, if_pos List.mem_cons_self]
    · rw [valV_neg (by intro q; exact e (by exact_mod_cast Sum.inl.inj q)), met_get]
      have : n ∈ k :: ks ↔ n ∈ ks := by
        rw [List.mem_cons]
        constructor
        · rintro (h | h)
          · exact absurd h.symm e
          · exact h
        · exact .inr
      simp only [this]
theorem met_put {n : Nat} {ks : List Nat} (h : n ∉ ks) : putK (ks.map fun k : Nat => ((.inl (k : Int) : L2.Key), V.bl true)) (.inl (n : Int)) (.bl true) = (ks ++ [n]).map fun k : Nat => (.inl (k : Int), .bl true) := by
  unfold putK
  rw [valV_any, met_get, if_neg h, List.map_append]
  rfl
def vN (l : List Nat) : List V := l.map fun z : Nat => V.int (z : Int)
section
variable {P : Program} {w : World} {K : PySem.W.Frag} {mg : Str → Option Value} {base : Heap} {a : Ad}
def BadAt (a : Ad) (H : Hp) (E : XK) (i : Int) : Prop := ∀ (d : Addr) (H' : Hp), Evl.Ex H H' → H' d = some (.xd [("index", .int i)]) → E (.ref a.c_BadPlaces) (some d) H'
/-- a standing to check: distinct places within, and perhaps a bad one behind them -/
def CsAt (K : PySem.W.Frag) (a : Ad) (n : Nat) (H : Hp) (y : V) (Q : Hp → List Nat → Prop) (E : XK) : Prop := PlainV H y ∧ (sqV y = false → BadAt a H E (-1)) ∧
  ∀ p, y = .ref p → ∃ (good : List Nat) (rest : List V), (SqL K H p (vN good ++ rest) ∨ SqT K H p (vN good ++ rest)) ∧ good.length ≤ 1000 ∧ good.Nodup ∧ (∀ z ∈ good, z < n) ∧
    ((rest = [] ∧ Q H good) ∨ ∃ b r, rest = b :: r ∧ PlainV H b ∧ (wiB b 0 ((n : Int) - 1) = false ∨ ∃ z ∈ good, b = .int (z : Int)) ∧ BadAt a H E good.length)
def spCS (K : PySem.W.Frag) (a : Ad) : Sp := fun vs H Q E => ∃ (n : Nat) (y : V), vs = [.int n, y] ∧ CsAt K a n H y (fun H good => ∀ q ns H', Evl.Ex H H' → H' q = some (.lst (vN ns)) → ns.Perm good → ns.Pairwise (· ≤ ·) → Q (.ref q) H') E
def ivCS (n : Nat) (y : V) (m : Addr) (good : List Nat) (H : Hp) : Nat → L2.St → Hp → Prop := fun i σ H' => ∃ v1 v2 : Option V, σ = [some (.int n), some y, some (.ref m), v1, v2] ∧ i ≤ good.length ∧
  H' m = some (.dK ((good.take i).map fun k : Nat => (.inl (k : Int), .bl true))) ∧ Evl.Ex H H'
theorem ok_check_standing (T : Txt K mg a) : FnOk P w K mg base (L2.CX P w) 3 a.f_check_standing a.d_check_standing ["length", "standing"] (spCS K a) := by
  refine T.F_check_standing.okX sc_check_standing (fun vs H Q E h => ?_) (fun cdv A outer s H vs Q E hr h => ?_)
  · obtain ⟨_, _, rfl, _⟩ := h
    rfl
  · obtain ⟨n, y, rfl, hp, k1, k2⟩ := h
    refine ⟨_, (pss_cons (ps_if (pt_not (pt_val (pe_call (ok_is_sequence T) (hr.mono (by decide)) rfl T.m_is_sequence T.F_is_sequence.kp T.b_is_sequence .nil pass0 (pa_cons (pv 1) pa_nil)))) (pss_one (ps_raise rfl (takes_of rfl rfl rfl rfl) (pmk_oex T.x_BadPlaces T.xi_BadPlaces T.xt_BadPlaces (ok_BadPlaces_init T) (hr.mono (by decide)) T.b_BadPlaces___init__ .nil pass0 rfl T.m_BadPlaces (pa_cons (pe_un un_neg pe_int) pa_nil))))
    pss_nil)
  (pss_cons (ps_set (i := 2) sc_check_standing.nd rfl (by first | exact Or.inl rfl | exact Or.inr rfl) pe_dnewK)
  (pss_cons (ps_for (passes_of rfl) rfl (pi_or (pi_enum (by rfl) T.z_enumerate (pa_cons (pv 1) pa_nil)) (pi_enumT (by rfl) T.z_enumerate (pa_cons (pv 1) pa_nil))) (pg_tup rfl (pgs_cons (pg_name (i := 3) sc_check_standing.nd rfl (by first | exact Or.inl rfl | exact Or.inr rfl)) (pgs_cons (pg_name (i := 4) sc_check_standing.nd rfl (by first | exact Or.inl rfl | exact Or.inr rfl)) pgs_nil))) (pss_cons (ps_if (PW.pt (pw_or (pt_not (pt_val (pe_call (ok_is_within T) (hr.mono (by decide)) rfl T.m_is_within T.F_is_within.kp T.b_is_within .nil pass0 (pa_cons (pv 4) (pa_cons pe_int (pa_cons (pe_op op_sub (pv 0) pe_int) pa_nil)))))) (pw_or1 (pt_cmp (pc_din (hu1 hr.units) (pv 4) (pv 2)))))) (pss_one (ps_raise rfl (takes_of rfl rfl rfl rfl) (pmk_oex T.x_BadPlaces T.xi_BadPlaces T.xt_BadPlaces (ok_BadPlaces_init T) (hr.mono (by decide)) T.b_BadPlaces___init__ .nil pass0 rfl T.m_BadPlaces (pa_cons (pv 3) pa_nil))))
    pss_nil)
  (pss_one (ps_asg pe_bl (pg_sub (pv 2) (pv 4) (set_dict (hu1 hr.units)) (by intro _; rfl))))))
  (pss_one (ps_ret (pe_callB (L2.CallR.or cr_sortedI cr_sortedIT) (by rfl) T.z_sorted (by decide +kernel) (pa_cons (pv 1) pa_nil))))))), ?_⟩
    walk_at "sm"
    refine ⟨y, rfl, hp, fun H1 x1 => ⟨_, rfl, ?_⟩⟩
    cases e : sqV y with
    | false =>
      refine iteT (mk1 fun d H' x2 q => k1 e d H' (x1.trans x2) q)
    | true =>
      obtain ⟨p, rfl⟩ : ∃ p, y = .ref p := by
        cases y with
        | ref p => exact ⟨p, rfl⟩
        | _ => cases e
      obtain ⟨good, rest, hs, hl, hn, hg, kk⟩ := k2 p rfl
      refine iteF fun m hm => ?_
      have hm2 := Evl.fresh_back x1 hm
      have turn : ∀ i HX Tt y v3 v4, ivCS n (.ref p) m good H i [some (.int n), some (.ref p), some (.ref m), v3, v4] HX → HX Tt = none → (vN good ++ rest)[i]? = some y →
          ∃ x, SqT K (upd HX Tt (.tup [.int (i : Nat), y])) Tt x ∧ x.length = 2 ∧ ∃ v r, x = v :: r ∧ ∃ v_1 r_1, r = v_1 :: r_1 ∧ r_1 = [] ∧ spWithin [v_1, .int 0, .int ((n : Int) - 1)] (upd HX Tt (.tup [.int (i : Nat), y]))
            (fun x H1 => ∃ c, x = V.bl c ∧ if (!c) = true then mkO a.c_BadPlaces (spInit1 a.c_BadPlaces "index") [] [v] H1 fun cls d H' => E cls d H'
              else ∃ x, DGet H1 m v_1 x ∧ if x.isSome = true then mkO a.c_BadPlaces (spInit1 a.c_BadPlaces "index") [] [v] H1 fun cls d H' => E cls d H'
                else rSetD (V.ref m) v_1 (V.bl true) H1 fun H3 => ivCS n (.ref p) m good H (i + 1) [some (.int n), some (.ref p), some (.ref m), some v, some v_1] H3) E0 := by
        rintro i HX Tt y v3 v4 ⟨_, _, _, l1, l2, l3⟩ hT hy
        have eT := Evl.Ex.new (o := .tup [.int (i : Nat), y]) hT
        have nT : m ≠ Tt := ne_of_none l2 hT
        have l2' : upd HX Tt (.tup [.int (i : Nat), y]) m = some (.dK ((good.take i).map fun k : Nat => (.inl (k : Int), .bl true))) := by rw [upd_ne nT]; exact l2
        refine ⟨_, SqT.of upd_same, rfl, _, _, rfl, _, _, rfl, rfl, ?_⟩
        rcases Nat.lt_or_eq_of_le l1 with h | h
        · have hz : i < (vN good).length := by unfold vN; rw [List.length_map]; exact h
          rw [List.getElem?_append_left hz] at hy
          obtain ⟨z, hz2, rfl⟩ : ∃ z, good[i]? = some z ∧ y = .int (z : Int) := by
            unfold vN at hy
            rw [List.getElem?_map] at hy
            cases e2 : good[i]? with
            | none => rw [e2] at hy; cases hy
            | some z => rw [e2] at hy; exact ⟨z, rfl, (Option.some.inj hy).symm⟩
          have hzm : z ∈ good := List.mem_of_getElem? hz2
          have hzn : z ∉ good.take i := by
            have e3 : good = good.take i ++ z :: good.drop (i + 1) := by
              obtain ⟨h1, h2⟩ := List.getElem?_eq_some_iff.mp hz2
              rw [← h2, ← List.drop_eq_getElem_cons h1, List.take_append_drop]
            rw [e3, List.nodup_append] at hn
            intro q
            exact hn.2.2 z q z List.mem_cons_self rfl
          refine ⟨_, 0, _, rfl, plain_int, _, rfl, ?_⟩
          rw [wi_of (by omega) (by have := hg z hzm; omega)]
          refine iteF ⟨_, DGet.k (k := .inl (z : Int)) l2', ?_⟩
          rw [met_get, if_neg hzn]
          refine iteF ⟨m, _, rfl, DPut.k (k := .inl (z : Int)) l2' ?_, ?_⟩
          · rw [List.length_map, List.length_take]
            exact Nat.lt_of_lt_of_le (by omega : min i good.length < 2000) (by decide)
          · refine ⟨_, _, rfl, h, ?_, (l3.trans eT).mut hm2⟩
            rw [met_put hzn, upd_same, List.take_succ, hz2]
            rfl
        · subst h
          have hzl : (vN good).length = good.length := by unfold vN; rw [List.length_map]
          rw [List.getElem?_append_right (by omega), hzl, Nat.sub_self] at hy
          rcases kk with ⟨rfl, _⟩ | ⟨b, r, rfl, pb, hb, kb⟩
          · cases hy
          · have hy : b = y := Option.some.inj hy
            subst hy
            refine ⟨b, 0, _, rfl, (pb.go l3).go eT, _, rfl, ?_⟩
            cases e3 : wiB b 0 ((n : Int) - 1) with
            | false => exact iteT (mk1 fun d H' x3 q => kb d H' ((l3.trans eT).trans x3) q)
            | true =>
              rcases hb with hb | ⟨z, hz, rfl⟩
              · rw [hb] at e3; cases e3
              · refine iteF ⟨_, DGet.k (k := .inl (z : Int)) l2', ?_⟩
                rw [met_get, List.take_length, if_pos hz]
                exact iteT (mk1 fun d H' x3 q => kb d H' ((l3.trans eT).trans x3) q)
      have fin : ∀ HX v3 v4, ivCS n (.ref p) m good H (vN good ++ rest).length [some (.int n), some (.ref p), some (.ref m), v3, v4] HX → rSortedI K [V.ref p] HX Q ∨ rSortedIT K [V.ref p] HX Q := by
        rintro HX v3 v4 ⟨_, _, _, l1, l2, l3⟩
        rcases kk with ⟨rfl, k3⟩ | ⟨b, r, rfl, _⟩
        · have ev : vN good ++ [] = (good.map fun z : Nat => (z : Int)).map V.int := by rw [List.append_nil, List.map_map]; rfl
          have fin2 : ∀ (ns' : List Int) (q : Addr), ns'.Perm (good.map fun z : Nat => (z : Int)) → ns'.Pairwise (· ≤ ·) → HX q = none → Q (.ref q) (upd HX q (.lst (ns'.map V.int))) := by
            intro ns' q h1 h2 hq
            have e3 : ns' = (ns'.map Int.toNat).map fun z : Nat => (z : Int) := by
              rw [List.map_map]
              conv => lhs; rw [← List.map_id ns']
              refine List.map_congr_left fun x hx => ?_
              have := h1.mem_iff.mp hx
              obtain ⟨z, _, rfl⟩ := List.mem_map.mp this
              rfl
            refine k3 q (ns'.map Int.toNat) _ (l3.trans (Evl.Ex.new hq)) ?_ ?_ ?_
            · rw [upd_same]
              unfold vN
              conv => lhs; rw [e3, List.map_map]
              rfl
            · have := h1.map Int.toNat
              rw [List.map_map] at this
              have e4 : good.map (Int.toNat ∘ fun z : Nat => (z : Int)) = good := by
                conv => rhs; rw [← List.map_id good]
                refine List.map_congr_left fun x hx => rfl
              rw [e4] at this
              exact this
            · rw [List.pairwise_map]
              refine h2.imp fun h => by omega
          rw [ev] at hs
          rcases hs with q | q
          · exact .inl ⟨p, _, rfl, Evl.ex_l l3 q, fun ns' q h1 h2 hq => fin2 ns' q h1 h2 hq⟩
          · exact .inr ⟨p, _, rfl, Evl.ex_t l3 q, fun ns' q h1 h2 hq => fin2 ns' q h1 h2 hq⟩
        · exfalso
          rw [List.length_append, List.length_cons] at l1
          unfold vN at l1
          rw [List.length_map] at l1
          omega
      have hs0 := hs
      rcases hs0 with q | q
      · refine .inl ⟨_, rfl, p, _, rfl, Evl.ex_l (x1.trans (Evl.Ex.new hm)) q, for_en (n := (vN good ++ rest).length) (ivCS n (.ref p) m good H) ⟨none, none, rfl, Nat.zero_le _, upd_same, x1.trans (Evl.Ex.new hm)⟩ (fun i σ HX hi ⟨_, _, _, _, _, x2⟩ => ⟨_, (vN good ++ rest)[i], Evl.ex_l x2 q, List.getElem?_eq_getElem hi⟩) (fun σ HX ⟨_, _, _, _, _, x2⟩ => ⟨_, Evl.ex_l x2 q, Nat.le_refl _⟩) ?_ ?_⟩
        · rintro i σ HX x HY hi ⟨v3, v4, rfl, l1, l2, l3⟩ ⟨Tt, y, rfl, hT, rfl, hy⟩
          walk_at "sm"
          exact turn i HX Tt y v3 v4 ⟨_, _, rfl, l1, l2, l3⟩ hT (hy _ (Evl.ex_l l3 q))
        · rintro σ HX ⟨v3, v4, rfl, l1, l2, l3⟩
          walk_at "sm"
          exact fin HX v3 v4 ⟨_, _, rfl, l1, l2, l3⟩
      · refine .inr ⟨_, rfl, p, _, rfl, Evl.ex_t (x1.trans (Evl.Ex.new hm)) q, for_en (n := (vN good ++ rest).length) (ivCS n (.ref p) m good H) ⟨none, none, rfl, Nat.zero_le _, upd_same, x1.trans (Evl.Ex.new hm)⟩ (fun i σ HX hi ⟨_, _, _, _, _, x2⟩ => ⟨_, (vN good ++ rest)[i], Evl.ex_t x2 q, List.getElem?_eq_getElem hi⟩) (fun σ HX ⟨_, _, _, _, _, x2⟩ => ⟨_, Evl.ex_t x2 q, rfl⟩) ?_ ?_⟩
        · rintro i σ HX x HY hi ⟨v3, v4, rfl, l1, l2, l3⟩ ⟨Tt, y, rfl, hT, rfl, hy⟩
          walk_at "sm"
          exact turn i HX Tt y v3 v4 ⟨_, _, rfl, l1, l2, l3⟩ hT (hy _ (Evl.ex_t l3 q))
        · rintro σ HX ⟨v3, v4, rfl, l1, l2, l3⟩
          walk_at "sm"
          exact fin HX v3 v4 ⟨_, _, rfl, l1, l2, l3⟩
end


theorem filt_split {c : Nat} : ∀ {l : List Nat}, l.Pairwise (· < ·) → l = l.filter (fun x => decide (x < c)) ++ l.filter (fun x => decide (c ≤ x))
  | [], _ => rfl
  | x :: l, h => by
    rw [List.pairwise_cons] at h
    have ih := filt_split (c := c) h.2
    by_cases e : x < c
    · rw [List.filter_cons, if_pos (decide_eq_true e), List.filter_cons, if_neg (by simp; omega), List.cons_append, ← ih]
    · rw [List.filter_cons, if_neg (by simp; omega), List.filter_cons, if_pos (decide_eq_true (by omega))]
      have e2 : l.filter (fun x => decide (x < c)) = [] := filt_no fun y hy => decide_eq_false (by have := h.1 y hy; omega)
      rw [e2] at ih ⊢
      rw [List.nil_append] at ih ⊢
      rw [← ih]
theorem filt_take {c : Nat} {l : List Nat} (h : l.Pairwise (· < ·)) : l.take (l.length - (l.filter fun x => decide (c ≤ x)).length) = l.filter fun x => decide (x < c) := by
  have e := filt_split (c := c) h
  have e2 : l.length = (l.filter fun x => decide (x < c)).length + (l.filter fun x => decide (c ≤ x)).length := by
    conv => lhs; rw [e]
    rw [List.length_append]
  rw [show l.length - (l.filter fun x => decide (c ≤ x)).length = (l.filter fun x => decide (x < c)).length by omega]
  have e3 : ((l.filter fun x => decide (x < c)) ++ (l.filter fun x => decide (c ≤ x))).take (l.filter fun x => decide (x < c)).length = l.filter fun x => decide (x < c) := List.take_left
  rw [← e] at e3
  exact e3
theorem ite2' {c : Prop} [Decidable c] {p q : Prop} (h : c → p) (k : ¬ c → q) : if c then p else q := by
  split
  · rename_i h1; exact h h1
  · rename_i h1; exact k h1
theorem cut_lo (xs : List V) (k : Nat) (h : k ≤ xs.length) : cutV xs none (some (k : Int)) = xs.take k := by
  unfold cutV
  rw [HT.sIx_nat]
  show List.take (min k xs.length - 0) (List.drop 0 xs) = _
  rw [List.drop_zero, Nat.sub_zero, Nat.min_eq_left h]
/-- a standing within f .. f + n -/
def Ok (f n : Nat) (l : List Nat) : Prop := l.Pairwise (· < ·) ∧ ∀ x ∈ l, f ≤ x ∧ x < f + n
theorem Ok.lo {f n : Nat} {l : List Nat} (h : Ok f n l) : Ok f (n / 2) (l.filter fun x => decide (x < f + n / 2)) := ⟨h.1.filter _, fun x hx => by
  rw [List.mem_filter, decide_eq_true_eq] at hx
  have := h.2 x hx.1
  omega⟩
theorem Ok.hi {f n : Nat} {l : List Nat} (h : Ok f n l) : Ok (f + n / 2) (n - n / 2) (l.filter fun x => decide (f + n / 2 ≤ x)) := ⟨h.1.filter _, fun x hx => by
  rw [List.mem_filter, decide_eq_true_eq] at hx
  have := h.2 x hx.1
  omega⟩
theorem Ok.one {f : Nat} {l : List Nat} (h : Ok f 1 l) : l.length ≤ 1 := by
  match l, h with
  | [], _ => exact Nat.zero_le _
  | [_], _ => exact Nat.le_refl _
  | x :: y :: r, h =>
    have a := h.2 x (by simp)
    have b := h.2 y (by simp)
    have := (List.pairwise_cons.mp h.1).1 y (by simp)
    omega
theorem Nm_le (n : Nat) : ∀ f l v, 1 ≤ n → Ok f n l → Nm f n l = some v → v ≤ Mv n := by
  induction n using Nat.strongRecOn with
  | _ n ih =>
    intro f l v h1 hl hv
    rw [Nm] at hv
    by_cases h : n ≤ 1
    · rw [dif_pos h] at hv
      have : n = 1 := by omega
      subst this
      rw [← Option.some.inj hv, Mv1 (by omega)]
      exact hl.one
    · rw [dif_neg h] at hv
      have e2 := Mv2 (show 2 ≤ n by omega)
      split at hv
      · have := ih (n / 2) (by omega) f _ v (by omega) hl.lo hv
        omega
      · split at hv
        · rw [Option.map_eq_some_iff] at hv
          obtain ⟨u, hu, rfl⟩ := hv
          have := ih (n - n / 2) (by omega) _ _ u (by omega) hl.hi hu
          omega
        · split at hv
          · rw [Option.map_eq_some_iff] at hv
            obtain ⟨u, hu, rfl⟩ := hv
            omega
          · cases hv
theorem eqvN : ∀ (l m : List Nat), PyData.eqvAll (l.map fun z : Nat => PyData.int (z : Int)) (m.map fun z : Nat => PyData.int (z : Int)) = decide (l = m)
  | [], [] => by simp [PyData.eqvAll]
  | [], _ :: _ => by simp [PyData.eqvAll]
  | _ :: _, [] => by simp [PyData.eqvAll]
  | a :: l, b :: m => by
    have := eqvN l m
    simp only [List.map_cons, PyData.eqvAll, this, PyData.eqv]
    by_cases h : a = b
    · subst h; simp
    · have : ¬ ((a : Int) = b) := by omega
      simp [h, this]
theorem dpN {K : PySem.W.Frag} {H : Hp} : ∀ (l : List Nat), DpAll K H (vN l) (l.map fun z : Nat => PyData.int (z : Int))
  | [] => .nil
  | x :: l => .cons (.int _) (dpN l)
theorem layN (l : List Nat) : SeqAt.shaped (.list (l.map fun z : Nat => PyData.int (z : Int))) = true := shaped_of (lay_lst (n := 1) fun d hd => by
  obtain ⟨z, _, rfl⟩ := List.mem_map.mp hd
  exact ⟨rfl, by show 0 ≤ 1; omega⟩) (by decide)
theorem eqL {K : PySem.W.Frag} {H : Hp} {p q : Addr} {l m : List Nat} {Q : VK} (hp : SqL K H p (vN l)) (hq : SqL K H q (vN m)) (k : Q (.bl (decide (l = m))) H) : rEqD K (.ref p) (.ref q) H Q :=
  ⟨_, _, .lst hp (dpN l), .lst hq (dpN m), layN l, layN m, by
    have : PyData.eqv (.list (l.map fun z : Nat => PyData.int (z : Int))) (.list (m.map fun z : Nat => PyData.int (z : Int))) = decide (l = m) := eqvN l m
    rw [this]; exact k⟩
section
variable {P : Program} {w : World} {K : PySem.W.Frag} {mg : Str → Option Value} {base : Heap} {a : Ad}
/-- the number of a standing, or that it is none -/
def NmQ (a : Ad) (n : Nat) (Q : VK) (E : XK) : Hp → List Nat → Prop := fun H good => ∀ ns H', ns.Perm good → ns.Pairwise (· < ·) → Evl.Ex H H' → match Nm 0 n ns with
  | some v => Q (.int (v : Int)) H'
  | none => E (.ref a.c_NeverStands) none H'
def spCN (K : PySem.W.Frag) (a : Ad) : Sp := fun vs H Q E => ∃ x y, vs = [x, y] ∧ PlainV H x ∧ (wiB x 1 (10 ^ 30) = false → E (.ref a.c_BadLength) none H) ∧
  (∀ n : Nat, x = .int n → 1 ≤ n → (n : Int) ≤ 10 ^ 30 → CsAt K a n H y (NmQ a n Q E) E)
def ivCN (C : List Nat) (n : Nat) (ns : List Nat) (d : Addr) (x y : V) (H : Hp) : Nat → L2.St → Hp → Prop := fun m σ H' => ∃ (f : Nat) (b s : Int) (l : List Nat) (p : Addr) (v1 v2 v3 v4 v5 v6 : Option V), σ = [some x, some y, some (.ref p), some (.ref d), some (.int f), some (.int m), some (.int b), some (.int s), v1, v2, v3, v4, v5, v6] ∧
  1 ≤ m ∧ m ≤ 2 ^ 100 ∧ m ∈ C ∧ Ok f m l ∧ l.length ≤ 1000 ∧ (s = 1 ∨ s = -1) ∧ H' p = some (.lst (vN l)) ∧ p ≠ d ∧ (Nm f m l = none → Nm 0 n ns = none) ∧ (∀ v, Nm f m l = some v → ∃ u : Nat, Nm 0 n ns = some u ∧ (u : Int) = b + s * v) ∧ MemoAt C H' d ∧ Evl.Ex H H'
theorem ok_chain_number (T : Txt K mg a) : FnOk P w K mg base (L2.CX P w) 111 a.f_chain_number a.d_chain_number ["length", "standing"] (spCN K a) := by
  refine T.F_chain_number.okX sc_chain_number (fun vs H Q E h => ?_) (fun cdv A outer s H vs Q E hr h => ?_)
  · obtain ⟨_, _, rfl, _⟩ := h
    rfl
  · obtain ⟨x, y, rfl, hx, k1, k2⟩ := h
    cases e : wiB x 1 (10 ^ 30) with
    | false =>
      have ok_moves_of := fun (_ : Txt K mg a) => ok_mv0 (P := P) (w := w) (base := base) T
      refine ⟨_, (pss_cons (ps_expr (pe_call (ok_check_length T) (hr.mono (by decide)) rfl T.m_check_length T.F_check_length.kp T.b_check_length .nil (passes_call (takes_of rfl rfl rfl rfl) (fun _ _ _ _ q => q)) (pa_cons (pv 0) pa_nil)))
  (pss_cons (ps_set (i := 2) sc_chain_number.nd rfl (by first | exact Or.inl rfl | exact Or.inr rfl) (pe_call (ok_check_standing T) (hr.mono (by decide)) rfl T.m_check_standing T.F_check_standing.kp T.b_check_standing .nil (passes_call (takes_of rfl rfl rfl rfl) (fun _ _ _ _ q => q)) (pa_cons (pv 0) (pa_cons (pv 1) pa_nil))))
  (pss_cons (ps_asg (pe_tup (pa_cons pe_dnewK (pa_cons pe_int (pa_cons (pv 0) (pa_cons pe_int (pa_cons pe_int pa_nil)))))) (pg_tup rfl (pgs_cons (pg_name (i := 3) sc_chain_number.nd rfl (by first | exact Or.inl rfl | exact Or.inr rfl)) (pgs_cons (pg_name (i := 4) sc_chain_number.nd rfl (by first | exact Or.inl rfl | exact Or.inr rfl)) (pgs_cons (pg_name (i := 5) sc_chain_number.nd rfl (by first | exact Or.inl rfl | exact Or.inr rfl)) (pgs_cons (pg_name (i := 6) sc_chain_number.nd rfl (by first | exact Or.inl rfl | exact Or.inr rfl)) (pgs_cons (pg_name (i := 7) sc_chain_number.nd rfl (by first | exact Or.inl rfl | exact Or.inr rfl)) pgs_nil)))))))
  (pss_cons (ps_while (passes_of rfl) (pt_cmpR op_gt (pv 5) pe_int (nomark _)) (pss_cons (ps_set (i := 8) sc_chain_number.nd rfl (by first | exact Or.inl rfl | exact Or.inr rfl) (pe_op op_fdiv (pv 5) pe_int))
  (pss_cons (ps_par (by rfl) sc_chain_number.nd (i := 9) (j := 10) rfl rfl (by decide) rfl rfl (pa_cons (pe_call (ok_moves_of T) (hr.mono (by decide)) rfl T.m_moves_of T.F_moves_of.kp T.b_moves_of .nil pass0 (pa_cons (pv 8) (pa_cons (pv 3) pa_nil))) (pa_cons (pe_call (ok_moves_of T) (hr.mono (by decide)) rfl T.m_moves_of T.F_moves_of.kp T.b_moves_of .nil pass0 (pa_cons (pe_op op_sub (pv 5) (pv 8)) (pa_cons (pv 3) pa_nil))) pa_nil)) (by rfl))
  (pss_cons (ps_setLc (i := 11) (own := [("place", 13)]) (g := gName 13)  rfl sc_chain_number.nd rfl rfl (sw_true rfl rfl rfl (by decide +kernel)) (pi_list (pv 2)) (blkOk_by (own := [("place", 13)]) (N := ["length", "standing", "places", "known", "first", "many", "base", "sign", "half", "there", "rest", "later", "ahead", "place"]) (sc := defScope s_chain_number) (by decide +kernel)) (fun _ _ _ _ _ => pg_name (i := 13) sc_chain_number.nd rfl (Or.inl rfl)) (fun _ _ _ _ _ => (pts_one (pt_cmpR op_ge (pv 13) (pe_op op_add (pv 4) (pv 8)) (nomark _)))) (fun _ _ _ _ _ => (pv 13)))
  (pss_cons (ps_set (i := 12) sc_chain_number.nd rfl (by first | exact Or.inl rfl | exact Or.inr rfl) (pe_slice sl_list (pv 2) po_none (po_some (pe_op op_sub (pe_callB call_len_seq (by rfl) T.z_len (by decide +kernel) (pa_cons (pv 2) pa_nil)) (pe_callB call_len_seq (by rfl) T.z_len (by decide +kernel) (pa_cons (pv 11) pa_nil))))))
  (pss_one (ps_if (pt_not (pt_truth (pv 11) (by intro _; rfl))) (pss_one (ps_set (i := 5) sc_chain_number.nd rfl (by first | exact Or.inl rfl | exact Or.inr rfl) (pv 8)))
    (pss_one (ps_if (pt_cmpR (op_eqD hr.units) (pv 12) (pe_lst (pa_cons (pe_op op_sub (pe_op op_add (pv 4) (pv 8)) pe_int) pa_nil)) (nomark _)) (pss_cons (ps_aug (i := 6) sc_chain_number.nd rfl (by first | exact Or.inl rfl | exact Or.inr rfl) (pe_op op_mul (pv 7) (pv 9)) ip_add)
  (pss_one (ps_asg (pe_tup (pa_cons (pe_op op_add (pv 4) (pv 8)) (pa_cons (pe_op op_sub (pv 5) (pv 8)) (pa_cons (pv 11) pa_nil)))) (pg_tup rfl (pgs_cons (pg_name (i := 4) sc_chain_number.nd rfl (by first | exact Or.inl rfl | exact Or.inr rfl)) (pgs_cons (pg_name (i := 5) sc_chain_number.nd rfl (by first | exact Or.inl rfl | exact Or.inr rfl)) (pgs_cons (pg_name (i := 2) sc_chain_number.nd rfl (by first | exact Or.inl rfl | exact Or.inr rfl)) pgs_nil)))))))
    (pss_one (ps_if (pt_cmpR (op_eqD hr.units) (pv 11) (pe_lst (pa_cons (pe_op op_sub (pe_op op_add (pv 4) (pv 5)) pe_int) pa_nil)) (nomark _)) (pss_cons (ps_aug (i := 6) sc_chain_number.nd rfl (by first | exact Or.inl rfl | exact Or.inr rfl) (pe_op op_mul (pv 7) (pe_op op_add (pe_op op_mul pe_int (pv 9)) (pv 10))) ip_add)
  (pss_one (ps_par3 (by rfl) sc_chain_number.nd (i := 7) (j := 5) (l := 2) rfl rfl rfl (by decide) (by decide) (by decide) (by first | rfl | kernel_rfl) (by first | rfl | kernel_rfl) (by first | rfl | kernel_rfl) (pa_cons (pe_un un_neg (pv 7)) (pa_cons (pv 8) (pa_cons (pv 12) pa_nil))) (by first | rfl | kernel_rfl))))
    (pss_one (ps_raise rfl (takes_of rfl rfl rfl rfl) (pmk_own0 PySem.F.excBase_ValueError T.q_NeverStands T.m_NeverStands T.k_NeverStands (raises_own T.sb_NeverStands T.ty_NeverStands) rfl))))))))))))))
  (pss_one (ps_ret (pe_op op_add (pv 6) (pe_op op_mul (pv 7) (pe_callB call_len_seq (by rfl) T.z_len (by decide +kernel) (pa_cons (pv 2) pa_nil)))))))))), ?_⟩
      walk_at "sm"
      refine ⟨x, rfl, hx, fun i e1 h1 h2 => ?_, fun _ => k1 e⟩
      rw [e1, wi_of (by omega) h2] at e
      cases e
    | true =>
      obtain ⟨i, rfl, h1, h2⟩ := wi_int e
      obtain ⟨n, rfl⟩ : ∃ n : Nat, i = n := ⟨i.toNat, by omega⟩
      have ok_moves_of := fun (_ : Txt K mg a) => ok_mv (P := P) (w := w) (base := base) T (Cl_closed (p30n h2)) 100
      have hC := Cl_closed (p30n h2)
      obtain ⟨hy, c1, c2⟩ := k2 n rfl (by omega) h2
      refine ⟨_, (pss_cons (ps_expr (pe_call (ok_check_length T) (hr.mono (by decide)) rfl T.m_check_length T.F_check_length.kp T.b_check_length .nil (passes_call (takes_of rfl rfl rfl rfl) (fun _ _ _ _ q => q)) (pa_cons (pv 0) pa_nil)))
  (pss_cons (ps_set (i := 2) sc_chain_number.nd rfl (by first | exact Or.inl rfl | exact Or.inr rfl) (pe_call (ok_check_standing T) (hr.mono (by decide)) rfl T.m_check_standing T.F_check_standing.kp T.b_check_standing .nil (passes_call (takes_of rfl rfl rfl rfl) (fun _ _ _ _ q => q)) (pa_cons (pv 0) (pa_cons (pv 1) pa_nil))))
  (pss_cons (ps_asg (pe_tup (pa_cons pe_dnewK (pa_cons pe_int (pa_cons (pv 0) (pa_cons pe_int (pa_cons pe_int pa_nil)))))) (pg_tup rfl (pgs_cons (pg_name (i := 3) sc_chain_number.nd rfl (by first | exact Or.inl rfl | exact Or.inr rfl)) (pgs_cons (pg_name (i := 4) sc_chain_number.nd rfl (by first | exact Or.inl rfl | exact Or.inr rfl)) (pgs_cons (pg_name (i := 5) sc_chain_number.nd rfl (by first | exact Or.inl rfl | exact Or.inr rfl)) (pgs_cons (pg_name (i := 6) sc_chain_number.nd rfl (by first | exact Or.inl rfl | exact Or.inr rfl)) (pgs_cons (pg_name (i := 7) sc_chain_number.nd rfl (by first | exact Or.inl rfl | exact Or.inr rfl)) pgs_nil)))))))
  (pss_cons (ps_while (passes_of rfl) (pt_cmpR op_gt (pv 5) pe_int (nomark _)) (pss_cons (ps_set (i := 8) sc_chain_number.nd rfl (by first | exact Or.inl rfl | exact Or.inr rfl) (pe_op op_fdiv (pv 5) pe_int))
  (pss_cons (ps_par (by rfl) sc_chain_number.nd (i := 9) (j := 10) rfl rfl (by decide) rfl rfl (pa_cons (pe_call (ok_moves_of T) (hr.mono (by decide)) rfl T.m_moves_of T.F_moves_of.kp T.b_moves_of .nil pass0 (pa_cons (pv 8) (pa_cons (pv 3) pa_nil))) (pa_cons (pe_call (ok_moves_of T) (hr.mono (by decide)) rfl T.m_moves_of T.F_moves_of.kp T.b_moves_of .nil pass0 (pa_cons (pe_op op_sub (pv 5) (pv 8)) (pa_cons (pv 3) pa_nil))) pa_nil)) (by rfl))
  (pss_cons (ps_setLc (i := 11) (own := [("place", 13)]) (g := gName 13)  rfl sc_chain_number.nd rfl rfl (sw_true rfl rfl rfl (by decide +kernel)) (pi_list (pv 2)) (blkOk_by (own := [("place", 13)]) (N := ["length", "standing", "places", "known", "first", "many", "base", "sign", "half", "there", "rest", "later", "ahead", "place"]) (sc := defScope s_chain_number) (by decide +kernel)) (fun _ _ _ _ _ => pg_name (i := 13) sc_chain_number.nd rfl (Or.inl rfl)) (fun _ _ _ _ _ => (pts_one (pt_cmpR op_ge (pv 13) (pe_op op_add (pv 4) (pv 8)) (nomark _)))) (fun _ _ _ _ _ => (pv 13)))
  (pss_cons (ps_set (i := 12) sc_chain_number.nd rfl (by first | exact Or.inl rfl | exact Or.inr rfl) (pe_slice sl_list (pv 2) po_none (po_some (pe_op op_sub (pe_callB call_len_seq (by rfl) T.z_len (by decide +kernel) (pa_cons (pv 2) pa_nil)) (pe_callB call_len_seq (by rfl) T.z_len (by decide +kernel) (pa_cons (pv 11) pa_nil))))))
  (pss_one (ps_if (pt_not (pt_truth (pv 11) (by intro _; rfl))) (pss_one (ps_set (i := 5) sc_chain_number.nd rfl (by first | exact Or.inl rfl | exact Or.inr rfl) (pv 8)))
    (pss_one (ps_if (pt_cmpR (op_eqD hr.units) (pv 12) (pe_lst (pa_cons (pe_op op_sub (pe_op op_add (pv 4) (pv 8)) pe_int) pa_nil)) (nomark _)) (pss_cons (ps_aug (i := 6) sc_chain_number.nd rfl (by first | exact Or.inl rfl | exact Or.inr rfl) (pe_op op_mul (pv 7) (pv 9)) ip_add)
  (pss_one (ps_asg (pe_tup (pa_cons (pe_op op_add (pv 4) (pv 8)) (pa_cons (pe_op op_sub (pv 5) (pv 8)) (pa_cons (pv 11) pa_nil)))) (pg_tup rfl (pgs_cons (pg_name (i := 4) sc_chain_number.nd rfl (by first | exact Or.inl rfl | exact Or.inr rfl)) (pgs_cons (pg_name (i := 5) sc_chain_number.nd rfl (by first | exact Or.inl rfl | exact Or.inr rfl)) (pgs_cons (pg_name (i := 2) sc_chain_number.nd rfl (by first | exact Or.inl rfl | exact Or.inr rfl)) pgs_nil)))))))
    (pss_one (ps_if (pt_cmpR (op_eqD hr.units) (pv 11) (pe_lst (pa_cons (pe_op op_sub (pe_op op_add (pv 4) (pv 5)) pe_int) pa_nil)) (nomark _)) (pss_cons (ps_aug (i := 6) sc_chain_number.nd rfl (by first | exact Or.inl rfl | exact Or.inr rfl) (pe_op op_mul (pv 7) (pe_op op_add (pe_op op_mul pe_int (pv 9)) (pv 10))) ip_add)
  (pss_one (ps_par3 (by rfl) sc_chain_number.nd (i := 7) (j := 5) (l := 2) rfl rfl rfl (by decide) (by decide) (by decide) (by first | rfl | kernel_rfl) (by first | rfl | kernel_rfl) (by first | rfl | kernel_rfl) (pa_cons (pe_un un_neg (pv 7)) (pa_cons (pv 8) (pa_cons (pv 12) pa_nil))) (by first | rfl | kernel_rfl))))
    (pss_one (ps_raise rfl (takes_of rfl rfl rfl rfl) (pmk_own0 PySem.F.excBase_ValueError T.q_NeverStands T.m_NeverStands T.k_NeverStands (raises_own T.sb_NeverStands T.ty_NeverStands) rfl))))))))))))))
  (pss_one (ps_ret (pe_op op_add (pv 6) (pe_op op_mul (pv 7) (pe_callB call_len_seq (by rfl) T.z_len (by decide +kernel) (pa_cons (pv 2) pa_nil)))))))))), ?_⟩
      walk_at "sm"
      refine ⟨_, rfl, hx, fun n2 e1 _ _ => ?_, fun q => by rw [e] at q; cases q⟩
      cases e1
      refine ⟨n, y, rfl, hy, c1, fun p hp => ?_⟩
      obtain ⟨good, rest, hs, hl, hn, hg, kk⟩ := c2 p hp
      refine ⟨good, rest, hs, hl, hn, hg, ?_⟩
      rcases kk.symm with kb | ⟨er, kq⟩
      · exact .inr kb
      refine .inl ⟨er, fun q ns H1 x1 hq hperm hsort d hd => ⟨sz (by decide), fun t ht => ⟨_, SqT.of upd_same, rfl, _, _, rfl, _, _, rfl, _, _, rfl, _, _, rfl, _, _, rfl, rfl, ?_⟩⟩⟩
      have hlt : ns.Pairwise (· < ·) := by
        have h1 : ns.Nodup := hperm.nodup_iff.mpr hn
        have h2 := hsort.and h1
        exact h2.imp fun h => by omega
      have kq2 := fun H' => kq ns H' hperm hlt
      have := p30n h2
      have nqd : q ≠ d := ne_of_none hq hd
      refine ⟨ivCN (Cl n) n ns d (.int n) y H, ⟨n, 0, 0, 1, ns, q, none, none, none, none, none, none, rfl, by omega, by omega, Cl_self, ⟨hlt, fun x hx => ⟨by omega, by have := hg x (hperm.mem_iff.mp hx); omega⟩⟩, by rw [hperm.length_eq]; exact hl, .inl rfl, ?_, nqd, fun q => q, fun v hv => ⟨v, hv, by omega⟩, ⟨[], by rw [upd_ne (ne_of_none upd_same ht), upd_same]; rfl, .nil, by simp⟩, (x1.trans (Evl.Ex.new hd)).trans (Evl.Ex.new ht)⟩, ?_⟩
      · rw [upd_ne (ne_of_none (by rw [upd_ne nqd]; exact hq) ht), upd_ne nqd]; exact hq
      have hd2 := Evl.fresh_back x1 hd
      rintro m σ H2 ⟨f, b, sg, l, p1, v1, v2, v3, v4, v5, v6, rfl, l1, l2, l3, l4, l5, l6, l7, l8, l9, l10, l11, l12⟩
      walk_at "sm"
      refine ite2 (fun q1 => ?_) (fun q1 => ?_)
      · refine ⟨fun σ' H' => ∃ m', m' < m ∧ ivCN (Cl n) n ns d (.int n) y H m' σ' H', fun _ _ z => z, ?_⟩
        walk_at "sm"
        have pw : 2 * 2 ^ 99 = 2 ^ 100 := by decide
        have c2 := hC.2 m l3 (by omega)
        have e2 := Mv2 (show 2 ≤ m by omega)
        refine ⟨by unfold CDiv; decide, m / 2, d, rfl, by omega, by omega, c2.1, l11, fun H3 f3 m3 => ?_⟩
        refine ⟨m - m / 2, d, by congr 2; omega, by omega, by omega, c2.2, m3, fun H4 f4 m4 => ?_⟩
        have x4 : Evl.Ex H H4 := fun b o h => f4 b o (ne_of_none h hd2) (f3 b o (ne_of_none h hd2) (l12 b o h))
        have y4 : H4 p1 = some (.lst (vN l)) := f4 _ _ l8 (f3 _ _ l8 l7)
        have hlo := l4.lo
        have hhi := l4.hi
        have htk := filt_take (c := f + m / 2) l4.1
        generalize hA : (l.filter fun x => decide (x < f + m / 2)) = A at *
        generalize hB : (l.filter fun x => decide (f + m / 2 ≤ x)) = B at *
        have hAl : A.length ≤ l.length := by rw [← hA]; exact List.length_filter_le _ _
        have hBl : B.length ≤ l.length := by rw [← hB]; exact List.length_filter_le _ _
        refine ⟨⟨_, SqL.of y4⟩, lcg_list (xs := vN l) (fun D i HD => HD D = some (.lst (vN ((l.take i).filter fun x => decide (f + m / 2 ≤ x)))) ∧ Evl.Ex H4 HD) (fun D hD => ⟨by rw [upd_same]; rfl, Evl.Ex.new hD⟩) (fun D i HD hD hi z => Evl.ex_l z.2 (SqL.of y4)) ?_ ?_⟩
        · rintro D i x0 HD hD hi ⟨z1, z2⟩
          obtain ⟨z, hz, rfl⟩ : ∃ z, l[i]? = some z ∧ x0 = .int (z : Int) := by
            unfold vN at hi
            rw [List.getElem?_map] at hi
            cases e2 : l[i]? with
            | none => rw [e2] at hi; cases hi
            | some z => rw [e2] at hi; exact ⟨z, rfl, (Option.some.inj hi).symm⟩
          walk_at "sm"
          refine ite2' (fun q2 => ?_) (fun q2 => ?_)
          rotate_left
          · refine ⟨?_, z2⟩
            rw [z1, List.take_succ, hz, List.filter_append, Option.toList_some, List.filter_cons, if_neg (by simp; omega), List.filter_nil, List.append_nil]
          refine ⟨_, z1, ?_, ?_, ?_⟩
          · unfold vN
            rw [List.length_map]
            have := List.length_filter_le (fun x => decide (f + m / 2 ≤ x)) (l.take i)
            rw [List.length_take] at this
            exact Nat.lt_of_lt_of_le (by omega : _ < 2000) (by decide)
          · rw [upd_same, List.take_succ, hz, List.filter_append, Option.toList_some, List.filter_cons, if_pos (decide_eq_true (by omega))]
            unfold vN
            rw [List.map_append]
            rfl
          · exact z2.mut hD
        · rintro D HD hD ⟨z1, z2⟩
          have ez : (l.take (vN l).length).filter (fun x => decide (f + m / 2 ≤ x)) = B := by
            unfold vN
            rw [List.length_map, List.take_length, hB]
          rw [ez] at z1
          have z3 := z2 _ _ y4
          refine ⟨_, .inl (SqL.of z3), D, rfl, _, .inl (SqL.of z1), p1, _, rfl, SqL.of z3, fun p2 hp2 => ?_⟩
          have ecut : cutV (vN l) none (some (((vN l).length : Int) - ((vN B).length : Int))) = vN A := by
            unfold vN
            rw [List.length_map, List.length_map, show ((l.length : Int) - (B.length : Int)) = ((l.length - B.length : Nat) : Int) by omega, cut_lo _ _ (by rw [List.length_map]; omega), ← List.map_take, htk]
          rw [ecut]
          have hN : Nm f m l = if B = [] then Nm f (m / 2) A else if A = [f + m / 2 - 1] then (Nm (f + m / 2) (m - m / 2) B).map (fun v => Mv (m / 2) + v) else if B = [f + m - 1] then (Nm f (m / 2) A).map (fun v => 2 * Mv (m / 2) + Mv (m - m / 2) - v) else none := by
            rw [Nm, dif_neg (by omega), hA, hB]
          have mk : ∀ (f' m' : Nat) (b' s' : Int) (l' : List Nat) (p' : Addr) (i1 i2 : Int) (w1 w2 w3 w4 w5 w6 : Option V) (Hc : Hp), i1 = f' → i2 = m' → m' < m → 1 ≤ m' → m' ∈ Cl n → Ok f' m' l' → l'.length ≤ l.length → (s' = 1 ∨ s' = -1) → Hc p' = some (.lst (vN l')) → p' ≠ d →
              (Nm f' m' l' = none → Nm f m l = none) → (∀ v, Nm f' m' l' = some v → ∃ u : Nat, Nm f m l = some u ∧ b + sg * (u : Int) = b' + s' * (v : Int)) → MemoAt (Cl n) Hc d → Evl.Ex H Hc →
              ∃ m', m' < m ∧ ivCN (Cl n) n ns d (.int n) y H m' [some (.int n), some y, some (.ref p'), some (.ref d), some (.int i1), some (.int i2), some (.int b'), some (.int s'), w1, w2, w3, w4, w5, w6] Hc := by
            rintro f' m' b' s' l' p' _ _ w1 w2 w3 w4 w5 w6 Hc rfl rfl g1 g2 g3 g4 g5 g6 g7 g8 g9 g10 g11 g12
            refine ⟨m', g1, f', b', s', l', p', _, _, _, _, _, _, rfl, g2, by omega, g3, g4, by omega, g6, g7, g8, fun q => l9 (g9 q), fun v hv => ?_, g11, g12⟩
            obtain ⟨u, hu, eu⟩ := g10 v hv
            obtain ⟨u0, h0, eu0⟩ := l10 u hu
            exact ⟨u0, h0, by rw [eu0, eu]⟩
          have ndD : d ≠ D := fun q => by
            obtain ⟨ks, e, _⟩ := m4
            rw [q, hD] at e
            cases e
          have np2 : D ≠ p2 := ne_of_none z1 hp2
          have mD : MemoAt (Cl n) HD d := by
            obtain ⟨ks, e, r⟩ := m4
            exact ⟨ks, z2 _ _ e, r⟩
          have dp2 : d ≠ p2 := mD.ne hp2
          have x5 : Evl.Ex H (upd HD p2 (.lst (vN A))) := (x4.trans z2).trans (Evl.Ex.new hp2)
          have m5 := mD.upd (o := .lst (vN A)) dp2
          have zD : upd HD p2 (.lst (vN A)) D = some (.lst (vN B)) := by rw [upd_ne np2]; exact z1
          have zp : upd HD p2 (.lst (vN A)) p1 = some (.lst (vN l)) := by rw [upd_ne (ne_of_none z3 hp2)]; exact z3
          refine ⟨!(vN B).isEmpty, .inl ⟨_, SqL.of zD, rfl⟩, ?_⟩
          by_cases qB : B = []
          · refine iteT' (by rw [qB]; rfl) (mk f (m / 2) b sg l p1 _ _ _ _ _ _ _ _ _ rfl (by omega) (by omega) (by omega) c2.1 ?_ (Nat.le_refl _) l6 zp l8 ?_ ?_ m5 x5)
            · have := filt_split (c := f + m / 2) l4.1
              rw [hA, hB, qB, List.append_nil] at this
              rw [this]; exact hlo
            · have := filt_split (c := f + m / 2) l4.1
              rw [hA, hB, qB, List.append_nil] at this
              rw [hN, if_pos qB, ← this]; exact fun q => q
            · have := filt_split (c := f + m / 2) l4.1
              rw [hA, hB, qB, List.append_nil] at this
              rw [hN, if_pos qB, ← this]
              exact fun v hv => ⟨v, hv, rfl⟩
          · have eB : (vN B).isEmpty = false := by
              cases B with
              | nil => exact absurd rfl qB
              | cons _ _ => rfl
            rw [if_neg qB] at hN
            have ea : V.int ((f : Int) + (m : Int) / 2 - 1) = V.int ((f + m / 2 - 1 : Nat) : Int) := by congr 1; omega
            have eb : V.int ((f : Int) + (m : Int) - 1) = V.int ((f + m - 1 : Nat) : Int) := by congr 1; omega
            refine iteF' (by rw [eB]; simp) ⟨sz (by decide), fun p3 hp3 => ?_⟩
            rw [ea]
            have e3 := Evl.Ex.new (o := .lst (vN [f + m / 2 - 1])) hp3
            refine eqL (l := A) (m := [f + m / 2 - 1]) (SqL.of (e3 _ _ upd_same)) (SqL.of upd_same) ⟨_, rfl, ite2 (fun q2 => ?_) (fun q2 => ?_)⟩
            · have q2 := of_decide_eq_true q2
              rw [if_pos q2] at hN
              refine ⟨_, rfl, .inl (by rcases l6 with rfl | rfl <;> exact ⟨by decide, by decide⟩), sz (by decide), fun p4 hp4 => ⟨_, SqT.of upd_same, rfl, _, _, rfl, _, _, rfl, _, _, rfl, rfl, ?_⟩⟩
              have e4 := Evl.Ex.new (o := .tup [.int ((f : Int) + (m : Int) / 2), .int ((m : Int) - (m : Int) / 2), .ref D]) hp4
              refine mk (f + m / 2) (m - m / 2) _ sg B D _ _ _ _ _ _ _ _ _ (by omega) (by omega) (by omega) (by omega) c2.2 hhi hBl l6 (e4 _ _ (e3 _ _ zD)) (Ne.symm ndD) ?_ ?_ ((m5.upd (m5.ne hp3)).upd ((m5.upd (m5.ne hp3)).ne hp4)) ((x5.trans e3).trans e4)
              · rw [hN]; intro q; rw [q]; rfl
              · rw [hN]; intro v hv; rw [hv]
                refine ⟨Mv (m / 2) + v, rfl, ?_⟩
                rcases l6 with rfl | rfl <;> omega
            · have q2 : ¬ A = [f + m / 2 - 1] := fun q => q2 (decide_eq_true q)
              rw [if_neg q2] at hN
              refine ⟨sz (by decide), fun p4 hp4 => ?_⟩
              rw [eb]
              have e4 := Evl.Ex.new (o := .lst (vN [f + m - 1])) hp4
              refine eqL (l := B) (m := [f + m - 1]) (SqL.of (e4 _ _ (e3 _ _ zD))) (SqL.of upd_same) ⟨_, rfl, ite2 (fun q3 => ?_) (fun q3 => ?_)⟩
              · have q3 := of_decide_eq_true q3
                rw [if_pos q3] at hN
                refine ⟨_, rfl, .inl ⟨by omega, by omega⟩, _, rfl, .inl (by rcases l6 with rfl | rfl <;> exact ⟨by decide, by decide⟩), ?_⟩
                refine mk f (m / 2) _ (-sg) A p2 _ _ _ _ _ _ _ _ _ (by omega) (by omega) (by omega) (by omega) c2.1 hlo hAl (by omega) (e4 _ _ (e3 _ _ upd_same)) (Ne.symm dp2) ?_ ?_ ((m5.upd (m5.ne hp3)).upd ((m5.upd (m5.ne hp3)).ne hp4)) ((x5.trans e3).trans e4)
                · rw [hN]; intro q; rw [q]; rfl
                · rw [hN]; intro v hv; rw [hv]
                  have := Nm_le _ _ _ _ (by omega) hlo hv
                  refine ⟨2 * Mv (m / 2) + Mv (m - m / 2) - v, rfl, ?_⟩
                  rcases l6 with rfl | rfl <;> omega
              · have q3 : ¬ B = [f + m - 1] := fun q => q3 (decide_eq_true q)
                rw [if_neg q3] at hN
                have k5 := kq2 _ ((x5.trans e3).trans e4)
                rw [l9 hN] at k5
                exact k5
      · have : m = 1 := by omega
        subst this
        obtain ⟨u, hu, eu⟩ := l10 l.length (by rw [Nm, dif_pos (by omega)])
        have k5 := kq2 H2 l12
        rw [hu] at k5
        have e5 : (vN l).length = l.length := by unfold vN; rw [List.length_map]
        refine ⟨_, .inl (SqL.of l7), .inl (by rcases l6 with rfl | rfl <;> exact ⟨by decide, by decide⟩), ?_⟩
        rw [e5, ← eu]
        exact k5
end


theorem perm_erase : ∀ {l : List Nat} {k : Nat} (h : k < l.length), (l[k] :: l.eraseIdx k).Perm l
  | [], _, h => absurd h (Nat.not_lt_zero _)
  | _ :: _, 0, _ => .refl _
  | x :: l, k + 1, h => by
    have ih := perm_erase (l := l) (k := k) (by simpa using h)
    exact (List.Perm.swap x _ _).trans (ih.cons x)
theorem vN_erase : ∀ {l : List Nat} {k : Nat}, (vN l).eraseIdx k = vN (l.eraseIdx k)
  | [], _ => rfl
  | _ :: _, 0 => rfl
  | x :: l, k + 1 => by
    have ih := vN_erase (l := l) (k := k)
    show V.int (x : Int) :: (vN l).eraseIdx k = _
    rw [ih]; rfl
theorem lcg_tup {K : PySem.W.Frag} {a : Addr} {xs : List V} {g : TG} {tt : TT} {te : TE} {vs : List Nat} {σ : L2.St} {H1 : Hp} {Q : VK} (Pv : Addr → Nat → Hp → Prop) (h0 : ∀ D, H1 D = none → Pv D 0 (upd H1 D (.lst []))) (hl : ∀ D i H, H1 D = none → i ≤ xs.length → Pv D i H → SqT K H a xs)
    (hs : ∀ D i x H, H1 D = none → xs[i]? = some x → Pv D i H → g x (wipe σ vs) H fun σ2 H2 => wipe σ2 vs = wipe σ vs ∧ tt σ2 H2 fun b H3 =>
      if b = true then te σ2 H3 fun y H4 => ∃ acc, H4 D = some (.lst acc) ∧ acc.length < sizeLine ∧ Pv D (i + 1) (upd H4 D (.lst (acc ++ [y]))) else Pv D (i + 1) H3) (hd : ∀ D H, H1 D = none → Pv D xs.length H → Q (.ref D) H) : LcG (Itt K a) g tt te vs σ Q H1 :=
  fun D hD => lc_tup (Qd := fun H => Q (.ref D) H) (Pv D) (h0 D hD) (fun i H hi h => hl D i H hD hi h) (fun i x H hi h => hs D i x H hD hi h) fun H h => hd D H hD h
theorem seqIx {k n : Nat} (h : k < n) : seqIndex? (k : Int) n = some k := by
  unfold seqIndex?
  have e : (if (k : Int) < 0 then (k : Int) + n else k) = k := if_neg (by omega)
  simp only [e]
  rw [if_pos (by simp; omega)]
  rfl
theorem cast_map {l : List Nat} : (l.map fun z : Nat => (z : Int)).map V.int = vN l := by rw [List.map_map]; rfl
section
variable {P : Program} {w : World} {K : PySem.W.Frag} {mg : Str → Option Value} {base : Heap} {a : Ad}
def spOrd : Sp := fun vs H Q _ => ∃ (p c : Addr) (n : Nat), vs = [.ref p, .int n] ∧ HandAt H p c ∧ n ≤ 1000 ∧ ∀ q ns H', Fr p H H' → HandAt H' p c → H q = none → H' q = some (.lst (vN ns)) → ns.Perm (List.range n) → Q (.ref q) H'
def ivOrd (p c l t : Addr) (n : Nat) (H : Hp) : Nat → L2.St → Hp → Prop := fun i σ H' => ∃ (ls ts : List Nat) (v : Option V), σ = [some (.ref p), some (.int n), some (.ref l), some (.ref t), v] ∧
  H' l = some (.lst (vN ls)) ∧ H' t = some (.lst (vN ts)) ∧ ls.length + i = n ∧ ts.length = i ∧ (ts ++ ls).Perm (List.range n) ∧ HandAt H' p c ∧ Fr p H H'
theorem ok_law_order (T : Txt K mg a) : FnOk P w K mg base CX0 3 a.f_law_order a.d_law_order ["_law_hand_here", "_law_many"] spOrd := by
  refine T.F_law_order.ok sc_law_order (fun vs H Q E h => ?_) (fun cdv A outer s H vs Q E hr h => ?_)
  · obtain ⟨_, _, _, rfl, _⟩ := h
    rfl
  · obtain ⟨p, c, n, rfl, hh, hn, k⟩ := h
    refine ⟨_, (pss_cons (ps_set (i := 2) sc_law_order.nd rfl (by first | exact Or.inl rfl | exact Or.inr rfl) (pe_listRg (by rfl) (by rfl) T.z_list (prg_1 (by rfl) T.z_range (pv 1))))
  (pss_cons (ps_set (i := 3) sc_law_order.nd rfl (by first | exact Or.inl rfl | exact Or.inr rfl) (pe_lst pa_nil))
  (pss_cons (ps_for PassesOwn.never rfl (pi_range1 (by rfl) T.z_range (pa_cons (pv 1) pa_nil)) (pg_name (i := 4) sc_law_order.nd rfl (by first | exact Or.inl rfl | exact Or.inr rfl)) (pss_one (ps_expr (pe_bm PySem.F.plainAttrs_list PySem.F.slot_list_append PySem.F.type_list_append mt_append (pv 3) (pa_cons (pe_bm PySem.F.plainAttrs_list PySem.F.slot_list_pop PySem.F.type_list_pop mt_popAt (pv 2) (pa_cons (pe_call (ok_law_take T) (hr.mono (by decide)) rfl T.m_law_take T.F_law_take.kp T.b_law_take .nil pass0 (pa_cons (pv 0) (pa_cons (pe_callB call_len_seq (by rfl) T.z_len (by decide +kernel) (pa_cons (pv 2) pa_nil)) pa_nil))) pa_nil)) pa_nil)))))
  (pss_one (ps_ret (pv 3)))))), ?_⟩
    walk_at "sm"
    refine ⟨⟨by omega, by omega, by omega, by omega, by omega⟩, fun l hl => ⟨sz (by decide), fun t ht => ?_⟩⟩
    have eR : rgV 0 (n : Int) = vN (List.range n) := by unfold rgV vN; simp
    rw [eR] at ht ⊢
    have nlt : l ≠ t := ne_of_none upd_same ht
    have ht2 : H t = none := by rw [upd_ne (Ne.symm nlt)] at ht; exact ht
    have hh1 := (hh.upd (o := .lst (vN (List.range n))) (hh.lt hl) (hh.lc hl)).upd (o := .lst []) (hh.lt ht2) (hh.lc ht2)
    refine ⟨_, rfl, (n : Int), rfl, by omega, by omega, ?_⟩
    refine for_range (lo := 0) (n := (n : Int).toNat) (ivOrd p c l t n H) ⟨List.range n, [], none, rfl, by rw [upd_ne nlt, upd_same], upd_same, by rw [List.length_range]; rfl, rfl, .refl _, hh1, (Fr.of (Evl.Ex.new hl)).trans (Fr.of (Evl.Ex.new ht))⟩ ?_ ?_
    · rintro i σ H' hi ⟨ls, ts, v, rfl, l1, l2, l3, l4, l5, l6, l7⟩
      walk_at "sm"
      have hlen : (vN ls).length = ls.length := by unfold vN; rw [List.length_map]
      refine ⟨.inl ⟨rfl, _, SqL.of l2⟩, .inl ⟨rfl, _, SqL.of l1⟩, _, .inl (SqL.of l1), tk l6 (by omega) (by omega) fun r H2 r0 r1 f2 h2 => ?_⟩
      have nlp := hh.lt hl
      have ntp := hh.lt ht2
      have y1 := f2 _ _ nlp l1
      have y2 := f2 _ _ ntp l2
      obtain ⟨k, rfl⟩ : ∃ k : Nat, r = k := ⟨r.toNat, by omega⟩
      have hk : k < ls.length := by omega
      have eP : (vN ls).eraseIdx k = vN (ls.eraseIdx k) := vN_erase
      refine ⟨l, _, (k : Int), k, .int (ls[k] : Int), rfl, rfl, y1, by omega, by omega, ?_, ?_, t, _, _, rfl, rfl, by rw [upd_ne (Ne.symm nlt)]; exact y2, ?_, ?_⟩
      · rw [hlen]; exact seqIx hk
      · unfold vN
        rw [List.getElem?_map, List.getElem?_eq_getElem hk]; rfl
      · unfold vN
        rw [List.length_map]
        exact Nat.lt_of_lt_of_le (by omega : ts.length < 2000) (by decide)
      · rw [eP]
        refine ⟨ls.eraseIdx k, ts ++ [ls[k]], _, rfl, by rw [upd_ne nlt, upd_same], by rw [upd_same]; unfold vN; rw [List.map_append]; rfl, by rw [List.length_eraseIdx_of_lt hk]; omega, by rw [List.length_append, l4]; rfl, ?_, (h2.upd nlp (hh.lc hl)).upd ntp (hh.lc ht2), ((l7.trans f2).mut hl).mut ht2⟩
        refine List.Perm.trans ?_ l5
        rw [List.append_assoc]
        exact (perm_erase hk).append_left ts
    · rintro σ H' ⟨ls, ts, v, rfl, l1, l2, l3, l4, l5, l6, l7⟩
      walk_at "sm"
      have : ls = [] := List.eq_nil_of_length_eq_zero (by omega)
      subst this
      rw [List.append_nil] at l5
      exact k t ts _ l7 l6 ht2 l2 l5
def spPl (K : PySem.W.Frag) : Sp := fun vs H Q _ => ∃ (q : Addr) (ns : List Nat), vs = [.ref q] ∧ H q = some (.tup (vN ns)) ∧ ns.length ≤ 1000 ∧ ∀ H', Evl.Ex H H' → Q (.bl true) H'
theorem ok_law_places (T : Txt K mg a) : FnOk P w K mg base CX0 3 a.f_law_places a.d_law_places ["_law_thing"] (spPl K) := by
  refine T.F_law_places.ok sc_law_places (fun vs H Q E h => ?_) (fun cdv A outer s H vs Q E hr h => ?_)
  · obtain ⟨_, _, rfl, _⟩ := h
    rfl
  · obtain ⟨q, ns, rfl, hq, hl, k⟩ := h
    refine ⟨_, (pss_one (ps_ret (pe_and (pe_callB call_isi (by rfl) T.z_isinstance (by decide +kernel) (pa_cons (pv 0) (pa_cons (pe_bltn (v := .ty "tuple") (by rfl) T.z_tuple (by decide +kernel) rfl) pa_nil))) (pe_one (pe_callB (cr_all rfl) (by rfl) T.z_all (by decide +kernel) (pa_cons (pe_lc (own := [("_law_part", 1)]) (g := gName 1) (tt := tYes) rfl sc_law_places.nd (pi_tup (pv 0)) (blkOk_by (own := [("_law_part", 1)]) (N := ["_law_thing", "_law_part"]) (sc := defScope s_law_places) (by decide +kernel)) (fun _ _ _ _ _ => pg_name (i := 1) sc_law_places.nd rfl (Or.inl rfl)) (fun _ _ _ _ _ => pts_nil) (fun _ _ _ _ _ => (pe_call (ok_law_whole T) (hr.mono (by decide)) rfl T.m_law_whole T.F_law_whole.kp T.b_law_whole .nil pass0 (pa_cons (pv 1) pa_nil)))) pa_nil)))))), ?_⟩
    walk_at "sm"
    refine isi_ty (t := "tuple") (b := true) (.base (.tup hq)) (by decide +kernel) ⟨_, rfl, iteT ⟨⟨_, SqT.of hq⟩, ?_⟩⟩
    refine lcg_tup (xs := vN ns) (fun D i HD => HD D = some (.lst ((List.replicate i true).map V.bl)) ∧ i ≤ ns.length ∧ Evl.Ex H HD) (fun D hD => ⟨by rw [upd_same]; rfl, Nat.zero_le _, Evl.Ex.new hD⟩) (fun D i HD hD hi z => SqT.of (z.2.2 _ _ hq)) ?_ ?_
    · rintro D i x0 HD hD hi ⟨z1, z0, z2⟩
      obtain ⟨z, hz, rfl⟩ : ∃ z, ns[i]? = some z ∧ x0 = .int (z : Int) := by
        unfold vN at hi
        rw [List.getElem?_map] at hi
        cases e2 : ns[i]? with
        | none => rw [e2] at hi; cases hi
        | some z => rw [e2] at hi; exact ⟨z, rfl, (Option.some.inj hi).symm⟩
      have hil := (List.getElem?_eq_some_iff.mp hz).1
      walk_at "sm"
      refine ⟨_, rfl, plain_int, _, z1, ?_, ?_, hil, z2.mut hD⟩
      · rw [List.length_map, List.length_replicate]
        exact Nat.lt_of_lt_of_le (by omega : i < 2000) (by decide)
      · rw [upd_same]
        show some (HO.lst (List.map V.bl (List.replicate i true) ++ [V.bl true])) = some (HO.lst (List.map V.bl (List.replicate (i + 1) true)))
        rw [List.replicate_succ', List.map_append]; rfl
    · rintro D HD hD ⟨z1, z0, z2⟩
      refine ⟨D, _, rfl, SqL.of z1, ?_⟩
      rw [show (List.replicate (vN ns).length true).all id = true by simp]
      exact k _ z2
def spShf (K : PySem.W.Frag) : Sp := fun vs H Q _ => ∃ (p c q : Addr) (ns : List Nat), vs = [.ref p, .ref q] ∧ HandAt H p c ∧ p ≠ q ∧ H q = some (.lst (vN ns)) ∧ ns.length ≤ 1000 ∧ ∀ r ms H', Fr p H H' → HandAt H' p c → H r = none → H' r = some (.lst (vN ms)) → ms.Perm ns → Q (.ref r) H'
theorem ok_law_shuffled (T : Txt K mg a) : FnOk P w K mg base CX0 4 a.f_law_shuffled a.d_law_shuffled ["_law_hand_here", "_law_things"] (spShf K) := by
  refine T.F_law_shuffled.ok sc_law_shuffled (fun vs H Q E h => ?_) (fun cdv A outer s H vs Q E hr h => ?_)
  · obtain ⟨_, _, _, _, rfl, _⟩ := h
    rfl
  · obtain ⟨p, c, q, ns, rfl, hh, hpq, hq, hl, k⟩ := h
    refine ⟨_, (pss_one (ps_ret (pe_lc (own := [("_law_at", 2)]) (g := gName 2) (tt := tYes) rfl sc_law_shuffled.nd (pi_list (pe_call (ok_law_order T) (hr.mono (by decide)) rfl T.m_law_order T.F_law_order.kp T.b_law_order .nil pass0 (pa_cons (pv 0) (pa_cons (pe_callB call_len_seq (by rfl) T.z_len (by decide +kernel) (pa_cons (pv 1) pa_nil)) pa_nil)))) (blkOk_by (own := [("_law_at", 2)]) (N := ["_law_hand_here", "_law_things", "_law_at"]) (sc := defScope s_law_shuffled) (by decide +kernel)) (fun _ _ _ _ _ => pg_name (i := 2) sc_law_shuffled.nd rfl (Or.inl rfl)) (fun _ _ _ _ _ => pts_nil) (fun _ _ _ _ _ => (pe_ix ix_list_b (pv 1) (pv 2) (fun _ _ => rfl)))))), ?_⟩
    walk_at "sm"
    have hlen : (vN ns).length = ns.length := by unfold vN; rw [List.length_map]
    refine ⟨_, .inl (SqL.of hq), p, c, _, rfl, hh, by omega, fun o os H1 f1 h1 ho1 ho hperm => ⟨o, rfl, ⟨_, SqL.of ho⟩, ?_⟩⟩
    have hq1 := f1 _ _ (Ne.symm hpq) hq
    have hop : o ≠ p := hh.lt ho1
    refine lcg_list (xs := vN os) (fun D i HD => HD D = some (.lst (vN ((os.take i).map fun z => ns.getD z 0))) ∧ Evl.Ex H1 HD) (fun D hD => ⟨by rw [upd_same]; rfl, Evl.Ex.new hD⟩) (fun D i HD hD hi z => Evl.ex_l z.2 (SqL.of ho)) ?_ ?_
    · rintro D i x0 HD hD hi ⟨z1, z2⟩
      obtain ⟨z, hz, rfl⟩ : ∃ z, os[i]? = some z ∧ x0 = .int (z : Int) := by
        unfold vN at hi
        rw [List.getElem?_map] at hi
        cases e2 : os[i]? with
        | none => rw [e2] at hi; cases hi
        | some z => rw [e2] at hi; exact ⟨z, rfl, (Option.some.inj hi).symm⟩
      have hzl : z < ns.length := List.mem_range.mp (hlen ▸ hperm.mem_iff.mp (List.mem_of_getElem? hz))
      walk_at "sm"
      refine ixl (SqL.of (z2 _ _ hq1)) (v := .int ((ns.getD z 0 : Nat) : Int)) (atI_nat ?_) ⟨_, z1, ?_, ?_, z2.mut hD⟩
      · unfold vN
        rw [List.getElem?_map, List.getElem?_eq_getElem hzl, List.getD_eq_getElem?_getD, List.getElem?_eq_getElem hzl]; rfl
      · unfold vN
        rw [List.length_map, List.length_map, List.length_take]
        have : os.length = ns.length := by rw [hperm.length_eq, List.length_range, hlen]
        exact Nat.lt_of_lt_of_le (by omega : _ < 2000) (by decide)
      · rw [upd_same, List.take_succ, hz, Option.toList_some, List.map_append]
        unfold vN
        rw [List.map_append]
        rfl
    · rintro D HD hD ⟨z1, z2⟩
      have e : (vN os).length = os.length := by unfold vN; rw [List.length_map]
      rw [e, List.take_length] at z1
      have hD0 : H D = none := by
        cases e2 : H D with
        | none => rfl
        | some o2 =>
          by_cases q2 : D = p
          · obtain ⟨cells, i2, g2, t2, hp2, _⟩ := h1
            rw [← q2, hD] at hp2; cases hp2
          · rw [f1 _ _ q2 e2] at hD; cases hD
      refine k D _ HD (f1.trans (Fr.of z2)) (h1.go z2) hD0 z1 ?_
      rw [hlen] at hperm
      refine (hperm.map _).trans ?_
      have : (List.range ns.length).map (fun z => ns.getD z 0) = ns := by
        refine List.ext_getElem (by simp) fun i2 h3 h4 => ?_
        simp [h4]
      rw [this]
def spGreat : Sp := fun vs H Q _ => ∃ (p c : Addr) (m : Int), vs = [.ref p, .int m] ∧ HandAt H p c ∧ 0 < m ∧ ∀ r H', 0 ≤ r → r < m → Fr p H H' → HandAt H' p c → Q (.int r) H'
def ivGr (p c : Addr) (m : Int) (H : Hp) : Nat → L2.St → Hp → Prop := fun _ σ H' => ∃ (t : Int) (v : Option V), σ = [some (.ref p), some (.int m), some (.int t), v] ∧ Fr p H H' ∧ HandAt H' p c
theorem ok_law_great (T : Txt K mg a) : FnOk P w K mg base CX0 3 a.f_law_great a.d_law_great ["_law_hand_here", "_law_limit"] spGreat := by
  refine T.F_law_great.ok sc_law_great (fun vs H Q E h => ?_) (fun cdv A outer s H vs Q E hr h => ?_)
  · obtain ⟨_, _, _, rfl, _⟩ := h
    rfl
  · obtain ⟨p, c, m, rfl, hh, hm, k⟩ := h
    refine ⟨_, (pss_cons (ps_set (i := 2) sc_law_great.nd rfl (by first | exact Or.inl rfl | exact Or.inr rfl) pe_int)
  (pss_cons (ps_for PassesOwn.never rfl (pi_range1 (by rfl) T.z_range (pa_cons pe_int pa_nil)) (pg_name (i := 3) sc_law_great.nd rfl (by first | exact Or.inl rfl | exact Or.inr rfl)) (pss_one (ps_set (i := 2) sc_law_great.nd rfl (by first | exact Or.inl rfl | exact Or.inr rfl) (pe_op op_add (pe_op op_mul (pv 2) pe_int) (pe_call (ok_law_take T) (hr.mono (by decide)) rfl T.m_law_take T.F_law_take.kp T.b_law_take .nil pass0 (pa_cons (pv 0) (pa_cons pe_int pa_nil)))))))
  (pss_one (ps_ret (pe_op op_mod (pe_callTy call_int1 (by rfl) T.z_int (by decide +kernel) (pa_cons (pv 2) pa_nil)) (pv 1)))))), ?_⟩
    walk_at "sm"
    refine ⟨_, rfl, by omega, by omega, for_range (lo := 0) (n := (8 : Int).toNat) (ivGr p c m H) ⟨_, _, rfl, Fr.refl _, hh⟩ ?_ ?_⟩
    · rintro i σ H' hi ⟨t, v, rfl, f1, h1⟩
      walk_at "sm"
      refine ⟨.inr ⟨by omega, by omega⟩, tk h1 (by omega) (by omega) fun r H2 r0 r1 f2 h2 => ⟨_, rfl, _, _, rfl, f1.trans f2, h2⟩⟩
    · rintro σ H' ⟨t, v, rfl, f1, h1⟩
      walk_at "sm"
      exact ⟨hm, k _ _ (Int.emod_nonneg _ (by omega)) (Int.emod_lt_of_pos _ hm) f1 h1⟩
def midLn (p c : Addr) (x : Int) (H : Hp) : L2.St → Hp → Prop := fun σ' H' => ∃ (t : Int) (i : Nat) (v : Option V), σ' = [some (.ref p), some (.int x), some (.int t), v, none, none] ∧ t = 10 ^ i ∧ i ≤ 30 ∧ Fr p H H' ∧ HandAt H' p c
def spLn : Sp := fun vs H Q _ => ∃ (p c : Addr), vs = [.ref p] ∧ HandAt H p c ∧ ∀ (n : Nat) H', 1 ≤ n → (n : Int) ≤ 10 ^ 30 → Fr p H H' → HandAt H' p c → Q (.int n) H'
theorem ok_law_length (T : Txt K mg a) : FnOk P w K mg base CX0 4 a.f_law_length a.d_law_length ["_law_hand_here"] spLn := by
  refine T.F_law_length.ok sc_law_length (fun vs H Q E h => ?_) (fun cdv A outer s H vs Q E hr h => ?_)
  · obtain ⟨_, _, rfl, _⟩ := h
    rfl
  · obtain ⟨p, c, rfl, hh, k⟩ := h
    refine ⟨_, (pss_cons (ps_set (i := 1) sc_law_length.nd rfl (by first | exact Or.inl rfl | exact Or.inr rfl) (pe_call (ok_law_take T) (hr.mono (by decide)) rfl T.m_law_take T.F_law_take.kp T.b_law_take .nil pass0 (pa_cons (pv 0) (pa_cons pe_int pa_nil))))
  (pss_cons (ps_if (pt_cmpR op_eq (pv 1) pe_int (nomark _)) (pss_one (ps_ret (pe_op op_sub (pe_op op_pow pe_int pe_int) (pe_call (ok_law_take T) (hr.mono (by decide)) rfl T.m_law_take T.F_law_take.kp T.b_law_take .nil pass0 (pa_cons (pv 0) (pa_cons pe_int pa_nil))))))
    pss_nil)
  (pss_cons (ps_if (pt_cmpR op_lt (pv 1) pe_int (nomark _)) (pss_one (ps_ret (pe_op op_add pe_int (pe_call (ok_law_take T) (hr.mono (by decide)) rfl T.m_law_take T.F_law_take.kp T.b_law_take .nil pass0 (pa_cons (pv 0) (pa_cons pe_int pa_nil))))))
    pss_nil)
  (pss_cons (ps_set (i := 2) sc_law_length.nd rfl (by first | exact Or.inl rfl | exact Or.inr rfl) pe_int)
  (Evl.pss_cut (ps_for PassesOwn.never rfl (pi_range1 (by rfl) T.z_range (pa_cons (pe_op op_add pe_int (pe_call (ok_law_take T) (hr.mono (by decide)) rfl T.m_law_take T.F_law_take.kp T.b_law_take .nil pass0 (pa_cons (pv 0) (pa_cons pe_int pa_nil)))) pa_nil)) (pg_name (i := 3) sc_law_length.nd rfl (by first | exact Or.inl rfl | exact Or.inr rfl)) (pss_one (ps_set (i := 2) sc_law_length.nd rfl (by first | exact Or.inl rfl | exact Or.inr rfl) (pe_op op_mul (pv 2) pe_int))))
  (pss_cons (ps_set (i := 4) sc_law_length.nd rfl (by first | exact Or.inl rfl | exact Or.inr rfl) (pe_op op_add pe_int (pe_call (ok_law_great T) (hr.mono (by decide)) rfl T.m_law_great T.F_law_great.kp T.b_law_great .nil pass0 (pa_cons (pv 0) (pa_cons (pv 2) pa_nil)))))
  (pss_cons (ps_if (pt_cmpR op_eq (pv 1) pe_int (nomark _)) (pss_cons (ps_set (i := 5) sc_law_length.nd rfl (by first | exact Or.inl rfl | exact Or.inr rfl) (pe_call (ok_law_two T) (hr.mono (by decide)) rfl T.m_law_two T.F_law_two.kp T.b_law_two .nil pass0 (pa_cons (pe_op op_add pe_int (pe_call (ok_law_take T) (hr.mono (by decide)) rfl T.m_law_take T.F_law_take.kp T.b_law_take .nil pass0 (pa_cons (pv 0) (pa_cons pe_int pa_nil)))) pa_nil)))
  (pss_one (ps_ret (pe_op op_add (pv 5) (pe_call (ok_law_take T) (hr.mono (by decide)) rfl T.m_law_take T.F_law_take.kp T.b_law_take .nil pass0 (pa_cons (pv 0) (pa_cons pe_int pa_nil)))))))
    pss_nil)
  (pss_one (ps_ret (pv 4)))))))))), ?_⟩
    walk_at "sm"
    have p30 : (10 : Int) ^ 30 = 1000000000000000000000000000000 := by decide
    refine tk hh (by omega) (by omega) fun x H1 x0 x1 f1 h1 => ⟨rfl, ite2 (fun e => ?_) (fun e => ⟨_, rfl, ite2 (fun e2 => ?_) (fun e2 => ?_)⟩)⟩
    · refine ⟨by unfold CPow; decide, tk h1 (by omega) (by omega) fun r H2 r0 r1 f2 h2 => ⟨_, rfl, ?_⟩⟩
      have := k (10 ^ 30 - r.toNat) H2 (by omega) (by omega) (f1.trans f2) h2
      have e3 : (((10 ^ 30 - r.toNat : Nat)) : Int) = 10 ^ Int.toNat 30 - r := by
        show _ = (10 : Int) ^ 30 - r
        omega
      rw [e3] at this
      exact this
    · refine tk h1 (by omega) (by omega) fun r H2 r0 r1 f2 h2 => ⟨_, rfl, ?_⟩
      have := k (1 + r.toNat) H2 (by omega) (by omega) (f1.trans f2) h2
      have e3 : (((1 + r.toNat : Nat)) : Int) = 1 + r := by omega
      rw [e3] at this
      exact this
    · refine ⟨midLn p c x H, ?_, ?_⟩
      · walk_at "sm"
        refine ⟨_, rfl, ?_⟩
        simp only [tCons, tC, tNil, List.append_nil]
        refine tk h1 (by omega) (by omega) fun r H2 r0 r1 f2 h2 => ⟨1, r, rfl, rfl, 1 + r, rfl, by omega, by omega, ?_⟩
        refine for_range (D := { nx := midLn p c x H, rt := Q }) (lo := 0) (n := (1 + r).toNat) (fun i σ H' => H' = H2 ∧ ∃ (t : Int) (v : Option V), σ = [some (.ref p), some (.int x), some (.int t), v, none, none] ∧ t = 10 ^ i) ⟨rfl, 1, none, rfl, rfl⟩ ?_ ?_
        · rintro i σ H' hi ⟨rfl, t, v, rfl, et⟩
          walk_at "sm"
          refine ⟨.inr ⟨by omega, by omega⟩, ?_⟩
          first | exact ⟨rfl, by rw [et, Int.pow_succ]⟩ | exact ⟨by rw [et, Int.pow_succ], rfl⟩ | exact by rw [et, Int.pow_succ]
        · rintro σ H' ⟨rfl, t, v, rfl, et⟩
          exact ⟨t, (1 + r).toNat, v, rfl, et, by omega, f1.trans f2, h2⟩
      · rintro σ' H' ⟨t, i, v, rfl, et, hi, f2, h2⟩
        walk_at "sm"
        have b1 : (1 : Int) ≤ t := by rw [et]; exact_mod_cast Nat.one_le_pow i 10 (by decide)
        have b2 : t ≤ 10 ^ 30 := by
          rw [et]
          exact_mod_cast Nat.pow_le_pow_right (show 0 < 10 by decide) hi
        refine ⟨p, c, t, rfl, h2, by omega, fun r H2 r0 r1 f3 h3 => ⟨_, rfl, ite2 (fun e3 => ?_) (fun e3 => ?_)⟩⟩
        · refine tk h3 (by omega) (by omega) fun r2 H3 r3 r4 f4 h4 => ⟨_, rfl, ?_⟩
          obtain ⟨j, rfl⟩ : ∃ j : Nat, r2 = j := ⟨r2.toNat, by omega⟩
          have p2 : (2 : Int) ^ (1 + j) ≤ 2 ^ 98 := by exact_mod_cast Nat.pow_le_pow_right (show 0 < 2 by decide) (show 1 + j ≤ 98 by omega)
          have p1 : (1 : Int) ≤ 2 ^ (1 + j) := by exact_mod_cast Nat.one_le_pow (1 + j) 2 (by decide)
          have p3 : (2 : Int) ^ 98 + 1 ≤ 10 ^ 30 := by decide
          refine ⟨1 + j, by first | (congr 2; done) | (congr 2; omega), by omega, tk h4 (by omega) (by omega) fun r5 H4 r6 r7 f5 h5 => ⟨_, rfl, _, rfl, ?_⟩⟩
          have := k (2 ^ (1 + j) + r5.toNat) H4 ?_ ?_ (((f2.trans f3).trans f4).trans f5) h5
          · have e5 : (((2 ^ (1 + j) + r5.toNat : Nat)) : Int) = 2 ^ (1 + j) + r5 := by
              push_cast; omega
            rw [e5] at this
            exact this
          · have := Nat.one_le_pow (1 + j) 2 (by decide)
            omega
          · have e5 : (((2 ^ (1 + j) + r5.toNat : Nat)) : Int) = 2 ^ (1 + j) + r5 := by
              push_cast; omega
            rw [e5]
            omega
        · have := k (1 + r.toNat) H2 (by omega) (by omega) (f2.trans f3) h3
          have e3 : (((1 + r.toNat : Nat)) : Int) = 1 + r := by omega
          rw [e3] at this
          exact this
end


section
variable {P : Program} {w : World} {K : PySem.W.Frag} {mg : Str → Option Value} {base : Heap} {a : Ad}
def CntAt (H : Hp) (d : Addr) (n : Nat) : Prop := ∃ kvs, H d = some (.dK kvs) ∧ ∀ m ∈ Cl n, 1 ≤ m → valV kvs (.inl (m : Int)) = some (.int (Mv m : Int))
theorem putK_le (kvs : List (L2.Key × V)) (k : L2.Key) (v : V) : (putK kvs k v).length ≤ kvs.length + 1 := by
  unfold putK
  split <;> simp
theorem put_good {kvs : List (L2.Key × V)} {k z : Nat} (h : z = k ∨ valV kvs (.inl (z : Int)) = some (.int (Mv z : Int))) : valV (putK kvs (.inl (k : Int)) (.int (Mv k : Int))) (.inl (z : Int)) = some (.int (Mv z : Int)) := by
  rw [valV_put]
  by_cases e : z = k
  · subst e; rw [if_pos rfl]
  · rw [if_neg (by intro q; exact e (by exact_mod_cast Sum.inl.inj q))]
    rcases h with h | h
    · exact absurd h e
    · exact h
theorem CntAt.get {H : Hp} {d : Addr} {n m : Nat} (h : CntAt H d n) (hm : m ∈ Cl n) (h1 : 1 ≤ m) : DGet H d (.int (m : Int)) (some (.int (Mv m : Int))) := by
  obtain ⟨kvs, e, f⟩ := h
  rw [← f m hm h1]
  exact DGet.k (k := .inl (m : Int)) e
theorem CntAt.go {H H' : Hp} {d : Addr} {n : Nat} (e : Evl.Ex H H') (h : CntAt H d n) : CntAt H' d n := by
  obtain ⟨kvs, f, r⟩ := h
  exact ⟨kvs, e _ _ f, r⟩
def dgs (n i : Nat) : List V := (List.range i).map fun j => V.int ((n / 2 ^ j : Nat) % 2 : Int)
def ivA (n : Nat) (l : Addr) (H : Hp) : Nat → L2.St → Hp → Prop := fun i σ H' => ∃ v : Option V, σ = [some (.int n), some (.ref l), some (.int ((n / 2 ^ i : Nat) : Int)), v, none, none, none, none] ∧ H' l = some (.lst (dgs n i)) ∧ 1 ≤ n / 2 ^ i ∧ Evl.Ex H H'
def midA (n : Nat) (l : Addr) (H : Hp) : L2.St → Hp → Prop := fun σ H' => ∃ (i : Nat) (v : Option V), σ = [some (.int n), some (.ref l), some (.int ((n / 2 ^ i : Nat) : Int)), v, none, none, none, none] ∧ H' l = some (.lst (dgs n i)) ∧ n / 2 ^ i = 1 ∧ i ≤ 120 ∧ Evl.Ex H H'
def ivB (n kd : Nat) (l p : Addr) (H : Hp) : Nat → L2.St → Hp → Prop := fun i σ H' => ∃ (v w1 w2 : Option V) (kvs : List (L2.Key × V)), σ = [some (.int n), some (.ref l), some (.int ((n / 2 ^ kd : Nat) : Int)), v, some (.ref p), some (.int ((n / 2 ^ (kd - i) : Nat) : Int)), w1, w2] ∧ i ≤ kd ∧ H' l = some (.lst (dgs n kd)) ∧ H' p = some (.dK kvs) ∧ kvs.length ≤ 2 + 2 * i ∧
  (∀ j, kd - i ≤ j → j ≤ kd → valV kvs (.inl ((n / 2 ^ j : Nat) : Int)) = some (.int (Mv (n / 2 ^ j) : Int)) ∧ valV kvs (.inl ((n / 2 ^ j + 1 : Nat) : Int)) = some (.int (Mv (n / 2 ^ j + 1) : Int))) ∧ Evl.Ex H H'
def spCnt : Sp := fun vs H Q _ => ∃ n : Nat, vs = [.int n] ∧ 1 ≤ n ∧ n < 2 ^ 100 ∧ ∀ d H', Evl.Ex H H' → H d = none → CntAt H' d n → Q (.ref d) H'
theorem ok_law_chain_counts (T : Txt K mg a) : FnOk P w K mg base CX0 2 a.f_law_chain_counts a.d_law_chain_counts ["_law_length_here"] spCnt := by
  refine T.F_law_chain_counts.ok sc_law_chain_counts (fun vs H Q E h => ?_) (fun cdv A outer s H vs Q E hr h => ?_)
  · obtain ⟨_, rfl, _⟩ := h
    rfl
  · obtain ⟨n, rfl, h1, h2, k⟩ := h
    refine ⟨_, (pss_cons (ps_set (i := 1) sc_law_chain_counts.nd rfl (by first | exact Or.inl rfl | exact Or.inr rfl) (pe_lst pa_nil))
  (pss_cons (ps_set (i := 2) sc_law_chain_counts.nd rfl (by first | exact Or.inl rfl | exact Or.inr rfl) (pv 0))
  (Evl.pss_cut (ps_for PassesOwn.never rfl (pi_range1 (by rfl) T.z_range (pa_cons pe_int pa_nil)) (pg_name (i := 3) sc_law_chain_counts.nd rfl (by first | exact Or.inl rfl | exact Or.inr rfl)) (pss_cons (ps_if (pt_cmpR op_le (pv 2) pe_int (nomark _)) (pss_one ps_break)
    pss_nil)
  (pss_cons (ps_expr (pe_bm PySem.F.plainAttrs_list PySem.F.slot_list_append PySem.F.type_list_append mt_append (pv 1) (pa_cons (pe_op op_mod (pe_callTy call_int1 (by rfl) T.z_int (by decide +kernel) (pa_cons (pv 2) pa_nil)) pe_int) pa_nil)))
  (pss_one (ps_set (i := 2) sc_law_chain_counts.nd rfl (by first | exact Or.inl rfl | exact Or.inr rfl) (pe_op op_fdiv (pe_callTy call_int1 (by rfl) T.z_int (by decide +kernel) (pa_cons (pv 2) pa_nil)) pe_int))))))
  (pss_cons (ps_set (i := 4) sc_law_chain_counts.nd rfl (by first | exact Or.inl rfl | exact Or.inr rfl) pe_dnewK)
  (pss_cons (ps_asg pe_int (pg_sub (pv 4) pe_int (set_dict (hu1 hr.units)) (by intro _; rfl)))
  (pss_cons (ps_asg pe_int (pg_sub (pv 4) pe_int (set_dict (hu1 hr.units)) (by intro _; rfl)))
  (pss_cons (ps_set (i := 5) sc_law_chain_counts.nd rfl (by first | exact Or.inl rfl | exact Or.inr rfl) pe_int)
  (pss_cons (ps_for PassesOwn.never rfl (pi_range1 (by rfl) T.z_range (pa_cons (pe_callB call_len_seq (by rfl) T.z_len (by decide +kernel) (pa_cons (pv 1) pa_nil)) pa_nil)) (pg_name (i := 3) sc_law_chain_counts.nd rfl (by first | exact Or.inl rfl | exact Or.inr rfl)) (pss_cons (ps_set (i := 6) sc_law_chain_counts.nd rfl (by first | exact Or.inl rfl | exact Or.inr rfl) (pe_dget (hu1 hr.units) (pv 4) (pv 5) (fun _ _ => rfl)))
  (pss_cons (ps_set (i := 7) sc_law_chain_counts.nd rfl (by first | exact Or.inl rfl | exact Or.inr rfl) (pe_dget (hu1 hr.units) (pv 4) (pe_op op_add (pv 5) pe_int) (fun _ _ => rfl)))
  (pss_one (ps_if (pt_cmpR op_eq (pe_ix ix_list (pv 1) (pe_op op_sub (pe_op op_sub (pe_callB call_len_seq (by rfl) T.z_len (by decide +kernel) (pa_cons (pv 1) pa_nil)) pe_int) (pv 3)) (fun _ _ => rfl)) pe_int (nomark _)) (pss_cons (ps_set (i := 5) sc_law_chain_counts.nd rfl (by first | exact Or.inl rfl | exact Or.inr rfl) (pe_op op_mul pe_int (pv 5)))
  (pss_cons (ps_asg (pe_op op_mul pe_int (pv 6)) (pg_sub (pv 4) (pv 5) (set_dict (hu1 hr.units)) (by intro _; rfl)))
  (pss_one (ps_asg (pe_op op_add (pe_op op_mul pe_int (pv 6)) (pv 7)) (pg_sub (pv 4) (pe_op op_add (pv 5) pe_int) (set_dict (hu1 hr.units)) (by intro _; rfl))))))
    (pss_cons (ps_set (i := 5) sc_law_chain_counts.nd rfl (by first | exact Or.inl rfl | exact Or.inr rfl) (pe_op op_add (pe_op op_mul pe_int (pv 5)) pe_int))
  (pss_cons (ps_asg (pe_op op_add (pe_op op_mul pe_int (pv 6)) (pv 7)) (pg_sub (pv 4) (pv 5) (set_dict (hu1 hr.units)) (by intro _; rfl)))
  (pss_one (ps_asg (pe_op op_mul pe_int (pv 7)) (pg_sub (pv 4) (pe_op op_add (pv 5) pe_int) (set_dict (hu1 hr.units)) (by intro _; rfl)))))))))))
  (pss_one (ps_ret (pv 4))))))))))), ?_⟩
    walk_at "sm"
    refine ⟨sz (by decide), fun l hl => ?_⟩
    refine ⟨midA n l H, ?_, ?_⟩
    · refine ⟨120, rfl, by omega, by omega, ?_⟩
      refine for_range (D := { nx := midA n l H, rt := Q }) (lo := 0) (n := (120 : Int).toNat) (ivA n l H) ⟨none, by rw [Nat.pow_zero, Nat.div_one], by rw [upd_same]; rfl, by simpa using h1, Evl.Ex.new hl⟩ ?_ ?_
      · rintro i σ H' hi ⟨v, rfl, l1, l2, l3⟩
        walk_at "sm"
        have hi2 : i < 120 := hi
        refine ite2' (fun e => ⟨i, _, rfl, l1, by omega, by omega, l3⟩) (fun e => ⟨.inl ⟨rfl, _, SqL.of l1⟩, by omega, l, _, _, rfl, rfl, l1, ?_, by unfold CDiv; decide, ?_⟩)
        · unfold dgs
          rw [List.length_map, List.length_range]
          exact Nat.lt_of_lt_of_le (by omega : i < 2000) (by decide)
        · have e2 : n / 2 ^ (i + 1) = n / 2 ^ i / 2 := by rw [Nat.pow_succ, Nat.div_div_eq_div_mul]
          have e3 : ((n / 2 ^ (i + 1) : Nat) : Int) = ((n / 2 ^ i : Nat) : Int) / 2 := by rw [e2]; omega
          refine ⟨_, by rw [e3], ?_, by omega, l3.mut hl⟩
          rw [upd_same]
          unfold dgs
          rw [List.range_succ, List.map_append]; rfl
      · rintro σ H' ⟨v, rfl, l1, l2, l3⟩
        exfalso
        have : n / 2 ^ 120 = 0 := Nat.div_eq_of_lt (Nat.lt_of_lt_of_le h2 (Nat.pow_le_pow_right (by decide) (by decide)))
        have e : (120 : Int).toNat = 120 := rfl
        rw [e] at l2
        omega
    · rintro σ' H' ⟨kd, v, rfl, l1, l2, l3, l4⟩
      walk_at "sm"
      intro p hp
      have hp2 : H p = none := Evl.fresh_back l4 hp
      have nlp : l ≠ p := ne_of_none l1 hp
      refine ⟨p, _, rfl, DPut.k (k := .inl (1 : Int)) upd_same (by show 0 < sizeLine; decide), p, _, rfl, DPut.k (k := .inl (2 : Int)) upd_same ?_, ?_⟩
      · exact Nat.lt_of_le_of_lt (putK_le _ _ _) (by decide)
      refine ⟨_, rfl, l, rfl, _, .inl (SqL.of (by rw [upd_ne nlp, upd_ne nlp, upd_ne nlp]; exact l1)), _, rfl, by unfold dgs; rw [List.length_map, List.length_range]; omega, by unfold dgs; rw [List.length_map, List.length_range]; omega, ?_⟩
      refine for_range (lo := 0) (ivB n kd l p H) ⟨_, _, _, _, by rw [Nat.sub_zero, l2]; rfl, Nat.zero_le _, by rw [upd_ne nlp, upd_ne nlp, upd_ne nlp]; exact l1, upd_same, by exact Nat.le_trans (putK_le _ _ _) (Nat.succ_le_succ (putK_le _ _ _)), ?_, ((l4.trans (Evl.Ex.new hp)).mut hp2).mut hp2⟩ ?_ ?_
      · intro j j1 j2
        have : j = kd := by omega
        subst this
        rw [l2, Mv1 (by omega), Mv2 (by omega), Mv1 (by omega), valV_put, valV_put, valV_put, valV_put]
        exact ⟨rfl, rfl⟩
      · rintro i σ H2 hi ⟨v1, w1, w2, kvs, rfl, g1, g2, g3, g4, g5, g6⟩
        walk_at "sm"
        have hdl : (dgs n kd).length = kd := by unfold dgs; rw [List.length_map, List.length_range]
        have hik : i < kd := by rw [hdl] at hi; omega
        obtain ⟨xv1, xv2⟩ := g5 (kd - i) (Nat.le_refl _) (by omega)
        have exy : n / 2 ^ (kd - i) = n / 2 ^ (kd - (i + 1)) / 2 := by
          rw [show kd - i = kd - (i + 1) + 1 by omega, Nat.pow_succ, Nat.div_div_eq_div_mul]
        have x1 : 1 ≤ n / 2 ^ (kd - i) := by
          have := Nat.div_le_div_left (a := n) (Nat.pow_le_pow_right (show 0 < 2 by decide) (show kd - i ≤ kd by omega)) (Nat.pow_pos (by decide))
          omega
        have ei : ((dgs n kd).length : Int) - 1 - (0 + (i : Int)) = ((kd - (i + 1) : Nat) : Int) := by rw [hdl]; omega
        have eg : (dgs n kd)[kd - (i + 1)]? = some (.int ((n / 2 ^ (kd - (i + 1)) : Nat) % 2 : Int)) := by
          unfold dgs
          rw [List.getElem?_map, List.getElem?_range (by omega)]; rfl
        generalize hy : n / 2 ^ (kd - (i + 1)) = y at *
        generalize hx : n / 2 ^ (kd - i) = x at *
        have fin : ∀ (b1 b2 : V) (i1 : Int) (A1 A2 : List (L2.Key × V)) (vv : Option V), i1 = y → A1 = putK kvs (.inl (y : Int)) (.int (Mv y : Int)) → A2 = putK A1 (.inl ((y + 1 : Nat) : Int)) (.int (Mv (y + 1) : Int)) →
            ivB n kd l p H (i + 1) [some (.int n), some (.ref l), some (.int ((n / 2 ^ kd : Nat) : Int)), vv, some (.ref p), some (.int i1), some b1, some b2] (upd (upd H2 p (.dK A1)) p (.dK A2)) := by
          rintro b1 b2 i1 A1 A2 vv rfl rfl rfl
          refine ⟨_, _, _, _, by rw [hy], hik, by rw [upd_ne nlp, upd_ne nlp]; exact g2, upd_same, ?_, fun j j1 j2 => ?_, (g6.mut hp2).mut hp2⟩
          · have a1 := putK_le (putK kvs (.inl (y : Int)) (.int (Mv y : Int))) (.inl ((y + 1 : Nat) : Int)) (.int (Mv (y + 1) : Int))
            have a2 := putK_le kvs (.inl (y : Int)) (.int (Mv y : Int))
            omega
          · rcases Nat.lt_or_eq_of_le j1 with q | q
            · obtain ⟨b1, b2⟩ := g5 j (by omega) j2
              exact ⟨put_good (.inr (put_good (.inr b1))), put_good (.inr (put_good (.inr b2)))⟩
            · rw [← q, hy]
              exact ⟨put_good (.inr (put_good (.inl rfl))), put_good (.inl rfl)⟩
        have d1 : DGet H2 p (.int (x : Int)) (some (.int (Mv x : Int))) := by rw [← xv1]; exact DGet.k (k := .inl (x : Int)) g3
        have d2 : DGet H2 p (.int ((x : Int) + 1)) (some (.int (Mv (x + 1) : Int))) := by rw [← xv2]; exact DGet.k (k := .inl ((x : Int) + 1)) g3
        have len1 : kvs.length < sizeLine := Nat.lt_of_lt_of_le (by omega : kvs.length < 2000) (by decide)
        have len2 : (putK kvs (.inl (y : Int)) (.int (Mv y : Int))).length < sizeLine := Nat.lt_of_lt_of_le (by have := putK_le kvs (.inl (y : Int)) (.int (Mv y : Int)); omega : _ < 2000) (by decide)
        refine ⟨_, d1, _, d2, _, .inl (SqL.of g2), ?_⟩
        rw [ei]
        refine ixl (SqL.of g2) (atI_nat eg) ⟨rfl, ite2' (fun q => ?_) (fun q => ?_)⟩
        · have q : (y : Int) % 2 = 0 := V.int.inj q
          have ey : y = 2 * x := by omega
          have m1 : Mv y = 3 * Mv x := by rw [Mv2 (by omega), show y / 2 = x by omega, show y - x = x by omega]; omega
          have m2 : Mv (y + 1) = 2 * Mv x + Mv (x + 1) := by rw [Mv2 (by omega), show (y + 1) / 2 = x by omega, show y + 1 - x = x + 1 by omega]
          have k1 : 2 * (x : Int) = (y : Int) := by omega
          have k2 : 3 * (Mv x : Int) = (Mv y : Int) := by omega
          have k3 : 2 * (x : Int) + 1 = ((y + 1 : Nat) : Int) := by omega
          have k4 : 2 * (Mv x : Int) + (Mv (x + 1) : Int) = (Mv (y + 1) : Int) := by omega
          refine ⟨.inl ⟨by omega, by omega⟩, _, rfl, .inl ⟨by omega, by omega⟩, p, upd H2 p (.dK (putK kvs (.inl (y : Int)) (.int (Mv y : Int)))), rfl, by rw [k1, k2]; exact DPut.k (k := .inl (y : Int)) g3 len1, _, rfl, .inl ⟨by omega, by omega⟩, _, rfl, p, upd (upd H2 p (.dK (putK kvs (.inl (y : Int)) (.int (Mv y : Int))))) p (.dK (putK (putK kvs (.inl (y : Int)) (.int (Mv y : Int))) (.inl ((y + 1 : Nat) : Int)) (.int (Mv (y + 1) : Int)))), rfl, by rw [k3, k4]; exact DPut.k (k := .inl ((y + 1 : Nat) : Int)) upd_same len2, fin _ _ _ _ _ _ k1 rfl rfl⟩
        · have q : ¬ (y : Int) % 2 = 0 := fun z => q (by rw [z])
          have ey : y = 2 * x + 1 := by omega
          have m1 : Mv y = 2 * Mv x + Mv (x + 1) := by rw [Mv2 (by omega), show y / 2 = x by omega, show y - x = x + 1 by omega]
          have m2 : Mv (y + 1) = 3 * Mv (x + 1) := by rw [Mv2 (by omega), show (y + 1) / 2 = x + 1 by omega, show y + 1 - (x + 1) = x + 1 by omega]; omega
          have k1 : 2 * (x : Int) + 1 = (y : Int) := by omega
          have k2 : 2 * (Mv x : Int) + (Mv (x + 1) : Int) = (Mv y : Int) := by omega
          have k3 : 2 * (x : Int) + 1 + 1 = ((y + 1 : Nat) : Int) := by omega
          have k4 : 3 * (Mv (x + 1) : Int) = (Mv (y + 1) : Int) := by omega
          refine ⟨.inl ⟨by omega, by omega⟩, _, rfl, .inl ⟨by omega, by omega⟩, _, rfl, p, upd H2 p (.dK (putK kvs (.inl (y : Int)) (.int (Mv y : Int)))), rfl, by rw [k1, k2]; exact DPut.k (k := .inl (y : Int)) g3 len1, _, rfl, .inl ⟨by omega, by omega⟩, p, upd (upd H2 p (.dK (putK kvs (.inl (y : Int)) (.int (Mv y : Int))))) p (.dK (putK (putK kvs (.inl (y : Int)) (.int (Mv y : Int))) (.inl ((y + 1 : Nat) : Int)) (.int (Mv (y + 1) : Int)))), rfl, by rw [k3, k4]; exact DPut.k (k := .inl ((y + 1 : Nat) : Int)) upd_same len2, fin _ _ _ _ _ _ k1 rfl rfl⟩
      · rintro σ H2 ⟨v1, w1, w2, kvs, rfl, g1, g2, g3, g4, g5, g6⟩
        refine ⟨_, rfl, k p H2 g6 hp2 ⟨kvs, g3, fun m hm m1 => ?_⟩⟩
        obtain ⟨j, j1, j2⟩ := mem_Cl.mp hm
        have hdl : (dgs n kd).length = kd := by unfold dgs; rw [List.length_map, List.length_range]
        have hz : kd - (((dgs n kd).length : Int)).toNat = 0 := by rw [hdl]; omega
        rw [hz] at g5
        by_cases q : j ≤ kd
        · obtain ⟨b1, b2⟩ := g5 j (Nat.zero_le _) q
          rcases j2 with rfl | rfl
          · exact b1
          · exact b2
        · have : n / 2 ^ j = 0 := by
            have e := Nat.div_le_div_left (a := n) (Nat.pow_le_pow_right (show 0 < 2 by decide) (show kd + 1 ≤ j by omega)) (Nat.pow_pos (by decide))
            rw [Nat.pow_succ, ← Nat.div_div_eq_div_mul, l2] at e
            omega
          have : m = 1 := by omega
          subst this
          have := (g5 kd (Nat.zero_le _) (Nat.le_refl _)).1
          rw [l2] at this
          exact this
def spAt : Nat → Sp := fun k vs H Q _ => ∃ (d : Addr) (N f n m : Nat), vs = [.ref d, .int f, .int n, .int m] ∧ CntAt H d N ∧ Closed (Cl N) ∧ n ∈ Cl N ∧ 1 ≤ n ∧ n ≤ 2 ^ k ∧ k ≤ 100 ∧ m ≤ Mv n ∧ ∀ q H', Evl.Ex H H' → H q = none → H' q = some (.lst (vN (St f n m))) → (St f n m).length ≤ k + 1 → Q (.ref q) H'
theorem ok_at0 (T : Txt K mg a) : FnOk P w K mg base CX0 1 a.f_law_chain_at a.d_law_chain_at ["_law_counts", "_law_first", "_law_length_here", "_law_number"] (fun _ _ _ _ => False) :=
  T.F_law_chain_at.ok sc_law_chain_at (fun vs H Q E h => False.elim h) (fun cdv A outer s H vs Q E hr h => False.elim h)
theorem at_one {H : Hp} {f m : Nat} {Q : VK} (hm : m ≤ 1) (k : ∀ q H', Evl.Ex H H' → H q = none → H' q = some (.lst (vN (St f 1 m))) → Q (.ref q) H') :
    if (m : Int) = 1 then 0 + 1 ≤ sizeLine ∧ ∀ (p : Addr), H p = none → Q (V.ref p) (upd H p (HO.lst [V.int (f : Int)])) else 0 ≤ sizeLine ∧ ∀ (p : Addr), H p = none → Q (V.ref p) (upd H p (HO.lst [])) := by
  rw [St1 (by omega)] at k
  refine ite2' (fun e => ⟨sz (by decide), fun p hp => k p _ (Evl.Ex.new hp) hp ?_⟩) (fun e => ⟨sz (by decide), fun p hp => k p _ (Evl.Ex.new hp) hp ?_⟩)
  · rw [upd_same, if_pos (by omega)]; rfl
  · rw [upd_same, if_neg (by omega)]; rfl
theorem St_len1 {f m : Nat} : (St f 1 m).length ≤ 1 := by
  rw [St1 (by omega)]
  split <;> simp
theorem ok_at (T : Txt K mg a) : ∀ k, FnOk P w K mg base CX0 (k + 2) a.f_law_chain_at a.d_law_chain_at ["_law_counts", "_law_first", "_law_length_here", "_law_number"] (spAt k) := by
  intro k
  induction k with
  | zero =>
    refine T.F_law_chain_at.ok sc_law_chain_at (fun vs H Q E h => ?_) (fun cdv A outer s H vs Q E hr h => ?_)
    · obtain ⟨_, _, _, _, _, rfl, _⟩ := h
      rfl
    · obtain ⟨d, N, f, n, m, rfl, hd, hC, hn, n1, n2, _, hm, k⟩ := h
      have : n = 1 := by simp at n2; omega
      subst this
      have ok_law_chain_at := fun (_ : Txt K mg a) => ok_at0 (P := P) (w := w) (base := base) T
      refine ⟨_, (pss_cons (ps_if (pt_cmpR op_eq (pv 2) pe_int (nomark _)) (pss_one (ps_ret (pe_ifExp (pt_cmpR op_eq (pv 3) pe_int (nomark _)) (pe_lst (pa_cons (pv 1) pa_nil)) (pe_lst pa_nil))))
    pss_nil)
  (pss_cons (ps_set (i := 4) sc_law_chain_at.nd rfl (by first | exact Or.inl rfl | exact Or.inr rfl) (pe_op op_fdiv (pv 2) pe_int))
  (pss_cons (ps_if (pt_cmpR op_le (pv 3) (pe_dget (hu1 hr.units) (pv 0) (pv 4) (fun _ _ => rfl)) (nomark _)) (pss_one (ps_ret (pe_call (ok_law_chain_at T) (hr.mono (by omega)) rfl T.m_law_chain_at T.F_law_chain_at.kp T.b_law_chain_at .nil pass0 (pa_cons (pv 0) (pa_cons (pv 1) (pa_cons (pv 4) (pa_cons (pv 3) pa_nil)))))))
    pss_nil)
  (pss_cons (ps_set (i := 5) sc_law_chain_at.nd rfl (by first | exact Or.inl rfl | exact Or.inr rfl) (pe_op op_sub (pv 3) (pe_dget (hu1 hr.units) (pv 0) (pv 4) (fun _ _ => rfl))))
  (pss_cons (ps_if (pt_cmpR op_le (pv 5) (pe_dget (hu1 hr.units) (pv 0) (pe_op op_sub (pv 2) (pv 4)) (fun _ _ => rfl)) (nomark _)) (pss_one (ps_ret (pe_op op_cat (pe_lst (pa_cons (pe_op op_sub (pe_op op_add (pv 1) (pv 4)) pe_int) pa_nil)) (pe_call (ok_law_chain_at T) (hr.mono (by omega)) rfl T.m_law_chain_at T.F_law_chain_at.kp T.b_law_chain_at .nil pass0 (pa_cons (pv 0) (pa_cons (pe_op op_add (pv 1) (pv 4)) (pa_cons (pe_op op_sub (pv 2) (pv 4)) (pa_cons (pv 5) pa_nil))))))))
    pss_nil)
  (pss_cons (ps_set (i := 6) sc_law_chain_at.nd rfl (by first | exact Or.inl rfl | exact Or.inr rfl) (pe_op op_sub (pe_dget (hu1 hr.units) (pv 0) (pv 4) (fun _ _ => rfl)) (pe_op op_sub (pv 5) (pe_dget (hu1 hr.units) (pv 0) (pe_op op_sub (pv 2) (pv 4)) (fun _ _ => rfl)))))
  (pss_one (ps_ret (pe_op op_cat (pe_call (ok_law_chain_at T) (hr.mono (by omega)) rfl T.m_law_chain_at T.F_law_chain_at.kp T.b_law_chain_at .nil pass0 (pa_cons (pv 0) (pa_cons (pv 1) (pa_cons (pv 4) (pa_cons (pv 6) pa_nil))))) (pe_lst (pa_cons (pe_op op_sub (pe_op op_add (pv 1) (pv 2)) pe_int) pa_nil))))))))))), ?_⟩
      walk_at "sm"
      rw [Mv1 (by omega)] at hm
      exact iteT' (by omega) (at_one hm fun q H' e h0 hq => k q H' e h0 hq (by have := @St_len1 f m; omega))
  | succ k ih =>
    have ok_law_chain_at := fun (_ : Txt K mg a) => ih
    refine T.F_law_chain_at.ok sc_law_chain_at (fun vs H Q E h => ?_) (fun cdv A outer s H vs Q E hr h => ?_)
    · obtain ⟨_, _, _, _, _, rfl, _⟩ := h
      rfl
    · obtain ⟨d, N, f, n, m, rfl, hd, hC, hn, n1, n2, hk, hm, kk⟩ := h
      refine ⟨_, (pss_cons (ps_if (pt_cmpR op_eq (pv 2) pe_int (nomark _)) (pss_one (ps_ret (pe_ifExp (pt_cmpR op_eq (pv 3) pe_int (nomark _)) (pe_lst (pa_cons (pv 1) pa_nil)) (pe_lst pa_nil))))
    pss_nil)
  (pss_cons (ps_set (i := 4) sc_law_chain_at.nd rfl (by first | exact Or.inl rfl | exact Or.inr rfl) (pe_op op_fdiv (pv 2) pe_int))
  (pss_cons (ps_if (pt_cmpR op_le (pv 3) (pe_dget (hu1 hr.units) (pv 0) (pv 4) (fun _ _ => rfl)) (nomark _)) (pss_one (ps_ret (pe_call (ok_law_chain_at T) (hr.mono (by omega)) rfl T.m_law_chain_at T.F_law_chain_at.kp T.b_law_chain_at .nil pass0 (pa_cons (pv 0) (pa_cons (pv 1) (pa_cons (pv 4) (pa_cons (pv 3) pa_nil)))))))
    pss_nil)
  (pss_cons (ps_set (i := 5) sc_law_chain_at.nd rfl (by first | exact Or.inl rfl | exact Or.inr rfl) (pe_op op_sub (pv 3) (pe_dget (hu1 hr.units) (pv 0) (pv 4) (fun _ _ => rfl))))
  (pss_cons (ps_if (pt_cmpR op_le (pv 5) (pe_dget (hu1 hr.units) (pv 0) (pe_op op_sub (pv 2) (pv 4)) (fun _ _ => rfl)) (nomark _)) (pss_one (ps_ret (pe_op op_cat (pe_lst (pa_cons (pe_op op_sub (pe_op op_add (pv 1) (pv 4)) pe_int) pa_nil)) (pe_call (ok_law_chain_at T) (hr.mono (by omega)) rfl T.m_law_chain_at T.F_law_chain_at.kp T.b_law_chain_at .nil pass0 (pa_cons (pv 0) (pa_cons (pe_op op_add (pv 1) (pv 4)) (pa_cons (pe_op op_sub (pv 2) (pv 4)) (pa_cons (pv 5) pa_nil))))))))
    pss_nil)
  (pss_cons (ps_set (i := 6) sc_law_chain_at.nd rfl (by first | exact Or.inl rfl | exact Or.inr rfl) (pe_op op_sub (pe_dget (hu1 hr.units) (pv 0) (pv 4) (fun _ _ => rfl)) (pe_op op_sub (pv 5) (pe_dget (hu1 hr.units) (pv 0) (pe_op op_sub (pv 2) (pv 4)) (fun _ _ => rfl)))))
  (pss_one (ps_ret (pe_op op_cat (pe_call (ok_law_chain_at T) (hr.mono (by omega)) rfl T.m_law_chain_at T.F_law_chain_at.kp T.b_law_chain_at .nil pass0 (pa_cons (pv 0) (pa_cons (pv 1) (pa_cons (pv 4) (pa_cons (pv 6) pa_nil))))) (pe_lst (pa_cons (pe_op op_sub (pe_op op_add (pv 1) (pv 2)) pe_int) pa_nil))))))))))), ?_⟩
      walk_at "sm"
      refine ite2' (fun e => ?_) (fun e => ?_)
      · have : n = 1 := by omega
        subst this
        rw [Mv1 (by omega)] at hm
        exact at_one hm fun q H' e h0 hq => kk q H' e h0 hq (by have := @St_len1 f m; omega)
      have hn2 : 2 ≤ n := by omega
      have e1 : ((n : Int) / 2) = ((n / 2 : Nat) : Int) := by omega
      have e2 : ((n : Int) - ((n / 2 : Nat) : Int)) = ((n - n / 2 : Nat) : Int) := by omega
      have p2 := Nat.pow_succ 2 k
      have em := Mv2 hn2
      obtain ⟨c1, c2⟩ := hC.2 n hn hn2
      have g1 := hd.get c1 (by omega)
      have g2 := hd.get c2 (by omega)
      rw [e1, e2]
      refine ⟨by unfold CDiv; decide, _, g1, _, rfl, ite2' (fun q1 => ?_) (fun q1 => ⟨_, g1, _, rfl, _, g2, _, rfl, ite2' (fun q2 => ?_) (fun q2 => ⟨_, g1, _, g2, _, rfl, _, rfl, ?_⟩)⟩)⟩
      · refine ⟨d, N, f, n / 2, m, rfl, hd, hC, c1, by omega, by omega, by omega, by omega, fun q H' x h0 hq hl => kk q H' x h0 ?_ ?_⟩
        · rw [St_lo hn2 (by omega)]; exact hq
        · rw [St_lo hn2 (by omega)]; omega
      · refine ⟨sz (by decide), fun p hp => ?_⟩
        have ep := Evl.Ex.new (o := .lst [V.int ((f : Int) + ((n / 2 : Nat) : Int) - 1)]) hp
        refine ⟨d, N, f + n / 2, n - n / 2, m - Mv (n / 2), by rw [show (f : Int) + ((n / 2 : Nat) : Int) = ((f + n / 2 : Nat) : Int) by omega, show (m : Int) - (Mv (n / 2) : Int) = ((m - Mv (n / 2) : Nat) : Int) by omega], hd.go ep, hC, c2, by omega, by omega, by omega, by omega, fun q H' x h0 hq hl => ?_⟩
        refine ⟨p, q, _, _, rfl, rfl, x _ _ upd_same, hq, ?_, fun r hr => kk r _ ((ep.trans x).trans (Evl.Ex.new hr)) (Evl.fresh_back (ep.trans x) hr) ?_ ?_⟩
        · unfold vN
          rw [List.length_map]
          exact sz (by show 1 + _ ≤ 100000; omega)
        · rw [upd_same, St_mi hn2 (by omega) (by omega)]
          have : ((f : Int) + ((n / 2 : Nat) : Int) - 1) = ((f + n / 2 - 1 : Nat) : Int) := by omega
          rw [this]; rfl
        · rw [St_mi hn2 (by omega) (by omega), List.length_cons]; omega
      · refine ⟨d, N, f, n / 2, Mv (n / 2) - (m - Mv (n / 2) - Mv (n - n / 2)), by rw [show (Mv (n / 2) : Int) - ((m : Int) - (Mv (n / 2) : Int) - (Mv (n - n / 2) : Int)) = ((Mv (n / 2) - (m - Mv (n / 2) - Mv (n - n / 2)) : Nat) : Int) by omega], hd, hC, c1, by omega, by omega, by omega, by omega, fun q H' x h0 hq hl => ⟨sz (by decide), fun p hp => ?_⟩⟩
        have ep := Evl.Ex.new (o := .lst [V.int ((f : Int) + (n : Int) - 1)]) hp
        refine ⟨q, p, _, _, rfl, rfl, ep _ _ hq, upd_same, ?_, fun r hr => kk r _ ((x.trans ep).trans (Evl.Ex.new hr)) (Evl.fresh_back (x.trans ep) hr) ?_ ?_⟩
        · unfold vN
          rw [List.length_map]
          exact sz (by show _ + 1 ≤ 100000; omega)
        · rw [upd_same, St_hi hn2 (by omega) (by omega)]
          have : ((f : Int) + (n : Int) - 1) = ((f + n - 1 : Nat) : Int) := by omega
          rw [this]
          unfold vN
          rw [List.map_append]; rfl
        · rw [St_hi hn2 (by omega) (by omega), List.length_append]
          show _ + 1 ≤ _
          omega
end


theorem neL {K : PySem.W.Frag} {H : Hp} {p q : Addr} {l m : List Nat} {Q : VK} (hp : SqL K H p (vN l)) (hq : SqL K H q (vN m)) (k : Q (.bl (!decide (l = m))) H) : rNeD K (.ref p) (.ref q) H Q :=
  ⟨_, _, .lst hp (dpN l), .lst hq (dpN m), layN l, layN m, by
    have : PyData.eqv (.list (l.map fun z : Nat => PyData.int (z : Int))) (.list (m.map fun z : Nat => PyData.int (z : Int))) = decide (l = m) := eqvN l m
    rw [this]; exact k⟩
section
variable {P : Program} {w : World} {K : PySem.W.Frag} {mg : Str → Option Value} {base : Heap} {a : Ad}
def optV : Option Nat → V
  | some v => .int (v : Int)
  | none => .non
def spMet (K : PySem.W.Frag) : Nat → Sp := fun k vs H Q _ => ∃ (d q : Addr) (N f n : Nat) (l : List Nat), vs = [.ref d, .int f, .int n, .ref q] ∧ CntAt H d N ∧ Closed (Cl N) ∧ n ∈ Cl N ∧ 1 ≤ n ∧ n ≤ 2 ^ k ∧ k ≤ 100 ∧ H q = some (.lst (vN l)) ∧ l.length ≤ 1000 ∧ Ok f n l ∧ ∀ H', Evl.Ex H H' → Q (optV (Nm f n l)) H'
theorem ok_met0 (T : Txt K mg a) : FnOk P w K mg base CX0 1 a.f_law_chain_met a.d_law_chain_met ["_law_counts", "_law_first", "_law_length_here", "_law_filled"] (fun _ _ _ _ => False) :=
  T.F_law_chain_met.ok sc_law_chain_met (fun vs H Q E h => False.elim h) (fun cdv A outer s H vs Q E hr h => False.elim h)
theorem ok_met (T : Txt K mg a) : ∀ k, FnOk P w K mg base CX0 (k + 2) a.f_law_chain_met a.d_law_chain_met ["_law_counts", "_law_first", "_law_length_here", "_law_filled"] (spMet K k) := by
  intro k
  induction k with
  | zero =>
    refine T.F_law_chain_met.ok sc_law_chain_met (fun vs H Q E h => ?_) (fun cdv A outer s H vs Q E hr h => ?_)
    · obtain ⟨_, _, _, _, _, _, rfl, _⟩ := h
      rfl
    · obtain ⟨d, q, N, f, n, l, rfl, hd, hC, hn, n1, n2, _, hq, hl, ho, k⟩ := h
      have : n = 1 := by simp at n2; omega
      subst this
      have ok_law_chain_met := fun (_ : Txt K mg a) => ok_met0 (P := P) (w := w) (base := base) T
      refine ⟨_, (pss_cons (ps_if (pt_cmpR op_eq (pv 2) pe_int (nomark _)) (pss_one (ps_ret (pe_callB call_len_seq (by rfl) T.z_len (by decide +kernel) (pa_cons (pv 3) pa_nil))))
    pss_nil)
  (pss_cons (ps_set (i := 4) sc_law_chain_met.nd rfl (by first | exact Or.inl rfl | exact Or.inr rfl) (pe_op op_fdiv (pv 2) pe_int))
  (pss_cons (ps_setLc (i := 5) (own := [("_law_place", 8)]) (g := gName 8)  rfl sc_law_chain_met.nd rfl rfl (sw_true rfl rfl rfl (by decide +kernel)) (pi_list (pv 3)) (blkOk_by (own := [("_law_place", 8)]) (N := ["_law_counts", "_law_first", "_law_length_here", "_law_filled", "_law_half", "_law_lower", "_law_upper", "_law_met_here", "_law_place"]) (sc := defScope s_law_chain_met) (by decide +kernel)) (fun _ _ _ _ _ => pg_name (i := 8) sc_law_chain_met.nd rfl (Or.inl rfl)) (fun _ _ _ _ _ => (pts_one (pt_cmpR op_lt (pv 8) (pe_op op_add (pv 1) (pv 4)) (nomark _)))) (fun _ _ _ _ _ => (pv 8)))
  (pss_cons (ps_setLc (i := 6) (own := [("_law_place", 8)]) (g := gName 8)  rfl sc_law_chain_met.nd rfl rfl (sw_true rfl rfl rfl (by decide +kernel)) (pi_list (pv 3)) (blkOk_by (own := [("_law_place", 8)]) (N := ["_law_counts", "_law_first", "_law_length_here", "_law_filled", "_law_half", "_law_lower", "_law_upper", "_law_met_here", "_law_place"]) (sc := defScope s_law_chain_met) (by decide +kernel)) (fun _ _ _ _ _ => pg_name (i := 8) sc_law_chain_met.nd rfl (Or.inl rfl)) (fun _ _ _ _ _ => (pts_one (pt_cmpR op_ge (pv 8) (pe_op op_add (pv 1) (pv 4)) (nomark _)))) (fun _ _ _ _ _ => (pv 8)))
  (pss_cons (ps_if (pt_cmpR op_eq (pe_callB call_len_seq (by rfl) T.z_len (by decide +kernel) (pa_cons (pv 6) pa_nil)) pe_int (nomark _)) (pss_one (ps_ret (pe_call (ok_law_chain_met T) (hr.mono (by omega)) rfl T.m_law_chain_met T.F_law_chain_met.kp T.b_law_chain_met .nil pass0 (pa_cons (pv 0) (pa_cons (pv 1) (pa_cons (pv 4) (pa_cons (pv 5) pa_nil)))))))
    pss_nil)
  (pss_cons (ps_if (pt_cmpR (op_eqD hr.units) (pv 5) (pe_lst (pa_cons (pe_op op_sub (pe_op op_add (pv 1) (pv 4)) pe_int) pa_nil)) (nomark _)) (pss_cons (ps_set (i := 7) sc_law_chain_met.nd rfl (by first | exact Or.inl rfl | exact Or.inr rfl) (pe_call (ok_law_chain_met T) (hr.mono (by omega)) rfl T.m_law_chain_met T.F_law_chain_met.kp T.b_law_chain_met .nil pass0 (pa_cons (pv 0) (pa_cons (pe_op op_add (pv 1) (pv 4)) (pa_cons (pe_op op_sub (pv 2) (pv 4)) (pa_cons (pv 6) pa_nil))))))
  (pss_one (ps_ret (pe_ifExp (pt_cmpR op_isN (pv 7) pe_non (nomark _)) pe_non (pe_op op_add (pe_dget (hu1 hr.units) (pv 0) (pv 4) (fun _ _ => rfl)) (pv 7))))))
    pss_nil)
  (pss_cons (ps_if (pt_cmpR (op_neD hr.units) (pv 6) (pe_lst (pa_cons (pe_op op_sub (pe_op op_add (pv 1) (pv 2)) pe_int) pa_nil)) (nomark _)) (pss_one (ps_ret pe_non))
    pss_nil)
  (pss_cons (ps_set (i := 7) sc_law_chain_met.nd rfl (by first | exact Or.inl rfl | exact Or.inr rfl) (pe_call (ok_law_chain_met T) (hr.mono (by omega)) rfl T.m_law_chain_met T.F_law_chain_met.kp T.b_law_chain_met .nil pass0 (pa_cons (pv 0) (pa_cons (pv 1) (pa_cons (pv 4) (pa_cons (pv 5) pa_nil))))))
  (pss_one (ps_ret (pe_ifExp (pt_cmpR op_isN (pv 7) pe_non (nomark _)) pe_non (pe_op op_sub (pe_op op_add (pe_op op_mul pe_int (pe_dget (hu1 hr.units) (pv 0) (pv 4) (fun _ _ => rfl))) (pe_dget (hu1 hr.units) (pv 0) (pe_op op_sub (pv 2) (pv 4)) (fun _ _ => rfl))) (pv 7))))))))))))), ?_⟩
      walk_at "sm"
      rw [Nm, dif_pos (by omega)] at k
      refine iteT' (by omega) ⟨_, .inl (SqL.of hq), ?_⟩
      have e5 : (vN l).length = l.length := by unfold vN; rw [List.length_map]
      rw [e5]
      exact k _ (Evl.Ex.refl _)
  | succ k ih =>
    have ok_law_chain_met := fun (_ : Txt K mg a) => ih
    refine T.F_law_chain_met.ok sc_law_chain_met (fun vs H Q E h => ?_) (fun cdv A outer s H vs Q E hr h => ?_)
    · obtain ⟨_, _, _, _, _, _, rfl, _⟩ := h
      rfl
    · obtain ⟨d, q, N, f, n, l, rfl, hd, hC, hn, n1, n2, hk, hq, hl, ho, kk⟩ := h
      refine ⟨_, (pss_cons (ps_if (pt_cmpR op_eq (pv 2) pe_int (nomark _)) (pss_one (ps_ret (pe_callB call_len_seq (by rfl) T.z_len (by decide +kernel) (pa_cons (pv 3) pa_nil))))
    pss_nil)
  (pss_cons (ps_set (i := 4) sc_law_chain_met.nd rfl (by first | exact Or.inl rfl | exact Or.inr rfl) (pe_op op_fdiv (pv 2) pe_int))
  (pss_cons (ps_setLc (i := 5) (own := [("_law_place", 8)]) (g := gName 8)  rfl sc_law_chain_met.nd rfl rfl (sw_true rfl rfl rfl (by decide +kernel)) (pi_list (pv 3)) (blkOk_by (own := [("_law_place", 8)]) (N := ["_law_counts", "_law_first", "_law_length_here", "_law_filled", "_law_half", "_law_lower", "_law_upper", "_law_met_here", "_law_place"]) (sc := defScope s_law_chain_met) (by decide +kernel)) (fun _ _ _ _ _ => pg_name (i := 8) sc_law_chain_met.nd rfl (Or.inl rfl)) (fun _ _ _ _ _ => (pts_one (pt_cmpR op_lt (pv 8) (pe_op op_add (pv 1) (pv 4)) (nomark _)))) (fun _ _ _ _ _ => (pv 8)))
  (pss_cons (ps_setLc (i := 6) (own := [("_law_place", 8)]) (g := gName 8)  rfl sc_law_chain_met.nd rfl rfl (sw_true rfl rfl rfl (by decide +kernel)) (pi_list (pv 3)) (blkOk_by (own := [("_law_place", 8)]) (N := ["_law_counts", "_law_first", "_law_length_here", "_law_filled", "_law_half", "_law_lower", "_law_upper", "_law_met_here", "_law_place"]) (sc := defScope s_law_chain_met) (by decide +kernel)) (fun _ _ _ _ _ => pg_name (i := 8) sc_law_chain_met.nd rfl (Or.inl rfl)) (fun _ _ _ _ _ => (pts_one (pt_cmpR op_ge (pv 8) (pe_op op_add (pv 1) (pv 4)) (nomark _)))) (fun _ _ _ _ _ => (pv 8)))
  (pss_cons (ps_if (pt_cmpR op_eq (pe_callB call_len_seq (by rfl) T.z_len (by decide +kernel) (pa_cons (pv 6) pa_nil)) pe_int (nomark _)) (pss_one (ps_ret (pe_call (ok_law_chain_met T) (hr.mono (by omega)) rfl T.m_law_chain_met T.F_law_chain_met.kp T.b_law_chain_met .nil pass0 (pa_cons (pv 0) (pa_cons (pv 1) (pa_cons (pv 4) (pa_cons (pv 5) pa_nil)))))))
    pss_nil)
  (pss_cons (ps_if (pt_cmpR (op_eqD hr.units) (pv 5) (pe_lst (pa_cons (pe_op op_sub (pe_op op_add (pv 1) (pv 4)) pe_int) pa_nil)) (nomark _)) (pss_cons (ps_set (i := 7) sc_law_chain_met.nd rfl (by first | exact Or.inl rfl | exact Or.inr rfl) (pe_call (ok_law_chain_met T) (hr.mono (by omega)) rfl T.m_law_chain_met T.F_law_chain_met.kp T.b_law_chain_met .nil pass0 (pa_cons (pv 0) (pa_cons (pe_op op_add (pv 1) (pv 4)) (pa_cons (pe_op op_sub (pv 2) (pv 4)) (pa_cons (pv 6) pa_nil))))))
  (pss_one (ps_ret (pe_ifExp (pt_cmpR op_isN (pv 7) pe_non (nomark _)) pe_non (pe_op op_add (pe_dget (hu1 hr.units) (pv 0) (pv 4) (fun _ _ => rfl)) (pv 7))))))
    pss_nil)
  (pss_cons (ps_if (pt_cmpR (op_neD hr.units) (pv 6) (pe_lst (pa_cons (pe_op op_sub (pe_op op_add (pv 1) (pv 2)) pe_int) pa_nil)) (nomark _)) (pss_one (ps_ret pe_non))
    pss_nil)
  (pss_cons (ps_set (i := 7) sc_law_chain_met.nd rfl (by first | exact Or.inl rfl | exact Or.inr rfl) (pe_call (ok_law_chain_met T) (hr.mono (by omega)) rfl T.m_law_chain_met T.F_law_chain_met.kp T.b_law_chain_met .nil pass0 (pa_cons (pv 0) (pa_cons (pv 1) (pa_cons (pv 4) (pa_cons (pv 5) pa_nil))))))
  (pss_one (ps_ret (pe_ifExp (pt_cmpR op_isN (pv 7) pe_non (nomark _)) pe_non (pe_op op_sub (pe_op op_add (pe_op op_mul pe_int (pe_dget (hu1 hr.units) (pv 0) (pv 4) (fun _ _ => rfl))) (pe_dget (hu1 hr.units) (pv 0) (pe_op op_sub (pv 2) (pv 4)) (fun _ _ => rfl))) (pv 7))))))))))))), ?_⟩
      walk_at "sm"
      refine ite2' (fun e => ?_) (fun e => ?_)
      · have : n = 1 := by omega
        subst this
        rw [Nm, dif_pos (by omega)] at kk
        have e5 : (vN l).length = l.length := by unfold vN; rw [List.length_map]
        refine ⟨_, .inl (SqL.of hq), ?_⟩
        rw [e5]
        exact kk _ (Evl.Ex.refl _)
      have hn2 : 2 ≤ n := by omega
      have e1 : ((n : Int) / 2) = ((n / 2 : Nat) : Int) := by omega
      have p2 := Nat.pow_succ 2 k
      have em := Mv2 hn2
      obtain ⟨c1, c2⟩ := hC.2 n hn hn2
      have hlo := ho.lo
      have hhi := ho.hi
      refine ⟨by unfold CDiv; decide, ?_⟩
      refine ⟨⟨_, SqL.of (hq)⟩, lcg_list (xs := vN l) (fun D i HD => HD D = some (.lst (vN ((l.take i).filter fun x => decide (x < f + n / 2)))) ∧ Evl.Ex H HD) (fun D hD => ⟨by rw [upd_same]; rfl, Evl.Ex.new hD⟩) (fun D i HD hD hi z => Evl.ex_l z.2 (SqL.of hq)) ?_ ?_⟩
      · rintro D i x0 HD hD hi ⟨z1, z2⟩
        obtain ⟨z, hz, rfl⟩ : ∃ z, l[i]? = some z ∧ x0 = .int (z : Int) := by
          unfold vN at hi
          rw [List.getElem?_map] at hi
          cases e2 : l[i]? with
          | none => rw [e2] at hi; cases hi
          | some z => rw [e2] at hi; exact ⟨z, rfl, (Option.some.inj hi).symm⟩
        walk_at "sm"
        refine ite2' (fun q2 => ?_) (fun q2 => ?_)
        rotate_left
        · refine ⟨?_, z2⟩
          rw [z1, List.take_succ, hz, List.filter_append, Option.toList_some, List.filter_cons, if_neg (by simp; omega), List.filter_nil, List.append_nil]
        refine ⟨_, z1, ?_, ?_, z2.mut hD⟩
        · unfold vN
          rw [List.length_map]
          have := List.length_filter_le (fun x => decide (x < f + n / 2)) (l.take i)
          rw [List.length_take] at this
          exact Nat.lt_of_lt_of_le (by omega : _ < 2000) (by decide)
        · rw [upd_same, List.take_succ, hz, List.filter_append, Option.toList_some, List.filter_cons, if_pos (decide_eq_true (by omega))]
          unfold vN
          rw [List.map_append]
          rfl
      rintro D HD hD ⟨z1, z2⟩
      rw [show (l.take (vN l).length) = l by unfold vN; rw [List.length_map, List.take_length]] at z1
      have hq2 := z2 _ _ hq
      have y1 := z2
      have u1 := z1
      clear z1 z2
      refine ⟨⟨_, SqL.of (hq2)⟩, lcg_list (xs := vN l) (fun D i HF => HF D = some (.lst (vN ((l.take i).filter fun x => decide (f + n / 2 ≤ x)))) ∧ Evl.Ex HD HF) (fun D hF => ⟨by rw [upd_same]; rfl, Evl.Ex.new hF⟩) (fun D i HF hF hi z => Evl.ex_l z.2 (SqL.of hq2)) ?_ ?_⟩
      · rintro D i x0 HF hF hi ⟨z1, z2⟩
        obtain ⟨z, hz, rfl⟩ : ∃ z, l[i]? = some z ∧ x0 = .int (z : Int) := by
          unfold vN at hi
          rw [List.getElem?_map] at hi
          cases e2 : l[i]? with
          | none => rw [e2] at hi; cases hi
          | some z => rw [e2] at hi; exact ⟨z, rfl, (Option.some.inj hi).symm⟩
        walk_at "sm"
        refine ite2' (fun q2 => ?_) (fun q2 => ?_)
        rotate_left
        · refine ⟨?_, z2⟩
          rw [z1, List.take_succ, hz, List.filter_append, Option.toList_some, List.filter_cons, if_neg (by simp; omega), List.filter_nil, List.append_nil]
        refine ⟨_, z1, ?_, ?_, z2.mut hF⟩
        · unfold vN
          rw [List.length_map]
          have := List.length_filter_le (fun x => decide (f + n / 2 ≤ x)) (l.take i)
          rw [List.length_take] at this
          exact Nat.lt_of_lt_of_le (by omega : _ < 2000) (by decide)
        · rw [upd_same, List.take_succ, hz, List.filter_append, Option.toList_some, List.filter_cons, if_pos (decide_eq_true (by omega))]
          unfold vN
          rw [List.map_append]
          rfl
      rintro D2 HE hD2 ⟨z1, z2⟩
      rw [show (l.take (vN l).length) = l by unfold vN; rw [List.length_map, List.take_length]] at z1
      have hA := z2 _ _ u1
      generalize eA : (l.filter fun x => decide (x < f + n / 2)) = A at *
      generalize eB : (l.filter fun x => decide (f + n / 2 ≤ x)) = B at *
      have hAl : A.length ≤ l.length := by rw [← eA]; exact List.length_filter_le _ _
      have hBl : B.length ≤ l.length := by rw [← eB]; exact List.length_filter_le _ _
      have hN : Nm f n l = if B = [] then Nm f (n / 2) A else if A = [f + n / 2 - 1] then (Nm (f + n / 2) (n - n / 2) B).map (fun v => Mv (n / 2) + v) else if B = [f + n - 1] then (Nm f (n / 2) A).map (fun v => 2 * Mv (n / 2) + Mv (n - n / 2) - v) else none := by
        rw [Nm, dif_neg (by omega), eA, eB]
      have y2 : Evl.Ex H HE := y1.trans z2
      have e5 : (vN B).length = B.length := by unfold vN; rw [List.length_map]
      have e2 : ((n : Int) - ((n / 2 : Nat) : Int)) = ((n - n / 2 : Nat) : Int) := by omega
      have e3 : ((f : Int) + ((n / 2 : Nat) : Int)) = ((f + n / 2 : Nat) : Int) := by omega
      have ea : (((f + n / 2 : Nat) : Int) - 1) = ((f + n / 2 - 1 : Nat) : Int) := by omega
      have eb : ((f : Int) + (n : Int) - 1) = ((f + n - 1 : Nat) : Int) := by omega
      rw [e1, e2, e3]
      refine ⟨D2, rfl, _, .inl (SqL.of z1), ite2' (fun qB => ?_) (fun qB => ?_)⟩
      · have qB : B = [] := List.eq_nil_of_length_eq_zero (by rw [e5] at qB; omega)
        rw [if_pos qB] at hN
        refine ⟨d, D, N, f, n / 2, A, rfl, hd.go y2, hC, c1, by omega, by omega, by omega, hA, by omega, hlo, fun H' x => ?_⟩
        rw [← hN]
        exact kk _ (y2.trans x)
      have qB : ¬ B = [] := by rintro rfl; exact qB rfl
      rw [if_neg qB] at hN
      refine ⟨sz (by decide), fun p3 hp3 => ?_⟩
      rw [ea, eb]
      have x3 := Evl.Ex.new (o := .lst (vN [f + n / 2 - 1])) hp3
      refine eqL (l := A) (m := [f + n / 2 - 1]) (SqL.of (x3 _ _ hA)) (SqL.of upd_same) ⟨_, rfl, ite2 (fun q2 => ?_) (fun q2 => ?_)⟩
      · have q2 := of_decide_eq_true q2
        rw [if_pos q2] at hN
        refine ⟨d, D2, N, f + n / 2, n - n / 2, B, rfl, hd.go (y2.trans x3), hC, c2, by omega, by omega, by omega, x3 _ _ z1, by omega, hhi, fun H' x => ?_⟩
        have fin := kk _ ((y2.trans x3).trans x)
        rw [hN] at fin
        cases eN : Nm (f + n / 2) (n - n / 2) B with
        | none => rw [eN] at fin; exact iteT' rfl fin
        | some v =>
          rw [eN] at fin
          refine iteF' (by intro q; cases q) ⟨_, (hd.go ((y2.trans x3).trans x)).get c1 (by omega), _, rfl, _, rfl, ?_⟩
          have e6 : (Mv (n / 2) : Int) + (v : Int) = ((Mv (n / 2) + v : Nat) : Int) := by omega
          rw [e6]; exact fin
      · have q2 : ¬ A = [f + n / 2 - 1] := fun q => q2 (decide_eq_true q)
        rw [if_neg q2] at hN
        refine ⟨sz (by decide), fun p4 hp4 => ?_⟩
        have x4 := Evl.Ex.new (o := .lst (vN [f + n - 1])) hp4
        refine neL (l := B) (m := [f + n - 1]) (SqL.of (x4 _ _ (x3 _ _ z1))) (SqL.of upd_same) ⟨_, rfl, ?_⟩
        by_cases q3 : B = [f + n - 1]
        · rw [if_pos q3] at hN
          rw [decide_eq_true q3]
          refine iteF' (by simp) ⟨d, D, N, f, n / 2, A, rfl, hd.go ((y2.trans x3).trans x4), hC, c1, by omega, by omega, by omega, x4 _ _ (x3 _ _ hA), by omega, hlo, fun H' x => ?_⟩
          have fin := kk _ (((y2.trans x3).trans x4).trans x)
          rw [hN] at fin
          cases eN : Nm f (n / 2) A with
          | none => rw [eN] at fin; exact iteT' rfl fin
          | some v =>
            rw [eN] at fin
            have hv := Nm_le _ _ _ _ (by omega) hlo eN
            have hd5 := hd.go (((y2.trans x3).trans x4).trans x)
            refine iteF' (by intro q; cases q) ⟨_, hd5.get c1 (by omega), _, rfl, .inl ⟨by omega, by omega⟩, _, hd5.get c2 (by omega), _, rfl, _, rfl, ?_⟩
            have e6 : 2 * (Mv (n / 2) : Int) + (Mv (n - n / 2) : Int) - (v : Int) = ((2 * Mv (n / 2) + Mv (n - n / 2) - v : Nat) : Int) := by omega
            rw [e6]; exact fin
        · rw [if_neg q3] at hN
          rw [decide_eq_false q3]
          have fin := kk _ ((y2.trans x3).trans x4)
          rw [hN] at fin
          exact iteT' (by simp) fin
end


/-! ### try with several clauses, each with a name or without -/
/-- the ends of a suite whose name goes behind it -/
def enM (o : Option Nat) (D : Ends) : Ends := match o with
  | none => D
  | some i => { nx := fun σ H => D.nx (σ.set i none) H, rt := D.rt, bk := fun σ H => D.bk (σ.set i none) H, ct := fun σ H => D.ct (σ.set i none) H }
def stM (o : Option Nat) (σ : L2.St) (e : Addr) : L2.St := match o with
  | none => σ
  | some i => σ.set i (some (.ref e))
abbrev Cla := Value × Option Nat × (Addr → Value → Option Addr → TS)
/-- what such clauses wish of an exception of the body -/
def wM (K : PySem.W.Frag) (W : WX) (D : Ends) : List Cla → WX
  | [] => W
  | p :: l => fun cls d σ H => ∃ b, PySem.W.exmOne K cls p.1 = some b ∧ (b = true → ∀ e, H e = none → p.2.2 e cls d (enM p.2.1 D) (stM p.2.1 σ e) H) ∧ (b = false → wM K W D l cls d σ H)
inductive ClaOk (X : Cx) : List ExceptHandler → List Cla → Prop
  | nil : ClaOk X [] []
  | bare {x : Str} {c : Value} {ts : Addr → Value → Option Addr → TS} {f : Stmt} {fs : List Stmt} {p1 p2 : Pos} {hs : List ExceptHandler} {l : List Cla} (n : Names X x c)
      (su : ∀ (e : Addr) (o : Obj) (cls : Value) (d : Option Addr) (pn : List (Addr × Obj)), Zc cls d o → (∃ vs, o.data = .fields vs) → PSs (X.suite e ((e, o) :: pn)) (f :: fs) (ts e cls d)) (r : ClaOk X hs l) : ClaOk X (.ExceptHandler (some (.Name x p1)) none (f :: fs) p2 :: hs) ((c, none, ts) :: l)
  | named {x n : Str} {c : Value} {i : Nat} {ts : Addr → Value → Option Addr → TS} {f : Stmt} {fs : List Stmt} {p1 p2 : Pos} {hs : List ExceptHandler} {l : List Cla} (nd : X.N.Nodup) (hi : X.N[i]? = some n) (hl : X.env.kindOf n = some .local) (nm : Names X x c)
      (su : ∀ (e : Addr) (o : Obj) (cls : Value) (d : Option Addr) (pn : List (Addr × Obj)), Zc cls d o → (∃ vs, o.data = .fields vs) → PSs (X.suite e ((e, o) :: pn)) (f :: fs) (ts e cls d)) (r : ClaOk X hs l) : ClaOk X (.ExceptHandler (some (.Name x p1)) (some n) (f :: fs) p2 :: hs) ((c, some i, ts) :: l)
theorem ps_try_m {X : Cx} {body : List Stmt} {h1 : ExceptHandler} {hs : List ExceptHandler} {l : List Cla} {pos : Pos} {tb : WX → TS} {W : WX} (es : X.stack = X.env :: X.outer) (ef : X.env.frame = some X.env.locals) (tk : Takes X W)
    (hb : ∀ (V : WX) (pn : List (Addr × Obj)) (xe : Value → Shared → Prop), Takes (X.tr pn xe) V → PassesOwn (model X.prog X.w) X.A X.env xe → PSs (X.tr pn xe) body (tb V)) (hh : ClaOk X (h1 :: hs) l) : PS X (.Try body (h1 :: hs) [] [] pos) (fun D σ H => tb (wM X.K W D l) D σ H) := by
  refine ⟨fun pins s σ H D I h => wpAny_Try_except ?_⟩
  have ok := I.ok
  have fr : X.A.frames = some (X.env :: X.outer) := ok.frames.trans (by rw [es])
  refine wpAny_mono ((hb (wM X.K W D l) (X.pn ++ pins) (fun e t1 => wpAny (model X.prog X.w) X.A (noteFrame e X.env) (fun _ t2 => wpAny (model X.prog X.w) X.A (setFlight e none) (fun _ t3 => wpAny (model X.prog X.w) X.A (handleBy e X.env (h1 :: hs)) (SP X pins D) X.xe t3) X.xe t2) X.xe t1) (fun u t xx => ?_) PassesOwn.looking).run [] s σ H D (I.toTry _) h) (fun f t hsp => ?_) fun _ _ z => z
  · obtain ⟨e, B, sI, pz, σ1, H1, cls, d, rfl, Jt, nb, up, sky, na, os, ag, w⟩ := xx
    have J : Inv X pins σ1 H1 sI := Jt.ofTry ok
    have sky2 : Sky B (X.env :: X.outer) e (Zc cls d) X.env.locals t.heap := by rw [← es]; exact sky
    show wpAny (model X.prog X.w) X.A (noteFrame (.ref e) X.env) _ _ _
    refine Sky.land Zc.steady fr ef sky2 fun hp fl u3 => ?_
    have J3 : Inv X pins σ1 H1 { t with heap := hp } := J.landed nb fl.1 (up.trans u3) os ag
    obtain ⟨o3, v3, g3, z3, d3⟩ := fl.there
    have far : e ∉ frs (X.env :: X.outer) := fun hm => by
      obtain ⟨_, o, q, hn⟩ := fl.2.2.1.mem hm
      rw [g3] at q; injection q with q; subst q
      exact hn _ d3
    have nL : e ≠ X.env.locals := fun z => far (List.mem_filterMap.mpr ⟨_, List.mem_cons_self, by rw [ef, z]⟩)
    have nF : e ∉ X.fs := fun hm => by
      obtain ⟨v, hv, q⟩ := List.mem_filterMap.mp hm
      exact far (List.mem_filterMap.mpr ⟨v, List.mem_cons_of_mem _ hv, q⟩)
    have S3 := J3.suite g3 d3 na nL nF
    have LT : PySem.W.Looks (model X.prog X.w) hp (typeOf (.ref e)) cls := fun A Q E s k q => wpAny_typeOf_ref (k _ _ g3) (by rw [z3.1]; exact q)
    have test : ∀ {x : Str} {c : Value} {np : Pos} {Q E : Value → Shared → Prop}, Names X x c → Q c { t with heap := hp } → wpAny (model X.prog X.w) (X.A.mark (some (.ref e))) (eval (.Name x np) X.env) Q E { t with heap := hp } := fun {x c np Q E} hc q => by
      obtain ⟨g, db, m | ⟨m, bt, nn⟩⟩ := hc
      · exact ld_glob (X := X.suite e ((e, o3) :: (X.pn ++ pins))) S3 g m q db
      · exact ld_blt (X := X.suite e ((e, o3) :: (X.pn ++ pins))) S3 g m bt q nn db
    have go : ∀ {hs2 : List ExceptHandler} {l2 : List Cla}, ClaOk X hs2 l2 → wM X.K W D l2 cls d σ1 H1 → wpAny (model X.prog X.w) X.A (handleBy (.ref e) X.env hs2) (SP X pins D) X.xe { t with heap := hp } := by
      intro hs2 l2 hk
      induction hk with
      | nil =>
        intro w
        refine wpAny_handleBy_nil ?_
        obtain ⟨_, _, _, oe, vs, T, oT, ts2, he, hz, hd, hh1, hr⟩ := id fl
        unfold PySem.passOn
        refine wpAny_bind (wpAny_field he hd hh1 ?_)
        have nn : ¬ ((Value.ref T == Value.none) = true) := by simp
        rw [if_neg nn]
        have fin : wpAny (model X.prog X.w) X.A (setFlight (.ref e) X.env.frame) (fun _ s4 => wpAny (model X.prog X.w) X.A (throw (.ref e) : Sem Flow) (SP X pins D) X.xe s4) X.xe { t with heap := hp } := by
          rw [ef]
          exact HandSPX.setFlight_upZ fl fun h4 hh4 u4 => wpAny_throw (tk _ _ ⟨e, B, sI, pins, σ1, H1, cls, d, rfl, J, nb, (up.trans u3).trans u4, .inr (.inr (by rw [es]; exact hh4)), na, os, ag, w⟩)
        first
          | exact wpAny_bind (wpAny_pure (wpAny_bind fin))
          | exact wpAny_bind fin
      | @bare x c ts f fs p1 p2 hs3 l3 hc su r ih =>
        rintro ⟨b, hb1, yes, no⟩
        refine wpAny_handleBy_cons (codeAny_handlers_test (test hc ((PySem.W.exm_one (M := model X.prog X.w) J3.kIn LT hb1).here ?_))) (by intro q; cases q)
        cases b with
        | false => exact ih (no rfl)
        | true =>
          refine codeAny_handlers_suite (HandSPX.lands_againZ fl fun h4 fl4 u4 => ?_)
          have J4 : Inv X pins σ1 H1 { t with heap := h4 } := J.landed nb fl4.1 ((up.trans u3).trans u4) os ag
          obtain ⟨o4, v4, g4, z4, d4⟩ := fl4.there
          refine wpAny_mono ((su e o4 cls d (X.pn ++ pins) z4 ⟨_, d4⟩).run [] _ _ H1 _ (J4.suite g4 d4 na nL nF) (yes rfl e na)) (fun f s6 q => ?_) fun _ _ z => z.elim
          cases f with
          | ret u => obtain ⟨v6, σ6, H6, S6, r6, q6⟩ := q; exact ⟨_, _, _, S6.unsuite ok, r6, q6⟩
          | next => obtain ⟨σ6, H6, S6, q6⟩ := q; exact ⟨_, _, S6.unsuite ok, q6⟩
          | brk => obtain ⟨σ6, H6, S6, q6⟩ := q; exact ⟨_, _, S6.unsuite ok, q6⟩
          | cont => obtain ⟨σ6, H6, S6, q6⟩ := q; exact ⟨_, _, S6.unsuite ok, q6⟩
      | @named x n c i ts f fs p1 p2 hs3 l3 nd hi hl hc su r ih =>
        rintro ⟨b, hb1, yes, no⟩
        refine wpAny_handleBy_cons (codeAny_handlers_test (test hc ((PySem.W.exm_one (M := model X.prog X.w) J3.kIn LT hb1).here ?_))) (by intro q; cases q)
        cases b with
        | false => exact ih (no rfl)
        | true =>
          refine codeAny_handlers_suite_as (HandSPX.lands_againZ fl fun h4 fl4 u4 => ?_)
          have J4 : Inv X pins σ1 H1 { t with heap := h4 } := J.landed nb fl4.1 ((up.trans u3).trans u4) os ag
          obtain ⟨o4, v4, g4, z4, d4⟩ := fl4.there
          refine store_ok (X := X.suite e ((e, o4) :: (X.pn ++ pins))) (v := .ref e) (J4.suite g4 d4 na nL nF) nd hi (.inl hl) rfl (fun s5 S5 => ?_) (.inr hl)
          refine wpAny_mono ((su e o4 cls d (X.pn ++ pins) z4 ⟨_, d4⟩).run [] s5 _ H1 _ S5 (yes rfl e na)) (fun f s6 q => ?_) fun _ _ z => z.elim
          have fin : ∀ {σ6 : L2.St} {H6 : Hp} {Q : Shared → Prop}, Inv (X.suite e ((e, o4) :: (X.pn ++ pins))) [] σ6 H6 s6 → (∀ s7, Inv X pins (σ6.set i none) H6 s7 → Q s7) → wpAny (model X.prog X.w) X.A (do bindName X.env n .none; unbindBehindTheSuite X.env n p2) (fun _ s7 => Q s7) X.xe s6 := fun S6 k => gone_ok (S6.unsuite ok) nd hi hl k
          cases f with
          | ret u => obtain ⟨v6, σ6, H6, S6, r6, q6⟩ := q; exact fin S6 fun s7 J7 => ⟨_, _, _, J7, r6, q6⟩
          | next => obtain ⟨σ6, H6, S6, q6⟩ := q; exact fin S6 fun s7 J7 => ⟨_, _, J7, q6⟩
          | brk => obtain ⟨σ6, H6, S6, q6⟩ := q; exact fin S6 fun s7 J7 => ⟨_, _, J7, q6⟩
          | cont => obtain ⟨σ6, H6, S6, q6⟩ := q; exact fin S6 fun s7 J7 => ⟨_, _, J7, q6⟩
    exact go hh w
  · cases f with
    | ret u => obtain ⟨v, σ1, H1, J, r, q⟩ := hsp; exact ⟨v, σ1, H1, J.ofTry ok, r, q⟩
    | next => obtain ⟨σ1, H1, J, q⟩ := hsp; exact wpAny_execs_nil ⟨σ1, H1, J.ofTry ok, q⟩
    | brk => obtain ⟨σ1, H1, J, q⟩ := hsp; exact ⟨σ1, H1, J.ofTry ok, q⟩
    | cont => obtain ⟨σ1, H1, J, q⟩ := hsp; exact ⟨σ1, H1, J.ofTry ok, q⟩
structure Txe (K : PySem.W.Frag) (a : Ad) : Prop where
  pl : PySem.W.exmOne K (.ref a.c_BadPlaces) (.ref a.c_BadLength) = some false
  nl : PySem.W.exmOne K (.ref a.c_NeverStands) (.ref a.c_BadLength) = some false
  np : PySem.W.exmOne K (.ref a.c_NeverStands) (.ref a.c_BadPlaces) = some false
  ul : PySem.W.exmOne K (.ref a.c_BadNumber) (.ref a.c_BadLength) = some false
  rl : PySem.W.exmOne K (.ref a.c_BadRoom) (.ref a.c_BadLength) = some false
  ru : PySem.W.exmOne K (.ref a.c_BadRoom) (.ref a.c_BadNumber) = some false
theorem CsAt.mono {K : PySem.W.Frag} {a : Ad} {n : Nat} {H : Hp} {y : V} {Q1 Q2 : Hp → List Nat → Prop} {E1 E2 : XK} (hQ : ∀ good, Q1 H good → Q2 H good) (hE : ∀ i, BadAt a H E1 i → BadAt a H E2 i) (h : CsAt K a n H y Q1 E1) : CsAt K a n H y Q2 E2 := by
  obtain ⟨h1, h2, h3⟩ := h
  refine ⟨h1, fun e => hE _ (h2 e), fun p e => ?_⟩
  obtain ⟨good, rest, r1, r2, r3, r4, r5⟩ := h3 p e
  refine ⟨good, rest, r1, r2, r3, r4, ?_⟩
  rcases r5 with ⟨q1, q2⟩ | ⟨b, r, q1, q2, q3, q4⟩
  · exact .inl ⟨q1, hQ _ q2⟩
  · exact .inr ⟨b, r, q1, q2, q3, hE _ q4⟩
section
variable {P : Program} {w : World} {K : PySem.W.Frag} {mg : Str → Option Value} {base : Heap} {a : Ad}
/-- what law_met tells of a bad place -/
def mEx (Q : VK) : XK := fun _ d H' => ∀ dd i, d = some dd → H' dd = some (.xd [("index", .int i)]) → ∀ o H2, Evl.Ex H' H2 → H2 o = some (.tup [.str "BadPlaces", .int i]) → Q (.ref o) H2
def mQ (n : Nat) (Q : VK) : Hp → List Nat → Prop := fun H good => ∀ ns H', ns.Perm good → ns.Pairwise (· < ·) → Evl.Ex H H' → match Nm 0 n ns with
  | some v => Q (.int (v : Int)) H'
  | none => ∀ o H2, Evl.Ex H' H2 → H2 o = some (.tup [.str "NeverStands"]) → Q (.ref o) H2
def spLm (K : PySem.W.Frag) (a : Ad) : Sp := fun vs H Q _ => ∃ x y, vs = [x, y] ∧ PlainV H x ∧ (wiB x 1 (10 ^ 30) = false → ∀ o H', Evl.Ex H H' → H' o = some (.tup [.str "BadLength"]) → Q (.ref o) H') ∧
  (∀ n : Nat, x = .int n → 1 ≤ n → (n : Int) ≤ 10 ^ 30 → CsAt K a n H y (mQ n Q) (mEx Q))
theorem ok_law_met (T : Txt K mg a) (TE : Txe K a) : FnOk P w K mg base CX0 112 a.f_law_met a.d_law_met ["_law_length_here", "_law_standing"] (spLm K a) := by
  refine T.F_law_met.ok sc_law_met (fun vs H Q E h => ?_) (fun cdv A outer s H vs Q E hr h => ?_)
  · obtain ⟨_, _, rfl, _⟩ := h
    rfl
  · obtain ⟨x, y, rfl, hx, k1, k2⟩ := h
    refine ⟨_, (pss_cons (ps_try_m (W := fun _ _ _ _ => False) rfl rfl takes0 (fun V pn xe tk _ => (pss_one (ps_set (i := 2) sc_law_met.nd rfl (by first | exact Or.inl rfl | exact Or.inr rfl) (pe_callS (ok_chain_number T) (hr.mono (by decide)) rfl T.m_chain_number T.F_chain_number.kp T.b_chain_number (fun σ => passAt tk σ) (pa_cons (pv 0) (pa_cons (pv 1) pa_nil)))))) (ClaOk.bare ⟨rfl, by decide, Or.inl T.m_BadLength⟩ (fun e o cls d pn hz hf => (pss_one (ps_ret (pe_tup (pa_cons pe_str pa_nil))))) (ClaOk.named (i := 3) sc_law_met.nd rfl rfl ⟨rfl, by decide, Or.inl T.m_BadPlaces⟩ (fun e o cls d pn hz hf => (pss_one (ps_ret (pe_tup (pa_cons pe_str (pa_cons (pe_xf T.xf_BadPlaces T.xn_BadPlaces_index hz hf (pv 3)) pa_nil)))))) (ClaOk.bare ⟨rfl, by decide, Or.inl T.m_NeverStands⟩ (fun e o cls d pn hz hf => (pss_one (ps_ret (pe_tup (pa_cons pe_str pa_nil))))) ClaOk.nil))))
  (pss_one (ps_ret (pv 2)))), ?_⟩
    walk_at "sm"
    refine ⟨x, y, rfl, hx, fun e => ?_, fun n e n1 n2 => (k2 n e n1 n2).mono (fun good hq ns H' hp hs x1 => ?_) (fun i hb d H' x1 hd => ?_)⟩
    · refine ⟨true, T.xe_BadLength, fun _ eo heo => ?_, fun q => (nomatch q)⟩
      dsimp only [enM, stM]
      walk_at "sm"
      exact ⟨sz (by decide), fun o ho => k1 e o _ (Evl.Ex.new ho) upd_same⟩
    · have hq := hq ns H' hp hs x1
      cases eN : Nm 0 n ns with
      | some v =>
        rw [eN] at hq
        exact hq
      | none =>
        rw [eN] at hq
        refine ⟨false, TE.nl, fun q => (nomatch q), fun _ => ⟨false, TE.np, fun q => (nomatch q), fun _ => ⟨true, T.xe_NeverStands, fun _ eo heo => ?_, fun q => (nomatch q)⟩⟩⟩
        dsimp only [enM, stM]
        walk_at "sm"
        exact ⟨sz (by decide), fun o ho => hq o _ (Evl.Ex.new ho) upd_same⟩
    · refine ⟨false, TE.pl, fun q => (nomatch q), fun _ => ⟨true, T.xe_BadPlaces, fun _ eo heo => ?_, fun q => (nomatch q)⟩⟩
      dsimp only [enM, stM]
      walk_at "sm"
      refine ⟨_, hd, _, rfl, sz (by decide), fun o ho => hb d H' x1 hd d i rfl hd o _ (Evl.Ex.new ho) upd_same⟩
end


section
variable {P : Program} {w : World} {K : PySem.W.Frag} {mg : Str → Option Value} {base : Heap} {a : Ad}
def spRf : Sp := fun vs H Q _ => ∃ (m : Int) (x y : V), vs = [.int m, x, y] ∧ PlainV H x ∧ PlainV H y ∧ 0 ≤ m ∧
  ((m ≤ 3 ∧ wiB x 1 (10 ^ 30) = false ∧ ∀ H', Evl.Ex H H' → Q (.str "length") H') ∨ (m = 4 ∧ wiB x 1 200 = false ∧ ∀ H', Evl.Ex H H' → Q (.str "room") H') ∨
   (∃ n : Nat, x = .int n ∧ 1 ≤ n ∧ (n : Int) ≤ 10 ^ 30 ∧ ((m = 2 ∧ wiB y 0 ((Mv n : Int) - 1) = false) ∨ (m = 3 ∧ wiB y 0 (Mv n : Int) = false)) ∧ ∀ H', Evl.Ex H H' → Q (.str "number") H'))
theorem ok_law_refused (T : Txt K mg a) (TE : Txe K a) : FnOk P w K mg base CX0 112 a.f_law_refused a.d_law_refused ["_law_which", "_law_length_here", "_law_number"] spRf := by
  refine T.F_law_refused.ok sc_law_refused (fun vs H Q E h => ?_) (fun cdv A outer s H vs Q E hr h => ?_)
  · obtain ⟨_, _, _, rfl, _⟩ := h
    rfl
  · obtain ⟨m, x, y, rfl, hx, hy, m0, kk⟩ := h
    refine ⟨_, (pss_cons (ps_try_m (W := fun _ _ _ _ => False) rfl rfl takes0 (fun V pn xe tk _ => (pss_one (ps_if (pt_cmpR op_eq (pv 0) pe_int (nomark _)) (pss_one (ps_expr (pe_callS (ok_chain_price T) (hr.mono (by decide)) rfl T.m_chain_price T.F_chain_price.kp T.b_chain_price (fun σ => passAt tk σ) (pa_cons (pv 1) pa_nil))))
    (pss_one (ps_if (pt_cmpR op_eq (pv 0) pe_int (nomark _)) (pss_one (ps_expr (pe_callS (ok_chain_moves T) (hr.mono (by decide)) rfl T.m_chain_moves T.F_chain_moves.kp T.b_chain_moves (fun σ => passAt tk σ) (pa_cons (pv 1) pa_nil))))
    (pss_one (ps_if (pt_cmpR op_eq (pv 0) pe_int (nomark _)) (pss_one (ps_expr (pe_callS (ok_chain_move T) (hr.mono (by decide)) rfl T.m_chain_move T.F_chain_move.kp T.b_chain_move (fun σ => passAt tk σ) (pa_cons (pv 1) (pa_cons (pv 2) pa_nil)))))
    (pss_one (ps_if (pt_cmpR op_eq (pv 0) pe_int (nomark _)) (pss_one (ps_expr (pe_callS (ok_chain_standing T) (hr.mono (by decide)) rfl T.m_chain_standing T.F_chain_standing.kp T.b_chain_standing (fun σ => passAt tk σ) (pa_cons (pv 1) (pa_cons (pv 2) pa_nil)))))
    (pss_one (ps_expr (pe_callS (ok_longest_chain T) (hr.mono (by decide)) rfl T.m_longest_chain T.F_longest_chain.kp T.b_longest_chain (fun σ => passAt tk σ) (pa_cons (pv 1) pa_nil))))))))))))) (ClaOk.bare ⟨rfl, by decide, Or.inl T.m_BadLength⟩ (fun e o cls d pn hz hf => (pss_one (ps_ret pe_str))) (ClaOk.bare ⟨rfl, by decide, Or.inl T.m_BadNumber⟩ (fun e o cls d pn hz hf => (pss_one (ps_ret pe_str))) (ClaOk.bare ⟨rfl, by decide, Or.inl T.m_BadRoom⟩ (fun e o cls d pn hz hf => (pss_one (ps_ret pe_str))) ClaOk.nil))))
  (pss_one (ps_ret pe_str))), ?_⟩
    walk_at "sm"
    rcases kk with ⟨m3, e, k⟩ | ⟨rfl, e, k⟩ | ⟨n, rfl, n1, n2, hm, k⟩
    · have no : ∀ i : Int, x = .int i → 1 ≤ i → i ≤ 10 ^ 30 → False := fun i e1 i1 i2 => by rw [e1, wi_of i1 i2] at e; cases e
      rcases (show m = 0 ∨ m = 1 ∨ m = 2 ∨ m = 3 by omega) with rfl | rfl | rfl | rfl
      · refine iteT' (by decide) ⟨x, rfl, hx, fun i e1 i1 i2 => (no i e1 i1 i2).elim, fun _ => ⟨true, T.xe_BadLength, fun _ eo heo => ?_, fun q => (nomatch q)⟩⟩
        exact k _ (Evl.Ex.refl _)
      · refine iteF' (by decide) (iteT' (by decide) ⟨x, rfl, hx, fun n e1 i1 i2 => (no n e1 (by omega) i2).elim, fun _ => ⟨true, T.xe_BadLength, fun _ eo heo => ?_, fun q => (nomatch q)⟩⟩)
        exact k _ (Evl.Ex.refl _)
      · refine iteF' (by decide) (iteF' (by decide) (iteT' (by decide) ⟨x, y, rfl, hx, hy, fun _ => ⟨true, T.xe_BadLength, fun _ eo heo => ?_, fun q => (nomatch q)⟩, fun n e1 i1 i2 => (no n e1 (by omega) i2).elim⟩))
        exact k _ (Evl.Ex.refl _)
      · refine iteF' (by decide) (iteF' (by decide) (iteF' (by decide) (iteT' (by decide) ⟨x, y, rfl, hx, hy, fun _ => ⟨true, T.xe_BadLength, fun _ eo heo => ?_, fun q => (nomatch q)⟩, fun n e1 i1 i2 => (no n e1 (by omega) i2).elim⟩)))
        exact k _ (Evl.Ex.refl _)
    · refine iteF' (by decide) (iteF' (by decide) (iteF' (by decide) (iteF' (by decide) ⟨x, rfl, hx, fun i e1 i1 i2 => (by rw [e1, wi_of i1 i2] at e; cases e), fun _ => ⟨false, TE.rl, fun q => (nomatch q), fun _ => ⟨false, TE.ru, fun q => (nomatch q), fun _ => ⟨true, T.xe_BadRoom, fun _ eo heo => ?_, fun q => (nomatch q)⟩⟩⟩⟩)))
      exact k _ (Evl.Ex.refl _)
    · rcases hm with ⟨rfl, hm⟩ | ⟨rfl, hm⟩
      · refine iteF' (by decide) (iteF' (by decide) (iteT' (by decide) ⟨_, y, rfl, hx, hy, fun e => ?_, fun n2' e1 i1 i2 => ⟨fun _ H' x1 => ?_, fun k2 e2 hk => ?_⟩⟩))
        · rw [wi_of (by omega) n2] at e; cases e
        · refine ⟨false, TE.ul, fun q => (nomatch q), fun _ => ⟨true, T.xe_BadNumber, fun _ eo heo => ?_, fun q => (nomatch q)⟩⟩
          exact k _ x1
        · have : n2' = n := by have := V.int.inj e1; omega
          subst this
          rw [e2, wi_of (by omega) (by omega)] at hm; cases hm
      · refine iteF' (by decide) (iteF' (by decide) (iteF' (by decide) (iteT' (by decide) ⟨_, y, rfl, hx, hy, fun e => ?_, fun n2' e1 i1 i2 => ⟨fun _ H' x1 => ?_, fun k2 e2 hk => ?_⟩⟩)))
        · rw [wi_of (by omega) n2] at e; cases e
        · refine ⟨false, TE.ul, fun q => (nomatch q), fun _ => ⟨true, T.xe_BadNumber, fun _ eo heo => ?_, fun q => (nomatch q)⟩⟩
          exact k _ x1
        · have : n2' = n := by have := V.int.inj e1; omega
          subst this
          rw [e2, wi_of (by omega) (by omega)] at hm; cases hm
end


theorem CntAt.fr {H H' : Hp} {d p : Addr} {n : Nat} (e : Fr p H H') (ne : d ≠ p) (h : CntAt H d n) : CntAt H' d n := by
  obtain ⟨kvs, f, r⟩ := h
  exact ⟨kvs, e _ _ ne f, r⟩
section
variable {P : Program} {w : World} {K : PySem.W.Frag} {mg : Str → Option Value} {base : Heap} {a : Ad}
def spDn : Sp := fun vs H Q _ => ∃ (p c d : Addr) (n : Nat), vs = [.ref p, .ref d, .int n] ∧ HandAt H p c ∧ CntAt H d n ∧ d ≠ p ∧ 1 ≤ n ∧ n < 2 ^ 100 ∧ ∀ (k : Nat) H', k ≤ Mv n → Fr p H H' → HandAt H' p c → Q (.int k) H'
theorem ok_law_drawn_number (T : Txt K mg a) : FnOk P w K mg base CX0 4 a.f_law_drawn_number a.d_law_drawn_number ["_law_hand_here", "_law_counts", "_law_length_here"] spDn := by
  refine T.F_law_drawn_number.ok sc_law_drawn_number (fun vs H Q E h => ?_) (fun cdv A outer s H vs Q E hr h => ?_)
  · obtain ⟨_, _, _, _, rfl, _⟩ := h
    rfl
  · obtain ⟨p, c, d, n, rfl, hh, hd, ndp, n1, n2, k⟩ := h
    refine ⟨_, (pss_cons (ps_set (i := 3) sc_law_drawn_number.nd rfl (by first | exact Or.inl rfl | exact Or.inr rfl) (pe_call (ok_law_take T) (hr.mono (by decide)) rfl T.m_law_take T.F_law_take.kp T.b_law_take .nil pass0 (pa_cons (pv 0) (pa_cons pe_int pa_nil))))
  (pss_cons (ps_if (PW.pt (pw_or (pt_cmpR op_eq (pv 2) pe_int (nomark _)) (pw_or1 (pt_cmpR op_lt (pv 3) pe_int (nomark _))))) (pss_one (ps_ret (pe_call (ok_law_great T) (hr.mono (by decide)) rfl T.m_law_great T.F_law_great.kp T.b_law_great .nil pass0 (pa_cons (pv 0) (pa_cons (pe_op op_add (pe_dget (hu1 hr.units) (pv 1) (pv 2) (fun _ _ => rfl)) pe_int) pa_nil)))))
    pss_nil)
  (pss_cons (ps_set (i := 4) sc_law_drawn_number.nd rfl (by first | exact Or.inl rfl | exact Or.inr rfl) (pe_dget (hu1 hr.units) (pv 1) (pe_op op_fdiv (pv 2) pe_int) (fun _ _ => rfl)))
  (pss_cons (ps_set (i := 5) sc_law_drawn_number.nd rfl (by first | exact Or.inl rfl | exact Or.inr rfl) (pe_dget (hu1 hr.units) (pv 1) (pe_op op_sub (pv 2) (pe_op op_fdiv (pv 2) pe_int)) (fun _ _ => rfl)))
  (pss_cons (ps_set (i := 6) sc_law_drawn_number.nd rfl (by first | exact Or.inl rfl | exact Or.inr rfl) (pe_ix ix_list (pe_lst (pa_cons pe_int (pa_cons (pv 4) (pa_cons (pe_op op_add (pv 4) (pv 5)) (pa_cons (pe_dget (hu1 hr.units) (pv 1) (pv 2) (fun _ _ => rfl)) pa_nil))))) (pe_call (ok_law_take T) (hr.mono (by decide)) rfl T.m_law_take T.F_law_take.kp T.b_law_take .nil pass0 (pa_cons (pv 0) (pa_cons pe_int pa_nil))) (fun _ _ => rfl)))
  (pss_one (ps_ret (pe_callB (call_max2 rfl) (by rfl) T.z_max (by decide +kernel) (pa_cons pe_int (pa_cons (pe_callB (call_min2 rfl) (by rfl) T.z_min (by decide +kernel) (pa_cons (pe_dget (hu1 hr.units) (pv 1) (pv 2) (fun _ _ => rfl)) (pa_cons (pe_op op_sub (pe_op op_add (pv 6) (pe_call (ok_law_take T) (hr.mono (by decide)) rfl T.m_law_take T.F_law_take.kp T.b_law_take .nil pass0 (pa_cons (pv 0) (pa_cons pe_int pa_nil)))) pe_int) pa_nil))) pa_nil)))))))))), ?_⟩
    walk_at "sm"
    have hC := Cl_closed n2
    refine tk hh (by omega) (by omega) fun r H1 r0 r1 f1 h1 => ?_
    have d1 := hd.fr f1 ndp
    have gn := d1.get Cl_self n1
    have gr : ∃ x, DGet H1 d (V.int (n : Int)) (some x) ∧ ∃ i, x = V.int i ∧ spGreat [V.ref p, V.int (i + 1)] H1 Q E0 := by
      refine ⟨_, gn, _, rfl, p, c, _, rfl, h1, by omega, fun g H2 g0 g1 f2 h2 => ?_⟩
      have := k g.toNat H2 (by omega) (f1.trans f2) h2
      rw [show ((g.toNat : Nat) : Int) = g by omega] at this
      exact this
    refine ite2' (fun _ => gr) (fun e => ⟨_, rfl, ite2' (fun _ => gr) (fun _ => ?_)⟩)
    have n2' : 2 ≤ n := by omega
    obtain ⟨c1, c2⟩ := hC.2 n Cl_self n2'
    have e1 : ((n : Int) / 2) = ((n / 2 : Nat) : Int) := by omega
    have e2 : ((n : Int) - ((n / 2 : Nat) : Int)) = ((n - n / 2 : Nat) : Int) := by omega
    rw [e1, e2]
    refine ⟨by unfold CDiv; decide, _, d1.get c1 (by omega), by unfold CDiv; decide, _, d1.get c2 (by omega), _, rfl, _, rfl, _, gn, sz (by decide), fun t ht => ?_⟩
    have ntp := h1.lt ht
    refine tk (h1.upd ntp (h1.lc ht)) (by omega) (by omega) fun s H2 s0 s1 f2 h2 => ?_
    have y2 := f2 _ _ ntp upd_same
    have d2 := (d1.go (Evl.Ex.new ht)).fr f2 ndp
    have fin : ∀ b : Int, (∃ x_4, DGet H2 d (V.int (n : Int)) (some x_4) ∧ spTake [V.ref p, V.int 3] H2 (fun y H2 => ∃ i, V.int b = V.int i ∧ ∃ x, y = V.int x ∧ ∃ i_1, x_4 = V.int i_1 ∧ Q (V.int (if (if i + x - 1 < i_1 then i + x - 1 else i_1) > 0 then if i + x - 1 < i_1 then i + x - 1 else i_1 else 0)) H2) E0) := by
      intro b
      refine ⟨_, d2.get Cl_self n1, tk h2 (by omega) (by omega) fun u H3 u0 u1 f3 h3 => ⟨_, rfl, _, rfl, _, rfl, ?_⟩⟩
      have ff := ((f1.trans (Fr.of (Evl.Ex.new ht))).trans f2).trans f3
      generalize eb : (if (if b + u - 1 < (Mv n : Int) then b + u - 1 else (Mv n : Int)) > 0 then if b + u - 1 < (Mv n : Int) then b + u - 1 else (Mv n : Int) else 0) = bb
      have hb : 0 ≤ bb ∧ bb ≤ (Mv n : Int) := by
        rw [← eb]
        split <;> split <;> omega
      have := k bb.toNat H3 (by omega) ff h3
      rw [show ((bb.toNat : Nat) : Int) = bb by omega] at this
      exact this
    rcases (show s = 0 ∨ s = 1 ∨ s = 2 ∨ s = 3 by omega) with rfl | rfl | rfl | rfl
    · exact ixl (SqL.of y2) rfl (fin _)
    · exact ixl (SqL.of y2) rfl (fin _)
    · exact ixl (SqL.of y2) rfl (fin _)
    · exact ixl (SqL.of y2) rfl (fin _)
end


theorem inVN {z : Nat} {l : List Nat} : inV (.int (z : Int)) (vN l) = decide (z ∈ l) := by
  unfold inV vN
  rw [List.any_map, Bool.eq_iff_iff, List.any_eq_true, decide_eq_true_eq]
  constructor
  · rintro ⟨x, hx, e⟩
    have e : (x : Int) = z := by simpa [eqV] using e
    have : x = z := by omega
    exact this ▸ hx
  · intro h
    exact ⟨z, h, by simp [eqV]⟩
theorem perm_set {m : Nat} : ∀ {l : List Nat} {k : Nat} (_ : k < l.length), (l.set k m).Perm (m :: l.eraseIdx k)
  | [], _, h => absurd h (Nat.not_lt_zero _)
  | _ :: _, 0, _ => .refl _
  | x :: l, k + 1, h => by
    have ih := perm_set (m := m) (l := l) (k := k) (by simpa using h)
    exact (ih.cons x).trans (List.Perm.swap m x _)
theorem vN_set {m : Nat} : ∀ {l : List Nat} {k : Nat}, (vN l).set k (.int (m : Int)) = vN (l.set k m)
  | [], _ => rfl
  | _ :: _, 0 => rfl
  | x :: l, k + 1 => by
    have ih := vN_set (m := m) (l := l) (k := k)
    show V.int (x : Int) :: (vN l).set k _ = _
    rw [ih]; rfl
theorem flatN (l : List Nat) : (vN l).all flatV = true := by
  unfold vN
  induction l with
  | nil => rfl
  | cons x l ih => rw [List.map_cons, List.all_cons, ih]; rfl
section
variable {P : Program} {w : World} {K : PySem.W.Frag} {mg : Str → Option Value} {base : Heap} {a : Ad}
def spSp (K : PySem.W.Frag) : Sp := fun vs H Q _ => ∃ (p c q : Addr) (n : Nat) (l : List Nat), vs = [.ref p, .int n, .ref q] ∧ HandAt H p c ∧ H q = some (.tup (vN l)) ∧ q ≠ p ∧ 1 ≤ n ∧ l.length ≤ 900 ∧ l.Nodup ∧ (∀ z ∈ l, z < n) ∧
  ∀ r l' H', Fr p H H' → HandAt H' p c → H r = none → H' r = some (.lst (vN l')) → l'.Nodup → (∀ z ∈ l', z < n) → l'.length ≤ l.length + 1 → Q (.ref r) H'
theorem ok_law_spoilt (T : Txt K mg a) : FnOk P w K mg base CX0 4 a.f_law_spoilt a.d_law_spoilt ["_law_hand_here", "_law_length_here", "_law_standing"] (spSp K) := by
  refine T.F_law_spoilt.ok sc_law_spoilt (fun vs H Q E h => ?_) (fun cdv A outer s H vs Q E hr h => ?_)
  · obtain ⟨_, _, _, _, _, rfl, _⟩ := h
    rfl
  · obtain ⟨p, c, q, n, l, rfl, hh, hq, nqp, n1, hl, hn, hz, k⟩ := h
    refine ⟨_, (pss_cons (ps_set (i := 2) sc_law_spoilt.nd rfl (by first | exact Or.inl rfl | exact Or.inr rfl) (pe_callTy call_list_of (by rfl) T.z_list (by decide +kernel) (pa_cons (pv 2) pa_nil)))
  (pss_cons (ps_set (i := 3) sc_law_spoilt.nd rfl (by first | exact Or.inl rfl | exact Or.inr rfl) (pe_call (ok_law_take T) (hr.mono (by decide)) rfl T.m_law_take T.F_law_take.kp T.b_law_take .nil pass0 (pa_cons (pv 0) (pa_cons pe_int pa_nil))))
  (pss_cons (ps_if (PW.pt (pw_and (pt_cmpR op_eq (pv 3) pe_int (nomark _)) (pw_and1 (pt_cmpR op_gt (pe_callB call_len_seq (by rfl) T.z_len (by decide +kernel) (pa_cons (pv 2) pa_nil)) pe_int (nomark _))))) (pss_one (ps_expr (pe_bm PySem.F.plainAttrs_list PySem.F.slot_list_pop PySem.F.type_list_pop mt_popAt (pv 2) (pa_cons (pe_call (ok_law_take T) (hr.mono (by decide)) rfl T.m_law_take T.F_law_take.kp T.b_law_take .nil pass0 (pa_cons (pv 0) (pa_cons (pe_callB call_len_seq (by rfl) T.z_len (by decide +kernel) (pa_cons (pv 2) pa_nil)) pa_nil))) pa_nil))))
    (pss_one (ps_if (PW.pt (pw_and (pt_cmpR op_eq (pv 3) pe_int (nomark _)) (pw_and1 (pt_cmpR op_gt (pe_callB call_len_seq (by rfl) T.z_len (by decide +kernel) (pa_cons (pv 2) pa_nil)) pe_int (nomark _))))) (pss_cons (ps_set (i := 4) sc_law_spoilt.nd rfl (by first | exact Or.inl rfl | exact Or.inr rfl) (pe_call (ok_law_take T) (hr.mono (by decide)) rfl T.m_law_take T.F_law_take.kp T.b_law_take .nil pass0 (pa_cons (pv 0) (pa_cons (pe_callB call_len_seq (by rfl) T.z_len (by decide +kernel) (pa_cons (pv 2) pa_nil)) pa_nil))))
  (pss_cons (ps_set (i := 5) sc_law_spoilt.nd rfl (by first | exact Or.inl rfl | exact Or.inr rfl) (pe_op op_mod (pe_callTy call_int1 (by rfl) T.z_int (by decide +kernel) (pa_cons (pe_op op_add (pe_op op_add (pe_ix ix_list (pv 2) (pv 4) (fun _ _ => rfl)) pe_int) (pe_call (ok_law_great T) (hr.mono (by decide)) rfl T.m_law_great T.F_law_great.kp T.b_law_great .nil pass0 (pa_cons (pv 0) (pa_cons (pv 1) pa_nil)))) pa_nil)) (pv 1)))
  (pss_one (ps_if (pt_cmpR op_notIn_seq (pv 5) (pv 2) (by rfl)) (pss_one (ps_asg (pv 5) (pg_sub (pv 2) (pv 4) set_list (by intro _; rfl))))
    pss_nil))))
    (pss_one (ps_if (pt_cmpR op_gt (pv 3) pe_int (nomark _)) (pss_cons (ps_set (i := 6) sc_law_spoilt.nd rfl (by first | exact Or.inl rfl | exact Or.inr rfl) (pe_call (ok_law_great T) (hr.mono (by decide)) rfl T.m_law_great T.F_law_great.kp T.b_law_great .nil pass0 (pa_cons (pv 0) (pa_cons (pv 1) pa_nil))))
  (pss_one (ps_if (pt_cmpR op_notIn_seq (pv 6) (pv 2) (by rfl)) (pss_one (ps_expr (pe_bm PySem.F.plainAttrs_list PySem.F.slot_list_append PySem.F.type_list_append mt_append (pv 2) (pa_cons (pv 6) pa_nil))))
    pss_nil)))
    pss_nil)))))
  (pss_one (ps_ret (pv 2)))))), ?_⟩
    walk_at "sm"
    refine ⟨_, .inr (SqT.of hq), fun s hs => ?_⟩
    have nsp := hh.lt hs
    refine tk (hh.upd nsp (hh.lc hs)) (by omega) (by omega) fun r H1 r0 r1 f1 h1 => ⟨rfl, ?_⟩
    have y1 := f1 _ _ nsp upd_same
    have ff : Fr p H H1 := (Fr.of (Evl.Ex.new hs)).trans f1
    have el : (vN l).length = l.length := by unfold vN; rw [List.length_map]
    have same : ∀ H', Fr p H H' → HandAt H' p c → H' s = some (.lst (vN l)) → Q (.ref s) H' := fun H' g1 g2 g3 => k s l H' g1 g2 hs g3 hn hz (by omega)
    rcases (show r = 0 ∨ r = 1 ∨ r = 2 ∨ r = 3 by omega) with rfl | rfl | rfl | rfl
    · refine iteT' rfl ⟨_, .inl (SqL.of y1), ite2' (fun q0 => ⟨.inl ⟨rfl, _, SqL.of y1⟩, _, .inl (SqL.of y1), ?_⟩) (fun q0 => ⟨rfl, iteF' (by decide) ⟨_, rfl, iteF' (by decide) (same H1 ff h1 y1)⟩⟩)⟩
      rw [el] at q0 ⊢
      refine tk h1 (by omega) (by omega) fun u H2 u0 u1 f2 h2 => ?_
      obtain ⟨j, rfl⟩ : ∃ j : Nat, u = j := ⟨u.toNat, by omega⟩
      have hj : j < l.length := by omega
      have pe := perm_erase hj
      have hn2 := pe.nodup_iff.mpr hn
      rw [List.nodup_cons] at hn2
      refine ⟨s, _, (j : Int), j, .int (l[j] : Int), rfl, rfl, f2 _ _ nsp y1, by omega, by omega, by rw [el]; exact seqIx hj, ?_, ?_⟩
      · unfold vN
        rw [List.getElem?_map, List.getElem?_eq_getElem hj]; rfl
      · rw [vN_erase]
        exact k s (l.eraseIdx j) _ ((ff.trans f2).mut hs) (h2.upd nsp (hh.lc hs)) hs upd_same hn2.2 (fun z hz2 => hz z (pe.mem_iff.mp (List.mem_cons_of_mem _ hz2))) (by rw [List.length_eraseIdx_of_lt hj]; omega)
    · refine iteF' (by decide) ⟨rfl, iteT' rfl ⟨_, .inl (SqL.of y1), ite2' (fun q0 => ⟨_, .inl (SqL.of y1), ?_⟩) (fun q0 => ⟨_, rfl, iteF' (by decide) (same H1 ff h1 y1)⟩)⟩⟩
      rw [el] at q0 ⊢
      refine tk h1 (by omega) (by omega) fun u H2 u0 u1 f2 h2 => ?_
      obtain ⟨j, rfl⟩ : ∃ j : Nat, u = j := ⟨u.toNat, by omega⟩
      have hj : j < l.length := by omega
      have y2 := f2 _ _ nsp y1
      refine ixl (SqL.of y2) (v := .int (l[j] : Int)) (atI_nat (by unfold vN; rw [List.getElem?_map, List.getElem?_eq_getElem hj]; rfl)) ⟨_, rfl, p, c, _, rfl, h2, by omega, fun g H3 g0 g1 f3 h3 => ⟨_, rfl, by omega, ?_⟩⟩
      have y3 := f3 _ _ nsp y2
      have m0 := Int.emod_nonneg ((l[j] : Int) + 1 + g) (show (n : Int) ≠ 0 by omega)
      have m1 := Int.emod_lt_of_pos ((l[j] : Int) + 1 + g) (show (0 : Int) < n by omega)
      obtain ⟨m, em⟩ : ∃ m : Nat, ((l[j] : Int) + 1 + g) % (n : Int) = m := ⟨(((l[j] : Int) + 1 + g) % (n : Int)).toNat, by omega⟩
      rw [em] at m0 m1 ⊢
      refine ⟨s, _, rfl, .inl (SqL.of y3), rfl, flatN l, _, rfl, ?_⟩
      rw [inVN]
      by_cases q2 : m ∈ l
      · rw [decide_eq_true q2]
        exact iteF' (by simp) (same H3 ((ff.trans f2).trans f3) h3 y3)
      · rw [decide_eq_false q2]
        refine iteT' (by simp) (setl y3 (j := j) ?_ ?_)
        · unfold ixN
          rw [el, if_pos (by omega), if_pos (by omega)]; rfl
        · rw [vN_set]
          have ps := perm_set (m := m) hj
          have pe := perm_erase hj
          have hn2 := pe.nodup_iff.mpr hn
          rw [List.nodup_cons] at hn2
          refine k s (l.set j m) _ (((ff.trans f2).trans f3).mut hs) (h3.upd nsp (hh.lc hs)) hs upd_same (ps.nodup_iff.mpr (List.nodup_cons.mpr ⟨fun z => q2 (pe.mem_iff.mp (List.mem_cons_of_mem _ z)), hn2.2⟩)) (fun z hz2 => ?_) (by rw [List.length_set]; omega)
          rcases List.mem_cons.mp (ps.mem_iff.mp hz2) with rfl | hz2
          · omega
          · exact hz z (pe.mem_iff.mp (List.mem_cons_of_mem _ hz2))
    all_goals
      refine iteF' (by decide) ⟨rfl, iteF' (by decide) ⟨_, rfl, iteT' (by decide) ⟨p, c, _, rfl, h1, by omega, fun g H3 g0 g1 f3 h3 => ?_⟩⟩⟩
      have y3 := f3 _ _ nsp y1
      obtain ⟨m, rfl⟩ : ∃ m : Nat, g = m := ⟨g.toNat, by omega⟩
      refine ⟨s, _, rfl, .inl (SqL.of y3), rfl, flatN l, _, rfl, ?_⟩
      rw [inVN]
      by_cases q2 : m ∈ l
      · rw [decide_eq_true q2]
        exact iteF' (by simp) (same H3 (ff.trans f3) h3 y3)
      · rw [decide_eq_false q2]
        refine iteT' (by simp) ⟨.inl ⟨rfl, _, SqL.of y3⟩, s, _, _, rfl, rfl, y3, by rw [el]; exact Nat.lt_of_lt_of_le (by omega : l.length < 2000) (by decide), ?_⟩
        refine k s (l ++ [m]) _ ((ff.trans f3).mut hs) (h3.upd nsp (hh.lc hs)) hs (by rw [upd_same]; unfold vN; rw [List.map_append]; rfl) ?_ ?_ (by rw [List.length_append]; exact Nat.le_refl _)
        · rw [List.nodup_append]
          refine ⟨hn, List.nodup_cons.mpr ⟨by simp, .nil⟩, fun x hx y hy => ?_⟩
          rw [List.mem_singleton.mp hy]
          rintro rfl
          exact q2 hx
        · intro z hz2
          rcases List.mem_append.mp hz2 with h | h
          · exact hz z h
          · rw [List.mem_singleton.mp h]; omega
end


theorem le_bits {n : Nat} (h1 : 1 ≤ n) (h2 : n < 2 ^ 100) : n ≤ 2 ^ (PySem.Builtin.Int.intBits ((n : Int) - 1)) ∧ PySem.Builtin.Int.intBits ((n : Int) - 1) ≤ 100 := by
  have e : ((n : Int) - 1).natAbs = n - 1 := by omega
  unfold PySem.Builtin.Int.intBits
  rw [e]
  by_cases q : n = 1
  · subst q; exact ⟨by decide, by decide⟩
  · have q2 : ((n : Int) - 1 == 0) = false := by
      rw [beq_eq_false_iff_ne]; omega
    rw [q2, if_neg (by decide)]
    have a := Nat.lt_log2_self (n := n - 1)
    have b : (n - 1).log2 < 100 := (Nat.log2_lt (by omega)).mpr (by omega)
    exact ⟨by omega, by omega⟩
theorem St_len : ∀ (k n f m : Nat), n ≤ 2 ^ k → (St f n m).length ≤ k + 1
  | k, n, f, m, h => by
    by_cases h1 : n ≤ 1
    · rw [St1 h1]
      split <;> simp
    · match k, h with
      | 0, h => simp at h; omega
      | k + 1, h =>
        have p2 := Nat.pow_succ 2 k
        by_cases c1 : m ≤ Mv (n / 2)
        · rw [St_lo (by omega) c1]
          have := St_len k (n / 2) f m (by omega)
          omega
        · by_cases c2 : m - Mv (n / 2) ≤ Mv (n - n / 2)
          · rw [St_mi (by omega) (by omega) c2, List.length_cons]
            have := St_len k (n - n / 2) (f + n / 2) (m - Mv (n / 2)) (by omega)
            omega
          · rw [St_hi (by omega) (by omega) (by omega), List.length_append]
            have := St_len k (n / 2) f (Mv (n / 2) - (m - Mv (n / 2) - Mv (n - n / 2))) (by omega)
            show _ + 1 ≤ _
            omega


theorem op_notIn_seq_b {X : Cx} {s : Shared} {H : Hp} {scope : Scope} {env : Env} {fp : List Addr} : OpR (X.blk s H scope env fp) (compareOp .NotIn) (rIn X.K true) := op_notIn_seq
theorem inVC {z : Nat} {l : List Nat} : inV (.int (z : Int)) (vN l) = l.contains z := by
  rw [inVN, ← List.elem_eq_mem]
theorem vN_at {l : List Nat} {i : Nat} {x : V} (h : (vN l)[i]? = some x) : ∃ z, l[i]? = some z ∧ x = .int (z : Int) := by
  unfold vN at h
  rw [List.getElem?_map] at h
  cases e2 : l[i]? with
  | none => rw [e2] at h; cases h
  | some z => rw [e2] at h; exact ⟨z, rfl, (Option.some.inj h).symm⟩
theorem vN_len (l : List Nat) : (vN l).length = l.length := by unfold vN; rw [List.length_map]
theorem flt_step {p : Nat → Bool} {l : List Nat} {i z : Nat} (h : l[i]? = some z) (b : Bool) (e : p z = b) : (l.take (i + 1)).filter p = if b then (l.take i).filter p ++ [z] else (l.take i).filter p := by
  rw [List.take_succ, h, List.filter_append, Option.toList_some, List.filter_cons, e]
  cases b with
  | true => rfl
  | false => simp
/-- a list comprehension that leaves out what lies in another row: its state -/
def ivNi (l m : List Nat) (H : Hp) : Addr → Nat → Hp → Prop := fun D i HD => HD D = some (.lst (vN ((l.take i).filter fun x => !m.contains x))) ∧ Evl.Ex H HD
theorem ivNi_new {l m : List Nat} {H : Hp} {D : Addr} (hD : H D = none) : ivNi l m H D 0 (upd H D (.lst [])) := ⟨by rw [upd_same]; rfl, Evl.Ex.new hD⟩
theorem ivNi_go {l m : List Nat} {H HD : Hp} {D : Addr} {i z : Nat} (hD : H D = none) (hz : l[i]? = some z) (hl : l.length ≤ 1000) (v : ivNi l m H D i HD) : if (!m.contains z) = true then ∃ acc, HD D = some (.lst acc) ∧ acc.length < sizeLine ∧ ivNi l m H D (i + 1) (upd HD D (.lst (acc ++ [.int (z : Int)]))) else ivNi l m H D (i + 1) HD := by
  obtain ⟨v1, v2⟩ := v
  by_cases q : (!m.contains z) = true
  · refine iteT' q ⟨_, v1, ?_, ?_, v2.mut hD⟩
    · rw [vN_len]
      have := List.length_filter_le (fun x => !m.contains x) (l.take i)
      rw [List.length_take] at this
      exact Nat.lt_of_lt_of_le (by omega : _ < 2000) (by decide)
    · rw [upd_same, flt_step hz true q]
      unfold vN
      rw [if_pos rfl, List.map_append]
      rfl
  · refine iteF' q ⟨?_, v2⟩
    rw [v1, flt_step hz false (by simpa using q)]
    rfl
theorem ivNi_end {l m : List Nat} {H HD : Hp} {D : Addr} (v : ivNi l m H D (vN l).length HD) : HD D = some (.lst (vN (l.filter fun x => !m.contains x))) ∧ Evl.Ex H HD := by
  obtain ⟨v1, v2⟩ := v
  rw [vN_len, List.take_length] at v1
  exact ⟨v1, v2⟩
section
variable {P : Program} {w : World} {K : PySem.W.Frag} {mg : Str → Option Value} {base : Heap} {a : Ad}
def spFit : Sp := fun vs H Q _ => ∃ (p c d : Addr) (n k : Nat), vs = [.ref p, .ref d, .int n, .int k] ∧ HandAt H p c ∧ CntAt H d n ∧ d ≠ p ∧ 1 ≤ n ∧ (n : Int) ≤ 10 ^ 30 ∧ k ≤ Mv n ∧ ∀ H', Fr p H H' → HandAt H' p c → Q (.bl true) H'
theorem sorted_nat {ns : List Int} {l : List Nat} (h1 : ns.Perm (l.map fun z : Nat => (z : Int))) (h2 : ns.Pairwise (· ≤ ·)) (nd : l.Nodup) : ∃ L : List Nat, ns.map V.int = vN L ∧ L.Perm l ∧ L.Pairwise (· < ·) := by
  have e3 : ns = (ns.map Int.toNat).map fun z : Nat => (z : Int) := by
    rw [List.map_map]
    conv => lhs; rw [← List.map_id ns]
    refine List.map_congr_left fun x hx => ?_
    have := h1.mem_iff.mp hx
    obtain ⟨z, _, rfl⟩ := List.mem_map.mp this
    rfl
  have hp : (ns.map Int.toNat).Perm l := by
    have := h1.map Int.toNat
    rw [List.map_map] at this
    have e4 : l.map (Int.toNat ∘ fun z : Nat => (z : Int)) = l := by
      conv => rhs; rw [← List.map_id l]
      refine List.map_congr_left fun x hx => rfl
    rw [e4] at this
    exact this
  refine ⟨ns.map Int.toNat, ?_, hp, ?_⟩
  · unfold vN
    conv => lhs; rw [e3, List.map_map]
    rfl
  · have hq : (ns.map Int.toNat).Pairwise (· ≤ ·) := by
      rw [List.pairwise_map]
      exact h2.imp fun h => by omega
    have hn : (ns.map Int.toNat).Nodup := hp.nodup_iff.mpr nd
    exact (hq.and hn).imp fun h => by have := h.1; have := h.2; omega
def midFit (p c d q n k : Nat) (H : Hp) : L2.St → Hp → Prop := fun σ H' => ∃ (v5 v6 v7 v10 : Option V), σ = [some (.ref p), some (.ref d), some (.int n), some (.int k), some (.ref q), v5, v6, v7, none, none, v10] ∧ Fr p H H' ∧ HandAt H' p c ∧ H' q = some (.tup (vN (St 0 n k))) ∧ CntAt H' d n
theorem ok_law_moves_fit (T : Txt K mg a) (TE : Txe K a) : FnOk P w K mg base (L2.CX P w) 114 a.f_law_moves_fit a.d_law_moves_fit ["_law_hand_here", "_law_counts", "_law_length_here", "_law_number"] spFit := by
  refine T.F_law_moves_fit.okX sc_law_moves_fit (fun vs H Q E h => ?_) (fun cdv A outer s H vs Q E hr h => ?_)
  · obtain ⟨_, _, _, _, _, rfl, _⟩ := h
    rfl
  · obtain ⟨p, c, d, n, k, rfl, hh, hd, ndp, n1, n2, hk, z⟩ := h
    have n3 := p30n n2
    obtain ⟨lb, lc⟩ := le_bits n1 n3
    have ok_law_chain_at := fun (_ : Txt K mg a) => ok_at (P := P) (w := w) (base := base) T (PySem.Builtin.Int.intBits ((n : Int) - 1))
    have ok_law_chain_met := fun (_ : Txt K mg a) => ok_met (P := P) (w := w) (base := base) T 100
    have ok_law_met := fun (T : Txt K mg a) => ok_law_met (P := P) (w := w) (base := base) T TE
    refine ⟨_, (pss_cons (ps_set (i := 4) sc_law_moves_fit.nd rfl (by first | exact Or.inl rfl | exact Or.inr rfl) (pe_call (ok_chain_standing T) (hr.mono (by omega)) rfl T.m_chain_standing T.F_chain_standing.kp T.b_chain_standing .nil (passes_call (takes_of rfl rfl rfl rfl) (fun _ _ _ _ q => q)) (pa_cons (pv 2) (pa_cons (pv 3) pa_nil))))
  (pss_cons (ps_if (PW.pt (pw_or (pt_not (pt_val (pe_call (ok_law_places T) (hr.mono (by omega)) rfl T.m_law_places T.F_law_places.kp T.b_law_places .nil pass0 (pa_cons (pv 4) pa_nil)))) (pw_or1 (pt_cmpR (op_neD hr.units) (pe_callTy call_list_of (by rfl) T.z_list (by decide +kernel) (pa_cons (pv 4) pa_nil)) (pe_call (ok_law_chain_at T) (hr.mono (by omega)) rfl T.m_law_chain_at T.F_law_chain_at.kp T.b_law_chain_at .nil pass0 (pa_cons (pv 1) (pa_cons pe_int (pa_cons (pv 2) (pa_cons (pv 3) pa_nil))))) (nomark _))))) (pss_one (ps_ret pe_bl))
    pss_nil)
  (pss_cons (ps_if (PW.pt (pw_or (pt_cmpR op_gt (pe_callB call_len_seq (by rfl) T.z_len (by decide +kernel) (pa_cons (pv 4) pa_nil)) (pe_call (ok_chain_price T) (hr.mono (by omega)) rfl T.m_chain_price T.F_chain_price.kp T.b_chain_price .nil (passes_call (takes_of rfl rfl rfl rfl) (fun _ _ _ _ q => q)) (pa_cons (pv 2) pa_nil)) (nomark _)) (pw_or1 (pt_cmpR op_ne (pe_call (ok_law_met T) (hr.mono (by omega)) rfl T.m_law_met T.F_law_met.kp T.b_law_met .nil pass0 (pa_cons (pv 2) (pa_cons (pe_call (ok_law_shuffled T) (hr.mono (by omega)) rfl T.m_law_shuffled T.F_law_shuffled.kp T.b_law_shuffled .nil pass0 (pa_cons (pv 0) (pa_cons (pe_callTy call_list_of (by rfl) T.z_list (by decide +kernel) (pa_cons (pv 4) pa_nil)) pa_nil))) pa_nil))) (pv 3) (nomark _))))) (pss_one (ps_ret pe_bl))
    pss_nil)
  (pss_cons (ps_if (pt_cmpR op_ne (pe_call (ok_law_met T) (hr.mono (by omega)) rfl T.m_law_met T.F_law_met.kp T.b_law_met .nil pass0 (pa_cons (pv 2) (pa_cons (pv 4) pa_nil))) (pv 3) (nomark _)) (pss_one (ps_ret pe_bl))
    pss_nil)
  (Evl.pss_cut (ps_if (pt_cmpR op_lt (pv 3) (pe_dget (hu1 hr.units) (pv 1) (pv 2) (fun _ _ => rfl)) (nomark _)) (pss_cons (ps_set (i := 5) sc_law_moves_fit.nd rfl (by first | exact Or.inl rfl | exact Or.inr rfl) (pe_call (ok_chain_move T) (hr.mono (by omega)) rfl T.m_chain_move T.F_chain_move.kp T.b_chain_move .nil (passes_call (takes_of rfl rfl rfl rfl) (fun _ _ _ _ q => q)) (pa_cons (pv 2) (pa_cons (pv 3) pa_nil))))
  (pss_cons (ps_set (i := 6) sc_law_moves_fit.nd rfl (by first | exact Or.inl rfl | exact Or.inr rfl) (pe_call (ok_law_chain_at T) (hr.mono (by omega)) rfl T.m_law_chain_at T.F_law_chain_at.kp T.b_law_chain_at .nil pass0 (pa_cons (pv 1) (pa_cons pe_int (pa_cons (pv 2) (pa_cons (pe_op op_add (pv 3) pe_int) pa_nil))))))
  (pss_cons (ps_set (i := 7) sc_law_moves_fit.nd rfl (by first | exact Or.inl rfl | exact Or.inr rfl) (pe_op op_cat (pe_lc (own := [("_law_other", 10)]) (g := gName 10)  rfl sc_law_moves_fit.nd (pi_list (pv 6)) (blkOk_by (own := [("_law_other", 10)]) (N := ["_law_hand_here", "_law_counts", "_law_length_here", "_law_number", "_law_standing", "_law_place", "_law_after", "_law_changed", "_law_spoilt_here", "_law_due", "_law_other"]) (sc := defScope s_law_moves_fit) (by decide +kernel)) (fun _ _ _ _ _ => pg_name (i := 10) sc_law_moves_fit.nd rfl (Or.inl rfl)) (fun _ _ _ _ _ => (pts_one (pt_cmpR op_notIn_seq_b (pv 10) (pv 4) (by rfl)))) (fun _ _ _ _ _ => (pv 10))) (pe_lc (own := [("_law_other", 10)]) (g := gName 10)  rfl sc_law_moves_fit.nd (pi_tup (pv 4)) (blkOk_by (own := [("_law_other", 10)]) (N := ["_law_hand_here", "_law_counts", "_law_length_here", "_law_number", "_law_standing", "_law_place", "_law_after", "_law_changed", "_law_spoilt_here", "_law_due", "_law_other"]) (sc := defScope s_law_moves_fit) (by decide +kernel)) (fun _ _ _ _ _ => pg_name (i := 10) sc_law_moves_fit.nd rfl (Or.inl rfl)) (fun _ _ _ _ _ => (pts_one (pt_cmpR op_notIn_seq_b (pv 10) (pv 6) (by rfl)))) (fun _ _ _ _ _ => (pv 10)))))
  (pss_one (ps_if (PW.pt (pw_or (pt_not (pt_val (pe_call (ok_law_whole T) (hr.mono (by omega)) rfl T.m_law_whole T.F_law_whole.kp T.b_law_whole .nil pass0 (pa_cons (pv 5) pa_nil)))) (pw_or (pt_cmpR (op_neD hr.units) (pv 7) (pe_lst (pa_cons (pv 5) pa_nil)) (nomark _)) (pw_or1 (PW.pt (pw_and (pt_cmpR op_gt (pv 5) pe_int (nomark _)) (pw_and1 (pt_cmpR op_notIn_seq (pe_op op_sub (pv 5) pe_int) (pv 4) (by rfl))))))))) (pss_one (ps_ret pe_bl))
    pss_nil)))))
    pss_nil)
  (pss_cons (ps_set (i := 8) sc_law_moves_fit.nd rfl (by first | exact Or.inl rfl | exact Or.inr rfl) (pe_call (ok_law_spoilt T) (hr.mono (by omega)) rfl T.m_law_spoilt T.F_law_spoilt.kp T.b_law_spoilt .nil pass0 (pa_cons (pv 0) (pa_cons (pv 2) (pa_cons (pv 4) pa_nil)))))
  (pss_cons (ps_set (i := 9) sc_law_moves_fit.nd rfl (by first | exact Or.inl rfl | exact Or.inr rfl) (pe_call (ok_law_chain_met T) (hr.mono (by omega)) rfl T.m_law_chain_met T.F_law_chain_met.kp T.b_law_chain_met .nil pass0 (pa_cons (pv 1) (pa_cons pe_int (pa_cons (pv 2) (pa_cons (pe_callB cr_sortedI (by rfl) T.z_sorted (by decide +kernel) (pa_cons (pv 8) pa_nil)) pa_nil))))))
  (pss_one (ps_ret (pe_cmpR (op_eqD hr.units) (pe_call (ok_law_met T) (hr.mono (by omega)) rfl T.m_law_met T.F_law_met.kp T.b_law_met .nil pass0 (pa_cons (pv 2) (pa_cons (pv 8) pa_nil))) (pe_ifExp (pt_cmpR op_isN (pv 9) pe_non (nomark _)) (pe_tup (pa_cons pe_str pa_nil)) (pv 9)) (nomark _))))))))))), ?_⟩
    walk_at "sm"
    have lk := St_len _ n 0 k lb
    refine ⟨_, _, rfl, plain_int, plain_int, fun e => ?_, fun n' e _ _ => ⟨fun e2 H' x => ?_, fun k' e2 hk' q H1 x1 hq => ?_⟩⟩
    · rw [wi_of (by omega) n2] at e; cases e
    · have : n' = n := by have := V.int.inj e; omega
      subst this
      rw [wi_of (by omega) (by omega)] at e2; cases e2
    have : n' = n := by have := V.int.inj e; omega
    subst this
    have : k' = k := by have := V.int.inj e2; omega
    subst this
    have hh1 := hh.go x1
    refine ⟨q, _, rfl, hq, by omega, fun H2 x2 => ⟨_, rfl, iteF' (by simp) ⟨q, rfl, _, .inr (SqT.of (x2 _ _ hq)), fun l hl => ?_⟩⟩⟩
    have xl := Evl.Ex.new (o := .lst (vN (St 0 n' k'))) hl
    refine ⟨d, n', 0, n', k', rfl, hd.go ((x1.trans x2).trans xl), Cl_closed n3, Cl_self, n1, lb, lc, hk, fun r H3 x3 hr0 hr _ => ?_⟩
    refine neL (l := St 0 n' k') (m := St 0 n' k') (SqL.of (x3 _ _ upd_same)) (SqL.of hr) ⟨_, rfl, iteF' (by simp) ?_⟩
    have x4 := ((x1.trans x2).trans xl).trans x3
    have hq3 := ((x2.trans xl).trans x3) _ _ hq
    refine ⟨q, rfl, _, .inr (SqT.of hq3), _, rfl, plain_int, fun i e i1 i2 => ⟨_, rfl, ?_⟩, fun e => ?_⟩
    rotate_left
    · rw [wi_of (by omega) n2] at e; cases e
    have ei : i = n' := by have := V.int.inj e; omega
    rw [ei]
    refine iteF' (by rw [List.length_map]; show ¬ (1 + (PySem.Builtin.Int.intBits ((n' : Int) - 1) : Int) < ((St 0 n' k').length : Int)); omega) ⟨q, rfl, _, .inr (SqT.of hq3), fun l2 hl2 => ?_⟩
    have x5 := x4.trans (Evl.Ex.new (o := .lst (vN (St 0 n' k'))) hl2)
    have hS := St_sorted n' 0 k' n1
    have hM : ∀ z ∈ St 0 n' k', z < n' := fun z hz => by have := (St_mem n' 0 k' z n1 hz).2; omega
    have hnd : (St 0 n' k').Nodup := hS.imp fun h => by omega
    have nl2p : l2 ≠ p := (hh.go x4).lt hl2
    refine ⟨p, c, l2, _, rfl, hh.go x5, Ne.symm nl2p, upd_same, by omega, fun r2 ms H5 f5 h5 hr20 hr2 hperm => ?_⟩
    have met : ∀ (s2 : Addr) (ms : List Nat) (HX : Hp) (R : VK), (SqL K HX s2 (vN ms) ∨ SqT K HX s2 (vN ms)) → PlainV HX (.ref s2) → ms.Perm (St 0 n' k') → (∀ HY, Evl.Ex HX HY → R (.int (k' : Int)) HY) → spLm K a [.int n', .ref s2] HX R E0 := by
      intro s2 ms HX R hs hp2 hpm hR
      refine ⟨_, _, rfl, plain_int, fun e => ?_, fun n3' e _ _ => ⟨hp2, fun e => (nomatch e), fun p4 e4 => ⟨ms, [], ?_, ?_, ?_, ?_, .inl ⟨rfl, fun ns HY h1 h2 x6 => ?_⟩⟩⟩⟩
      · rw [wi_of (by omega) n2] at e; cases e
      · cases e4; rw [List.append_nil]; exact hs
      · rw [hpm.length_eq]; omega
      · exact hpm.nodup_iff.mpr hnd
      · have : n3' = n' := by have := V.int.inj e; omega
        subst this
        exact fun z hz => hM z (hpm.mem_iff.mp hz)
      · have : n3' = n' := by have := V.int.inj e; omega
        subst this
        have en : ns = St 0 n3' k' := (List.Perm.eq_of_pairwise (le := (· < ·)) (fun a b _ _ h1 h2 => by omega) h2 hS (h1.trans hpm))
        rw [en, Nm_St n3' 0 k' n1 hk]
        exact hR HY x6
    refine met r2 ms H5 _ (.inl (SqL.of hr2)) (.inr (.inr (.inr (.inr (.inr ⟨_, _, rfl, hr2⟩))))) hperm fun H6 x6 => ⟨rfl, iteF' (by simp) ?_⟩
    have nqp : q ≠ p := by
      rintro rfl
      obtain ⟨cells, i2, g2, t2, hp2, _⟩ := hh1
      rw [hq] at hp2; cases hp2
    have hq5 : H5 q = some (.tup (vN (St 0 n' k'))) := f5 _ _ nqp (Evl.Ex.new hl2 _ _ hq3)
    have hq6 := x6 _ _ hq5
    have d5 : CntAt H5 d n' := (hd.go x5).fr f5 ndp
    have g6 : Fr p H H6 := ((Fr.of x5).trans f5).trans (Fr.of x6)
    refine met q _ H6 _ (.inr (SqT.of hq6)) (.inr (.inr (.inr (.inr (.inl ⟨_, _, rfl, hq6⟩))))) (.refl _) fun H7 x7 => ⟨rfl, iteF' (by simp) ?_⟩
    have d7 := (d5.go x6).go x7
    have hq7 := x7 _ _ hq6
    have h7 := (h5.go x6).go x7
    have g7 := g6.trans (Fr.of x7)
    have eA : ∀ (HX : Hp), (H7 q = some (.tup (vN (St 0 n' k'))) → Evl.Ex H7 HX → SqT K HX q (vN (St 0 n' k'))) := fun HX h x => SqT.of (x _ _ h)
    refine ⟨midFit p c d q n' k' H, ?_, ?_⟩
    · walk_at "sm"
      refine ⟨_, d7.get Cl_self n1, _, rfl, ite2' (fun hlt => ?_) (fun hlt => ⟨_, _, _, _, rfl, g7, h7, hq7, d7⟩)⟩
      have hlt : k' < Mv n' := by omega
      obtain ⟨pt, p1, p2, p3⟩ := Pm_ok n' 0 k' n1 hlt
      refine ⟨_, _, rfl, plain_int, plain_int, fun e => ?_, fun n'' e _ _ => ⟨fun e2 H' x => ?_, fun k'' e2 hk'' H8 x8 => ?_⟩⟩
      · rw [wi_of (by omega) n2] at e; cases e
      · have : n'' = n' := by have := V.int.inj e; omega
        subst this
        rw [wi_of (by omega) (by omega)] at e2; cases e2
      have : n'' = n' := by have := V.int.inj e; omega
      subst this
      have : k'' = k' := by have := V.int.inj e2; omega
      subst this
      refine ⟨d, n'', 0, n'', k'' + 1, rfl, d7.go x8, Cl_closed n3, Cl_self, n1, lb, lc, hlt, fun r H9 x9 hr0 hrB lr => ?_⟩
      have hq9 := (x8.trans x9) _ _ hq7
      generalize eBB : St 0 n'' (k'' + 1) = B at *
      generalize eAA : St 0 n'' k'' = A at *
      refine ⟨r, rfl, ⟨_, SqL.of hrB⟩, lcg_list (xs := vN B) (ivNi B A H9) (fun D hD => ivNi_new hD) (fun D i HD hD hi z => SqL.of (z.2 _ _ hrB)) ?_ ?_⟩
      · rintro D i x0 HD hD hi z
        obtain ⟨y, hy, rfl⟩ := vN_at hi
        walk_at "sm"
        refine ⟨q, _, rfl, .inr (SqT.of (z.2 _ _ hq9)), rfl, flatN A, ?_⟩
        rw [if_pos rfl, inVC]
        refine ⟨_, rfl, ivNi_go hD hy (by omega) z⟩
      rintro D1 H10 hD1 z1
      obtain ⟨u1, x10⟩ := ivNi_end z1
      have hq10 := x10 _ _ hq9
      refine ⟨⟨_, SqT.of hq10⟩, lcg_tup (xs := vN A) (ivNi A B H10) (fun D hD => ivNi_new hD) (fun D i HD hD hi z => SqT.of (z.2 _ _ hq10)) ?_ ?_⟩
      · rintro D i x0 HD hD hi z
        obtain ⟨y, hy, rfl⟩ := vN_at hi
        walk_at "sm"
        refine ⟨r, _, rfl, .inl (SqL.of (z.2 _ _ (x10 _ _ hrB))), rfl, flatN B, ?_⟩
        rw [if_pos rfl, inVC]
        refine ⟨_, rfl, ivNi_go hD hy (by omega) z⟩
      rintro D2 H11 hD2 z2
      obtain ⟨u2, x11⟩ := ivNi_end z2
      have eC : vN (B.filter fun x => !A.contains x) ++ vN (A.filter fun x => !B.contains x) = vN [Pm 0 n'' k''] := by
        have : B.filter (fun x => !A.contains x) ++ A.filter (fun x => !B.contains x) = [Pm 0 n'' k''] := pt
        rw [← this]
        unfold vN
        rw [List.map_append]
      refine ⟨D1, D2, _, _, rfl, rfl, x11 _ _ u1, u2, ?_, fun r3 hr3 => ?_⟩
      · rw [← List.length_append, eC, vN_len]; exact sz (by show 1 ≤ 100000; omega)
      rw [eC]
      refine ⟨_, rfl, plain_int, _, rfl, iteF' (by simp [whB]) ⟨sz (by decide), fun p4 hp4 => ?_⟩⟩
      have x12 := Evl.Ex.new (o := .lst (vN [Pm 0 n'' k''])) hr3
      refine neL (l := [Pm 0 n'' k'']) (m := [Pm 0 n'' k'']) (SqL.of ((Evl.Ex.new hp4) _ _ upd_same)) (SqL.of upd_same) ⟨_, rfl, iteF' (by simp) ⟨_, rfl, ?_⟩⟩
      have xe := (((x8.trans x9).trans (x10.trans x11)).trans x12).trans (Evl.Ex.new (o := .lst [V.int (Pm 0 n'' k'' : Int)]) hp4)
      have fin : ∀ HX, Evl.Ex H7 HX → midFit p c d q n'' k'' H [some (.ref p), some (.ref d), some (.int n''), some (.int k''), some (.ref q), some (.int (Pm 0 n'' k'' : Int)), some (.ref r), some (.ref r3), none, none, none] HX := fun HX x => ⟨_, _, _, _, rfl, g7.trans (Fr.of x), h7.go x, by rw [eAA]; exact x _ _ hq7, d7.go x⟩
      refine ite2' (fun q0 => ⟨_, rfl, ?_⟩) (fun q0 => ?_)
      · rw [show ((Pm 0 n'' k'' : Nat) : Int) - 1 = ((Pm 0 n'' k'' - 1 : Nat) : Int) by omega]
        refine ⟨q, _, rfl, .inr (SqT.of (xe _ _ hq7)), rfl, flatN A, ?_⟩
        rw [if_pos rfl, inVC]
        refine ⟨_, rfl, iteF' ?_ (fin _ xe)⟩
        have : Pm 0 n'' k'' - 1 ∈ A := p3.resolve_left (by omega)
        simp [this]
      · exact fin _ xe
    · rintro σ' HM ⟨v5, v6, v7, v10, rfl, gM, hM2, hqM, dM⟩
      walk_at "sm"
      refine ⟨p, c, q, n', St 0 n' k', rfl, hM2, hqM, nqp, n1, by omega, hnd, hM, fun s l' HN fN hN hs0 hs hnd' hM' hl' => ?_⟩
      have dN := dM.fr fN ndp
      refine ⟨s, l'.map fun z : Nat => (z : Int), rfl, ?_, fun ns t hp hpw ht => ?_⟩
      · rw [List.map_map]; exact SqL.of hs
      obtain ⟨L, eL, pL, sL⟩ := sorted_nat hp hpw hnd'
      have hlen : (St 0 n' k').length ≤ 1000 := by omega
      have xt := Evl.Ex.new (o := .lst (ns.map V.int)) ht
      have okL : Ok 0 n' L := ⟨sL, fun x hx => ⟨Nat.zero_le _, by have := hM' x (pL.mem_iff.mp hx); omega⟩⟩
      refine ⟨d, t, n', 0, n', L, rfl, dN.go xt, Cl_closed n3, Cl_self, n1, by omega, Nat.le_refl _, by rw [upd_same, eL], by rw [pL.length_eq]; omega, okL, fun H2 x2 => ?_⟩
      have hs2 := (xt.trans x2) _ _ hs
      have fin : ∀ HX, Evl.Ex HN HX → Q (.bl true) HX := fun HX x => z HX ((gM.trans fN).trans (Fr.of x)) (hN.go x)
      refine ⟨_, _, rfl, plain_int, fun e => ?_, fun n3' e _ _ => ⟨.inr (.inr (.inr (.inr (.inr ⟨_, _, rfl, hs2⟩)))), fun e => (nomatch e), fun p4 e4 => ⟨l', [], ?_, by omega, hnd', ?_, .inl ⟨rfl, fun ns2 HY h1 h2 x6 => ?_⟩⟩⟩⟩
      · rw [wi_of (by omega) n2] at e; cases e
      · cases e4; rw [List.append_nil]; exact .inl (SqL.of hs2)
      · have : n3' = n' := by have := V.int.inj e; omega
        subst this
        exact hM'
      have : n3' = n' := by have := V.int.inj e; omega
      subst this
      have en : ns2 = L := (List.Perm.eq_of_pairwise (le := (· < ·)) (fun a b _ _ h1 h2 => by omega) h2 sL (h1.trans pL.symm))
      rw [en]
      have xY := (xt.trans x2).trans x6
      cases eN : Nm 0 n3' L with
      | some v =>
        refine iteF' (by intro q; cases q) ?_
        exact ⟨_, _, .int _, .int _, rfl, rfl, by rw [SeqAt.eqv_refl _ rfl]; exact fin _ xY⟩
      | none =>
        intro o HZ xZ ho
        refine iteT' rfl ⟨sz (by decide), fun o2 ho2 => ?_⟩
        have xo := Evl.Ex.new (o := .tup [V.str "NeverStands"]) ho2
        refine eq_same (d := .tuple [.str "NeverStands"]) (.tup (SqT.of (xo _ _ ho)) (.cons (.str _) .nil)) (.tup (SqT.of upd_same) (.cons (.str _) .nil)) (by decide +kernel) (fin _ ((xY.trans xZ).trans xo))
end


theorem bits_least {n k : Nat} (h1 : 1 ≤ n) (h : k < PySem.Builtin.Int.intBits ((n : Int) - 1)) : 2 ^ k < n := by
  have e : ((n : Int) - 1).natAbs = n - 1 := by omega
  unfold PySem.Builtin.Int.intBits at h
  rw [e] at h
  by_cases q : n = 1
  · rw [q] at h; simp at h
  · have q2 : ((n : Int) - 1 == 0) = false := by
      rw [beq_eq_false_iff_ne]; omega
    rw [q2, if_neg (by decide)] at h
    have a := Nat.log2_self_le (n := n - 1) (by omega)
    have b : 2 ^ k ≤ 2 ^ (n - 1).log2 := Nat.pow_le_pow_right (by decide) (by omega)
    omega
theorem bits_is {n k : Nat} (h1 : 1 ≤ n) (h2 : n < 2 ^ 100) (h3 : n ≤ 2 ^ k) (h4 : ∀ j, j < k → 2 ^ j < n) : k = PySem.Builtin.Int.intBits ((n : Int) - 1) := by
  obtain ⟨a, b⟩ := le_bits h1 h2
  rcases Nat.lt_trichotomy k (PySem.Builtin.Int.intBits ((n : Int) - 1)) with h | h | h
  · have := bits_least h1 h; omega
  · exact h
  · have := h4 _ h; omega
theorem layT (l : List Nat) : SeqAt.shaped (.tuple (l.map fun z : Nat => PyData.int (z : Int))) = true := shaped_of (lay_tup (n := 1) fun d hd => by
  obtain ⟨z, _, rfl⟩ := List.mem_map.mp hd
  exact ⟨rfl, by show 0 ≤ 1; omega⟩) (by decide)
theorem neT {K : PySem.W.Frag} {H : Hp} {p q : Addr} {l : List Nat} {Q : VK} (hp : H p = some (.tup (vN l))) (hq : H q = some (.tup (vN l))) (k : Q (.bl false) H) : rNeD K (.ref p) (.ref q) H Q := ne_same (.tup (SqT.of hp) (dpN l)) (.tup (SqT.of hq) (dpN l)) (layT l) k
structure LS (H : Hp) (p c d : Addr) (n : Nat) : Prop where
  hh : HandAt H p c
  cn : CntAt H d n
  nd : d ≠ p
  n1 : 1 ≤ n
  n2 : (n : Int) ≤ 10 ^ 30
theorem LS.go {H H' : Hp} {p c d : Addr} {n : Nat} (h : LS H p c d n) (e : Evl.Ex H H') : LS H' p c d n := { h with hh := h.hh.go e, cn := h.cn.go e }
theorem LS.fr {H H' : Hp} {p c d : Addr} {n : Nat} (h : LS H p c d n) (f : Fr p H H') (hh : HandAt H' p c) : LS H' p c d n := { h with hh := hh, cn := h.cn.fr f h.nd }
def mA (sa : V) : L2.St → Hp → Prop := fun σ H => ∃ (p c d : Addr) (n e : Nat) (v5 : Option V), σ = [some sa, some (.ref p), some (.int n), some (.ref d), some (.int e), v5, none, none, none, none, none, none, none] ∧ LS H p c d n ∧ e = PySem.Builtin.Int.intBits ((n : Int) - 1)
def mB (sa : V) : L2.St → Hp → Prop := fun σ H => ∃ (p c d : Addr) (n : Nat) (v4 v5 v6 v7 : Option V), σ = [some sa, some (.ref p), some (.int n), some (.ref d), v4, v5, v6, v7, none, none, none, none, none] ∧ LS H p c d n
def mC (sa : V) : L2.St → Hp → Prop := fun σ H => ∃ (p c d : Addr) (n : Nat) (v4 v5 v6 v7 v8 : Option V), σ = [some sa, some (.ref p), some (.int n), some (.ref d), v4, v5, v6, v7, v8, none, none, none, none] ∧ LS H p c d n
def mD (sa : V) : L2.St → Hp → Prop := fun σ H => ∃ (p c d : Addr) (n : Nat) (v4 v5 v6 v7 v8 v9 : Option V), σ = [some sa, some (.ref p), some (.int n), some (.ref d), v4, v5, v6, v7, v8, v9, none, none, none] ∧ LS H p c d n
def mE (sa : V) : L2.St → Hp → Prop := fun σ H => ∃ (p c d l : Addr) (n j : Nat) (v4 v5 v6 v7 v8 v9 : Option V) (v : V) (S : List Nat), σ = [some sa, some (.ref p), some (.int n), some (.ref d), v4, v5, v6, v7, v8, v9, some (.ref l), some (.int j), some v] ∧ LS H p c d n ∧
  H l = some (.lst (vN S)) ∧ l ≠ p ∧ l ≠ c ∧ l ≠ d ∧ S.length ≤ 101 ∧ S.Nodup ∧ (∀ z ∈ S, z < n) ∧ j ≤ S.length ∧ (v = .int (-1) ∨ ∃ z ∈ S.take j, v = .int (z : Int))
def ivP (sa : V) (p c d : Addr) (n : Nat) : Nat → L2.St → Hp → Prop := fun i σ H => ∃ v5 : Option V, σ = [some sa, some (.ref p), some (.int n), some (.ref d), some (.int 0), v5, none, none, none, none, none, none, none] ∧ LS H p c d n ∧ ∀ j, j < i → 2 ^ j < n
def ivT (sa : V) : Nat → L2.St → Hp → Prop := fun _ => mB sa
section
variable {P : Program} {w : World} {K : PySem.W.Frag} {mg : Str → Option Value} {base : Heap} {a : Ad}
def spLaw (K : PySem.W.Frag) : Sp := fun vs H Q _ => ∃ (s : Addr) (ns : List Int), vs = [.ref s] ∧ SqL K H s (ns.map V.int) ∧ ns.length ≤ 63 ∧ ∀ H', Q (.bl true) H'
theorem ok_law (T : Txt K mg a) (TE : Txe K a) : FnOk P w K mg base (L2.CX P w) 120 a.f_law a.d_law ["_law_script"] (spLaw K) := by
  have ok_law_moves_fit := fun T : Txt K mg a => ok_law_moves_fit (P := P) (w := w) (base := base) T TE
  have ok_law_refused := fun T : Txt K mg a => ok_law_refused (P := P) (w := w) (base := base) T TE
  have ok_law_met := fun T : Txt K mg a => ok_law_met (P := P) (w := w) (base := base) T TE
  have ok_law_chain_at := fun (T : Txt K mg a) => ok_at (P := P) (w := w) (base := base) T 100
  refine T.F_law.okX sc_law (fun vs H Q E h => ?_) (fun cdv A outer s H vs Q E hr h => ?_)
  · obtain ⟨_, _, rfl, _⟩ := h
    rfl
  · obtain ⟨sa, ns, rfl, hS, hl, k⟩ := h
    refine ⟨_, (pss_cons (ps_set (i := 1) sc_law.nd rfl (by first | exact Or.inl rfl | exact Or.inr rfl) (pe_call (ok_law_hand T) (hr.mono (by omega)) rfl T.m_law_hand T.F_law_hand.kp T.b_law_hand .nil pass0 (pa_cons (pv 0) pa_nil)))
  (pss_cons (ps_set (i := 2) sc_law.nd rfl (by first | exact Or.inl rfl | exact Or.inr rfl) (pe_call (ok_law_length T) (hr.mono (by omega)) rfl T.m_law_length T.F_law_length.kp T.b_law_length .nil pass0 (pa_cons (pv 1) pa_nil)))
  (pss_cons (ps_set (i := 3) sc_law.nd rfl (by first | exact Or.inl rfl | exact Or.inr rfl) (pe_call (ok_law_chain_counts T) (hr.mono (by omega)) rfl T.m_law_chain_counts T.F_law_chain_counts.kp T.b_law_chain_counts .nil pass0 (pa_cons (pv 2) pa_nil)))
  (pss_cons (ps_set (i := 4) sc_law.nd rfl (by first | exact Or.inl rfl | exact Or.inr rfl) pe_int)
  (Evl.pss_cut (ps_for (passes_of rfl) rfl (pi_range1 (by rfl) T.z_range (pa_cons pe_int pa_nil)) (pg_name (i := 5) sc_law.nd rfl (by first | exact Or.inl rfl | exact Or.inr rfl)) (pss_one (ps_if (pt_cmpR op_ge (pe_call (ok_law_two T) (hr.mono (by omega)) rfl T.m_law_two T.F_law_two.kp T.b_law_two .nil pass0 (pa_cons (pv 5) pa_nil)) (pv 2) (nomark _)) (pss_cons (ps_set (i := 4) sc_law.nd rfl (by first | exact Or.inl rfl | exact Or.inr rfl) (pv 5))
  (pss_one ps_break))
    pss_nil)))
  (pss_cons (ps_if (PW.pt (pw_or (pt_cmpR op_ne (pe_call (ok_chain_price T) (hr.mono (by omega)) rfl T.m_chain_price T.F_chain_price.kp T.b_chain_price .nil (passes_call (takes_of rfl rfl rfl rfl) (fun _ _ _ _ q => q)) (pa_cons (pv 2) pa_nil)) (pe_op op_add (pv 4) pe_int) (nomark _)) (pw_or1 (pt_cmpR op_ne (pe_call (ok_chain_moves T) (hr.mono (by omega)) rfl T.m_chain_moves T.F_chain_moves.kp T.b_chain_moves .nil (passes_call (takes_of rfl rfl rfl rfl) (fun _ _ _ _ q => q)) (pa_cons (pv 2) pa_nil)) (pe_dget (hu1 hr.units) (pv 3) (pv 2) (fun _ _ => rfl)) (nomark _))))) (pss_one (ps_ret pe_bl))
    pss_nil)
  (pss_cons (ps_set (i := 6) sc_law.nd rfl (by first | exact Or.inl rfl | exact Or.inr rfl) (pe_op op_add pe_int (pe_call (ok_law_take T) (hr.mono (by omega)) rfl T.m_law_take T.F_law_take.kp T.b_law_take .nil pass0 (pa_cons (pv 1) (pa_cons pe_int pa_nil)))))
  (pss_cons (ps_if (pt_cmpR op_ne (pe_call (ok_longest_chain T) (hr.mono (by omega)) rfl T.m_longest_chain T.F_longest_chain.kp T.b_longest_chain .nil (passes_call (takes_of rfl rfl rfl rfl) (fun _ _ _ _ q => q)) (pa_cons (pv 6) pa_nil)) (pe_call (ok_law_two T) (hr.mono (by omega)) rfl T.m_law_two T.F_law_two.kp T.b_law_two .nil pass0 (pa_cons (pe_op op_sub (pv 6) pe_int) pa_nil)) (nomark _)) (pss_one (ps_ret pe_bl))
    pss_nil)
  (pss_cons (ps_if (PW.pt (pw_or (pt_cmpR (op_neD hr.units) (pe_call (ok_chain_standing T) (hr.mono (by omega)) rfl T.m_chain_standing T.F_chain_standing.kp T.b_chain_standing .nil (passes_call (takes_of rfl rfl rfl rfl) (fun _ _ _ _ q => q)) (pa_cons (pv 2) (pa_cons pe_int pa_nil))) (pe_tup pa_nil) (nomark _)) (pw_or1 (pt_cmpR (op_neD hr.units) (pe_call (ok_chain_standing T) (hr.mono (by omega)) rfl T.m_chain_standing T.F_chain_standing.kp T.b_chain_standing .nil (passes_call (takes_of rfl rfl rfl rfl) (fun _ _ _ _ q => q)) (pa_cons (pv 2) (pa_cons (pe_dget (hu1 hr.units) (pv 3) (pv 2) (fun _ _ => rfl)) pa_nil))) (pe_tup (pa_cons (pe_op op_sub (pv 2) pe_int) pa_nil)) (nomark _))))) (pss_one (ps_ret pe_bl))
    pss_nil)
  (Evl.pss_cut (ps_for (passes_of rfl) rfl (pi_range1 (by rfl) T.z_range (pa_cons pe_int pa_nil)) (pg_name (i := 7) sc_law.nd rfl (by first | exact Or.inl rfl | exact Or.inr rfl)) (pss_one (ps_if (pt_not (pt_val (pe_call (ok_law_moves_fit T) (hr.mono (by omega)) rfl T.m_law_moves_fit T.F_law_moves_fit.kp T.b_law_moves_fit .nil (passes_call (takes_of rfl rfl rfl rfl) (fun _ _ _ _ q => q)) (pa_cons (pv 1) (pa_cons (pv 3) (pa_cons (pv 2) (pa_cons (pe_call (ok_law_drawn_number T) (hr.mono (by omega)) rfl T.m_law_drawn_number T.F_law_drawn_number.kp T.b_law_drawn_number .nil pass0 (pa_cons (pv 1) (pa_cons (pv 3) (pa_cons (pv 2) pa_nil)))) pa_nil))))))) (pss_one (ps_ret pe_bl))
    pss_nil)))
  (pss_cons (ps_set (i := 8) sc_law.nd rfl (by first | exact Or.inl rfl | exact Or.inr rfl) (pe_ix ix_list (pe_lst (pa_cons pe_int (pa_cons (pe_op op_add (pe_op op_pow pe_int pe_int) pe_int) (pa_cons pe_bl (pa_cons pe_non (pa_cons pe_str (pa_cons (pe_un un_neg pe_int) pa_nil))))))) (pe_call (ok_law_take T) (hr.mono (by omega)) rfl T.m_law_take T.F_law_take.kp T.b_law_take .nil pass0 (pa_cons (pv 1) (pa_cons pe_int pa_nil))) (fun _ _ => rfl)))
  (Evl.pss_cut (ps_if (PW.pt (pw_or (pt_cmpR op_ne (pe_call (ok_law_refused T) (hr.mono (by omega)) rfl T.m_law_refused T.F_law_refused.kp T.b_law_refused .nil pass0 (pa_cons (pe_call (ok_law_take T) (hr.mono (by omega)) rfl T.m_law_take T.F_law_take.kp T.b_law_take .nil pass0 (pa_cons (pv 1) (pa_cons pe_int pa_nil))) (pa_cons (pv 8) (pa_cons pe_non pa_nil)))) pe_str (nomark _)) (pw_or1 (pt_cmpR (op_neD hr.units) (pe_call (ok_law_met T) (hr.mono (by omega)) rfl T.m_law_met T.F_law_met.kp T.b_law_met .nil pass0 (pa_cons (pv 8) (pa_cons pe_non pa_nil))) (pe_tup (pa_cons pe_str pa_nil)) (nomark _))))) (pss_one (ps_ret pe_bl))
    pss_nil)
  (Evl.pss_cut (ps_if (pt_cmpR op_ne (pe_call (ok_law_refused T) (hr.mono (by omega)) rfl T.m_law_refused T.F_law_refused.kp T.b_law_refused .nil pass0 (pa_cons pe_int (pa_cons (pe_ix ix_list (pe_lst (pa_cons pe_int (pa_cons pe_int (pa_cons pe_bl (pa_cons pe_non pa_nil))))) (pe_call (ok_law_take T) (hr.mono (by omega)) rfl T.m_law_take T.F_law_take.kp T.b_law_take .nil pass0 (pa_cons (pv 1) (pa_cons pe_int pa_nil))) (fun _ _ => rfl)) (pa_cons pe_int pa_nil)))) pe_str (nomark _)) (pss_one (ps_ret pe_bl))
    pss_nil)
  (pss_cons (ps_set (i := 9) sc_law.nd rfl (by first | exact Or.inl rfl | exact Or.inr rfl) (pe_ix ix_list (pe_lst (pa_cons (pe_un un_neg pe_int) (pa_cons (pe_op op_add (pe_dget (hu1 hr.units) (pv 3) (pv 2) (fun _ _ => rfl)) pe_int) (pa_cons pe_bl (pa_cons pe_str (pa_cons pe_non pa_nil)))))) (pe_call (ok_law_take T) (hr.mono (by omega)) rfl T.m_law_take T.F_law_take.kp T.b_law_take .nil pass0 (pa_cons (pv 1) (pa_cons pe_int pa_nil))) (fun _ _ => rfl)))
  (Evl.pss_cut (ps_if (PW.pt (pw_or (pt_cmpR op_ne (pe_call (ok_law_refused T) (hr.mono (by omega)) rfl T.m_law_refused T.F_law_refused.kp T.b_law_refused .nil pass0 (pa_cons pe_int (pa_cons (pv 2) (pa_cons (pe_dget (hu1 hr.units) (pv 3) (pv 2) (fun _ _ => rfl)) pa_nil)))) pe_str (nomark _)) (pw_or1 (pt_cmpR op_ne (pe_call (ok_law_refused T) (hr.mono (by omega)) rfl T.m_law_refused T.F_law_refused.kp T.b_law_refused .nil pass0 (pa_cons (pe_op op_add pe_int (pe_call (ok_law_take T) (hr.mono (by omega)) rfl T.m_law_take T.F_law_take.kp T.b_law_take .nil pass0 (pa_cons (pv 1) (pa_cons pe_int pa_nil)))) (pa_cons (pv 2) (pa_cons (pv 9) pa_nil)))) pe_str (nomark _))))) (pss_one (ps_ret pe_bl))
    pss_nil)
  (pss_cons (ps_set (i := 10) sc_law.nd rfl (by first | exact Or.inl rfl | exact Or.inr rfl) (pe_callTy call_list_of (by rfl) T.z_list (by decide +kernel) (pa_cons (pe_call (ok_law_chain_at T) (hr.mono (by omega)) rfl T.m_law_chain_at T.F_law_chain_at.kp T.b_law_chain_at .nil pass0 (pa_cons (pv 3) (pa_cons pe_int (pa_cons (pv 2) (pa_cons (pe_call (ok_law_great T) (hr.mono (by omega)) rfl T.m_law_great T.F_law_great.kp T.b_law_great .nil pass0 (pa_cons (pv 1) (pa_cons (pe_op op_add (pe_dget (hu1 hr.units) (pv 3) (pv 2) (fun _ _ => rfl)) pe_int) pa_nil))) pa_nil))))) pa_nil)))
  (pss_cons (ps_set (i := 11) sc_law.nd rfl (by first | exact Or.inl rfl | exact Or.inr rfl) (pe_call (ok_law_take T) (hr.mono (by omega)) rfl T.m_law_take T.F_law_take.kp T.b_law_take .nil pass0 (pa_cons (pv 1) (pa_cons (pe_op op_add (pe_callB call_len_seq (by rfl) T.z_len (by decide +kernel) (pa_cons (pv 10) pa_nil)) pe_int) pa_nil))))
  (Evl.pss_cut (ps_set (i := 12) sc_law.nd rfl (by first | exact Or.inl rfl | exact Or.inr rfl) (pe_ifExp (pt_cmpR op_gt (pv 11) pe_int (nomark _)) (pe_ix ix_list (pv 10) pe_int (fun _ _ => rfl)) (pe_un un_neg pe_int)))
  (pss_cons (ps_expr (pe_bm PySem.F.plainAttrs_list PySem.F.slot_list_insert PySem.F.type_list_insert mt_insert (pv 10) (pa_cons (pv 11) (pa_cons (pe_ix ix_list (pe_lst (pa_cons (pv 2) (pa_cons (pe_un un_neg pe_int) (pa_cons pe_bl (pa_cons pe_non (pa_cons (pv 12) pa_nil)))))) (pe_call (ok_law_take T) (hr.mono (by omega)) rfl T.m_law_take T.F_law_take.kp T.b_law_take .nil pass0 (pa_cons (pv 1) (pa_cons pe_int pa_nil))) (fun _ _ => rfl)) pa_nil))))
  (pss_one (ps_ret (pe_and (pe_cmpR (op_eqD hr.units) (pe_call (ok_law_met T) (hr.mono (by omega)) rfl T.m_law_met T.F_law_met.kp T.b_law_met .nil pass0 (pa_cons (pv 2) (pa_cons (pv 10) pa_nil))) (pe_tup (pa_cons pe_str (pa_cons (pv 11) pa_nil))) (nomark _)) (pe_one (pe_cmpR (op_eqD hr.units) (pe_call (ok_law_met T) (hr.mono (by omega)) rfl T.m_law_met T.F_law_met.kp T.b_law_met .nil pass0 (pa_cons (pv 2) (pa_cons pe_non pa_nil))) (pe_tup (pa_cons pe_str (pa_cons (pe_un un_neg pe_int) pa_nil))) (nomark _))))))))))))))))))))))))), ?_⟩
    walk_at "sm"
    refine ⟨sa, ns, rfl, hS, hl, fun p c H1 hp0 e1 hh1 => ?_⟩
    walk_at "sm"
    refine ⟨p, c, rfl, hh1, fun n H2 n1 n2 f2 hh2 => ?_⟩
    walk_at "sm"
    refine ⟨n, rfl, n1, p30n n2, fun d H3 x3 hd0 hd => ?_⟩
    walk_at "sm"
    have ls : LS H3 p c d n := ⟨hh2.go x3, hd, hh2.lt hd0, n1, n2⟩
    have n3 := p30n n2
    obtain ⟨lb, lc⟩ := le_bits n1 n3
    refine ⟨mA (.ref sa), ?_, ?_⟩
    · refine ⟨101, rfl, by omega, by omega, ?_⟩
      refine for_range (D := { nx := mA (.ref sa), rt := Q }) (lo := 0) (n := (101 : Int).toNat) (ivP (.ref sa) p c d n) ⟨none, rfl, ls, fun j hj => absurd hj (Nat.not_lt_zero _)⟩ ?_ ?_
      · rintro i σ H' hi ⟨v, rfl, l1, l2⟩
        walk_at "sm"
        have hi : i < 101 := hi
        refine ⟨i, by congr 1; congr 1; omega, by omega, ⟨_, rfl, ite2' (fun e => ?_) (fun e => ?_)⟩⟩
        · have e : (n : Int) ≤ ((2 ^ i : Nat) : Int) := by
            have : ((2 ^ i : Nat) : Int) = 2 ^ i := by simp
            omega
          exact ⟨p, c, d, n, i, _, by rw [Int.zero_add], l1, bits_is n1 n3 (by omega) l2⟩
        · have e : ((2 ^ i : Nat) : Int) < (n : Int) := by
            have : ((2 ^ i : Nat) : Int) = 2 ^ i := by simp
            omega
          exact ⟨_, rfl, l1, fun j hj => by
            rcases Nat.lt_or_eq_of_le (Nat.le_of_lt_succ hj) with q | q
            · exact l2 j q
            · rw [q]; omega⟩
      · rintro σ' H' ⟨v, rfl, l1, l2⟩
        have := l2 _ (show PySem.Builtin.Int.intBits ((n : Int) - 1) < (101 : Int).toNat by show _ < 101; omega)
        omega
    · clear hd hd0 x3 hh2 f2 n1 n2 hh1 e1 hp0 ls n3 lb lc
      rintro σ' H' ⟨p, c, d, n, e, v5, rfl, ls, he⟩
      have n1 := ls.n1
      have n2 := ls.n2
      have n3 := p30n n2
      have wn : wiB (V.int (n : Int)) 1 (10 ^ 30) = true := wi_of (by omega) n2
      walk_at "sm"
      refine ⟨_, rfl, plain_int, fun i hi i1 i2 => ⟨rfl, ?_⟩, fun e => by rw [wn] at e; cases e⟩
      have : i = n := (V.int.inj hi).symm
      subst this
      refine iteF' (by rw [he]; simp; omega) ⟨_, rfl, plain_int, fun n'' e _ _ H4 x4 => ?_, fun e => by rw [wn] at e; cases e⟩
      have : n'' = n := by have := V.int.inj e; omega
      subst this
      have ls4 := ls.go x4
      refine ⟨_, ls4.cn.get Cl_self n1, rfl, iteF' (by simp) (tk ls4.hh (by decide) (by decide) fun r H5 r0 r1 f5 hh5 => ?_)⟩
      have ls5 := ls4.fr f5 hh5
      refine ⟨_, rfl, _, rfl, plain_int, fun i hi i1 i2 => ?_, fun e => ?_⟩
      rotate_left
      · rw [wi_of (by omega) (by omega)] at e; cases e
      have : i = 1 + r := (V.int.inj hi).symm
      subst this
      refine ⟨r.toNat, by congr 1; congr 1; omega, by omega, ⟨rfl, iteF' (by show ¬ (!decide (V.int (2 ^ (1 + r - 1).toNat) = V.int (2 ^ r.toNat))) = true; rw [show (1 + r - 1).toNat = r.toNat by congr 1; omega]; simp) ?_⟩⟩
      have stand : ∀ (k : Nat) (HX : Hp) (R : VK) (EE : XK), k ≤ Mv n'' → (∀ p H', Evl.Ex HX H' → H' p = some (.tup (vN (St 0 n'' k))) → R (.ref p) H') → spStand a [.int (n'' : Int), .int (k : Int)] HX R EE := by
        intro k HX R EE hk hR
        refine ⟨_, _, rfl, plain_int, plain_int, fun e => (by rw [wn] at e; cases e), fun n' e _ _ => ⟨fun e2 H' x => ?_, fun k' e2 hk' q H1 x1 hq => ?_⟩⟩
        · have : n' = n'' := by have := V.int.inj e; omega
          subst this
          rw [wi_of (by omega) (by omega)] at e2; cases e2
        · have : n' = n'' := by have := V.int.inj e; omega
          subst this
          have : k' = k := by have := V.int.inj e2; omega
          subst this
          exact hR q H1 x1 hq
      refine stand 0 _ _ _ (Nat.zero_le _) fun q6 H6 x6 hq6 => ?_
      rw [St_zero] at hq6
      refine ⟨sz (by decide), fun q7 hq7 => neT (l := []) ((Evl.Ex.new hq7) _ _ hq6) upd_same ⟨_, rfl, iteF' (by simp) ?_⟩⟩
      have x7 := x6.trans (Evl.Ex.new (o := .tup []) hq7)
      have ls7 := ls5.go x7
      refine ⟨_, ls7.cn.get Cl_self n1, stand (Mv n'') _ _ _ (Nat.le_refl _) fun q8 H8 x8 hq8 => ?_⟩
      rw [St_full _ _ n1] at hq8
      refine ⟨sz (by decide), fun q9 hq9 => neT (l := [0 + n'' - 1]) ((Evl.Ex.new hq9) _ _ hq8) (by rw [upd_same, show ((n'' : Int) - 1) = ((0 + n'' - 1 : Nat) : Int) by omega]; rfl) ⟨_, rfl, iteF' (by simp) ?_⟩⟩
      have ls9 := (ls7.go x8).go (Evl.Ex.new (o := .tup [V.int ((n'' : Int) - 1)]) hq9)
      generalize upd H8 q9 _ = H9 at *
      refine ⟨mB (.ref sa), ?_, ?_⟩
      · walk_at "sm"
        refine ⟨3, rfl, by omega, by omega, ?_⟩
        refine for_range (D := { nx := mB (.ref sa), rt := Q }) (lo := 0) (n := (3 : Int).toNat) (ivT (.ref sa)) ⟨p, c, d, n'', _, _, _, _, rfl, ls9⟩ ?_ ?_
        · rintro i σ H' hi ⟨p, c, d, n, v4, v5, v6, v7, rfl, ls⟩
          walk_at "sm"
          have n1 := ls.n1
          have n2 := ls.n2
          refine ⟨p, c, d, n, rfl, ls.hh, ls.cn, ls.nd, n1, p30n n2, fun m H2 hm f2 hh2 => ?_⟩
          have l2 := ls.fr f2 hh2
          exact ⟨p, c, d, n, m, rfl, hh2, l2.cn, ls.nd, n1, n2, hm, fun H3 f3 hh3 => ⟨_, rfl, iteF' (by simp) ⟨p, c, d, n, _, _, _, _, rfl, l2.fr f3 hh3⟩⟩⟩
        · rintro σ' H' h
          exact h
      clear ls9 ls7 ls5 ls4 ls x7 x4 x8 x6 hq8 hq9 hq6 hq7 stand hh5 f5 H1 r0 r1 he wn n1 n2 n3
      rintro σ' H' ⟨p, c, d, n, v4, v5, v6, v7, rfl, ls⟩
      have n1 := ls.n1
      have n2 := ls.n2
      walk_at "sm"
      refine ⟨by unfold CPow; decide, sz (by decide), fun lo hlo => ?_⟩
      have nlp := ls.hh.lt hlo
      have ex := Evl.Ex.new (o := .lst [V.int 0, V.int (10 ^ Int.toNat 30 + 1), V.bl true, V.non, V.str (Str.ofString "3"), V.int (-1)]) hlo
      refine tk (ls.hh.go ex) (by decide) (by decide) fun r H2 r0 r1 f2 hh2 => ?_
      have l2 := (ls.go ex).fr f2 hh2
      have y2 := f2 _ _ nlp upd_same
      obtain ⟨v, pv, wv, av⟩ : ∃ v : V, (∀ HX, PlainV HX v) ∧ wiB v 1 (10 ^ 30) = false ∧ atI [V.int 0, V.int (10 ^ Int.toNat 30 + 1), V.bl true, V.non, V.str (Str.ofString "3"), V.int (-1)] r = some v := by
        rcases (show r = 0 ∨ r = 1 ∨ r = 2 ∨ r = 3 ∨ r = 4 ∨ r = 5 by omega) with rfl | rfl | rfl | rfl | rfl | rfl
        · exact ⟨_, fun _ => plain_int, rfl, rfl⟩
        · exact ⟨_, fun _ => plain_int, by decide, rfl⟩
        · exact ⟨_, fun _ => .inr (.inl ⟨_, rfl⟩), rfl, rfl⟩
        · exact ⟨_, fun _ => .inl rfl, rfl, rfl⟩
        · exact ⟨_, fun _ => .inr (.inr (.inr (.inl ⟨_, rfl⟩))), rfl, rfl⟩
        · exact ⟨_, fun _ => plain_int, rfl, rfl⟩
      refine ixl (SqL.of y2) av ⟨mC (.ref sa), ?_, ?_⟩
      · walk_at "sm"
        refine tk hh2 (by decide) (by decide) fun s H3 s0 s1 f3 hh3 => ?_
        have l3 := l2.fr f3 hh3
        refine ⟨s, v, _, rfl, pv _, .inl rfl, s0, .inl ⟨by omega, wv, fun H4 x4 => ⟨rfl, iteF' (by simp) ?_⟩⟩⟩
        refine ⟨v, _, rfl, pv _, fun _ o H5 x5 ho => ⟨sz (by decide), fun q6 hq6 => ?_⟩, fun n' e e1 e2 => ?_⟩
        rotate_left
        · rw [e, wi_of (by omega) e2] at wv; cases wv
        have x6 := Evl.Ex.new (o := .tup [V.str (Str.ofString "BadLength")]) hq6
        refine ne_same (d := .tuple [.str "BadLength"]) (.tup (SqT.of (x6 _ _ ho)) (.cons (.str _) .nil)) (.tup (SqT.of upd_same) (.cons (.str _) .nil)) (by decide +kernel) ⟨_, rfl, iteF' (by simp) ⟨p, c, d, n, _, _, _, _, _, rfl, ((l3.go x4).go x5).go x6⟩⟩
      clear pv wv av y2 l2 f2 hh2 r0 r1 ex nlp ls n1 n2
      rintro σ' H' ⟨p, c, d, n, v4, v5, v6, v7, v8, rfl, ls⟩
      have n1 := ls.n1
      have n2 := ls.n2
      refine ⟨mC (.ref sa), ?_, ?_⟩
      · walk_at "sm"
        refine ⟨sz (by decide), fun lo hlo => ?_⟩
        have nlp := ls.hh.lt hlo
        have ex := Evl.Ex.new (o := .lst [V.int 0, V.int 201, V.bl true, V.non]) hlo
        refine tk (ls.hh.go ex) (by decide) (by decide) fun r H2 r0 r1 f2 hh2 => ?_
        have l2 := (ls.go ex).fr f2 hh2
        have y2 := f2 _ _ nlp upd_same
        obtain ⟨v, pv, wv, av⟩ : ∃ v : V, (∀ HX, PlainV HX v) ∧ wiB v 1 200 = false ∧ atI [V.int 0, V.int 201, V.bl true, V.non] r = some v := by
          rcases (show r = 0 ∨ r = 1 ∨ r = 2 ∨ r = 3 by omega) with rfl | rfl | rfl | rfl
          · exact ⟨_, fun _ => plain_int, rfl, rfl⟩
          · exact ⟨_, fun _ => plain_int, by decide, rfl⟩
          · exact ⟨_, fun _ => .inr (.inl ⟨_, rfl⟩), rfl, rfl⟩
          · exact ⟨_, fun _ => .inl rfl, rfl, rfl⟩
        refine ixl (SqL.of y2) av ⟨4, v, _, rfl, pv _, plain_int, by decide, .inr (.inl ⟨rfl, wv, fun H4 x4 => ⟨rfl, iteF' (by simp) ⟨p, c, d, n, _, _, _, _, _, rfl, l2.go x4⟩⟩⟩)⟩
      clear ls n1 n2
      rintro σ' H' ⟨p, c, d, n, v4, v5, v6, v7, v8, rfl, ls⟩
      have n1 := ls.n1
      have n2 := ls.n2
      walk_at "sm"
      refine ⟨_, ls.cn.get Cl_self n1, _, rfl, sz (by decide), fun lo hlo => ?_⟩
      have nlp := ls.hh.lt hlo
      have ex := Evl.Ex.new (o := .lst [V.int (-1), V.int ((Mv n : Int) + 1), V.bl true, V.str (Str.ofString "0"), V.non]) hlo
      refine tk (ls.hh.go ex) (by decide) (by decide) fun r H2 r0 r1 f2 hh2 => ?_
      have l2 := (ls.go ex).fr f2 hh2
      have y2 := f2 _ _ nlp upd_same
      obtain ⟨v, pv, wv, wv2, av⟩ : ∃ v : V, (∀ HX, PlainV HX v) ∧ wiB v 0 (Mv n : Int) = false ∧ wiB v 0 ((Mv n : Int) - 1) = false ∧ atI [V.int (-1), V.int ((Mv n : Int) + 1), V.bl true, V.str (Str.ofString "0"), V.non] r = some v := by
        rcases (show r = 0 ∨ r = 1 ∨ r = 2 ∨ r = 3 ∨ r = 4 by omega) with rfl | rfl | rfl | rfl | rfl
        · exact ⟨_, fun _ => plain_int, rfl, rfl, rfl⟩
        · exact ⟨_, fun _ => plain_int, by simp only [wiB, Bool.and_eq_false_iff, decide_eq_false_iff_not]; omega, by simp only [wiB, Bool.and_eq_false_iff, decide_eq_false_iff_not]; omega, rfl⟩
        · exact ⟨_, fun _ => .inr (.inl ⟨_, rfl⟩), rfl, rfl, rfl⟩
        · exact ⟨_, fun _ => .inr (.inr (.inr (.inl ⟨_, rfl⟩))), rfl, rfl, rfl⟩
        · exact ⟨_, fun _ => .inl rfl, rfl, rfl, rfl⟩
      refine ixl (SqL.of y2) av ⟨mD (.ref sa), ?_, ?_⟩
      · walk_at "sm"
        refine ⟨_, l2.cn.get Cl_self n1, 2, _, _, rfl, plain_int, plain_int, by decide, .inr (.inr ⟨n, rfl, n1, n2, .inl ⟨rfl, by simp only [wiB, Bool.and_eq_false_iff, decide_eq_false_iff_not]; omega⟩, fun H4 x4 => ⟨rfl, iteF' (by simp) ?_⟩⟩)⟩
        have l4 := l2.go x4
        refine tk l4.hh (by decide) (by decide) fun s H3 s0 s1 f3 hh3 => ⟨_, rfl, ?_⟩
        refine ⟨2 + s, _, v, rfl, plain_int, pv _, by omega, .inr (.inr ⟨n, rfl, n1, n2, ?_, fun H5 x5 => ⟨rfl, iteF' (by simp) ⟨p, c, d, n, _, _, _, _, _, _, rfl, (l4.fr f3 hh3).go x5⟩⟩⟩)⟩
        rcases (show s = 0 ∨ s = 1 by omega) with rfl | rfl
        · exact .inl ⟨rfl, wv2⟩
        · exact .inr ⟨rfl, wv⟩
      clear pv wv wv2 av y2 l2 f2 hh2 r0 r1 ex nlp ls n1 n2
      rintro σ' H' ⟨p, c, d, n, v4, v5, v6, v7, v8, v9, rfl, ls⟩
      have n1 := ls.n1
      have n2 := ls.n2
      have n3 := p30n n2
      obtain ⟨lb, lc⟩ := le_bits n1 n3
      walk_at "sm"
      refine ⟨_, ls.cn.get Cl_self n1, _, rfl, p, c, _, rfl, ls.hh, by omega, fun g H2 g0 g1 f2 hh2 => ?_⟩
      obtain ⟨m, rfl⟩ : ∃ m : Nat, g = m := ⟨g.toNat, by omega⟩
      have l2 := ls.fr f2 hh2
      refine ⟨d, n, 0, n, m, rfl, l2.cn, Cl_closed n3, Cl_self, n1, by omega, Nat.le_refl _, by omega, fun q H3 x3 hq0 hq hlen => ⟨q, rfl, _, .inl (SqL.of hq), fun l hl => ?_⟩⟩
      have l3 := l2.go x3
      have nlp := l3.hh.lt hl
      have nlc := l3.hh.lc hl
      have nld : l ≠ d := by
        obtain ⟨_, e, _⟩ := l3.cn
        exact Ne.symm (ne_of_none e hl)
      have xl := Evl.Ex.new (o := .lst (vN (St 0 n m))) hl
      have l4 := l3.go xl
      have hS := St_sorted n 0 m n1
      have hM : ∀ z ∈ St 0 n m, z < n := fun z hz => by have := (St_mem n 0 m z n1 hz).2; omega
      have hnd : (St 0 n m).Nodup := hS.imp fun h => by omega
      generalize St 0 n m = S at *
      refine ⟨_, .inl (SqL.of upd_same), ?_⟩
      rw [vN_len]
      refine tk l4.hh (by omega) (by omega) fun t H5 t0 t1 f5 hh5 => ⟨mE (.ref sa), ?_, ?_⟩
      · walk_at "sm"
        have l5 := l4.fr f5 hh5
        have y5 := f5 _ _ nlp upd_same
        obtain ⟨j, rfl⟩ : ∃ j : Nat, t = j := ⟨t.toNat, by omega⟩
        refine ite2' (fun q0 => ?_) (fun q0 => ?_)
        · match S, y5, hM, hnd, hlen, t1 with
          | [], _, _, _, _, t1 => exact absurd t1 (by show ¬ ((j : Int) < (0 : Nat) + 1); omega)
          | z :: S, y5, hM, hnd, hlen, t1 =>
            refine ixl (SqL.of y5) (v := .int (z : Int)) (atI_nat (j := 0) rfl) ⟨p, c, d, l, n, j, _, _, _, _, _, _, _, z :: S, rfl, l5, y5, nlp, nlc, nld, by omega, hnd, hM, by omega, .inr ⟨z, ?_, rfl⟩⟩
            obtain ⟨j', rfl⟩ : ∃ j', j = j' + 1 := ⟨j - 1, by omega⟩
            rw [List.take_succ_cons]
            exact List.mem_cons_self
        · exact ⟨p, c, d, l, n, j, _, _, _, _, _, _, _, S, rfl, l5, y5, nlp, nlc, nld, by omega, hnd, hM, by omega, .inl rfl⟩
      clear nlp nlc nld xl l4 hS hM hnd l3 hl l2 ls n1 n2 n3 lb lc x3 hq hq0 hlen
      rintro σ' H' ⟨p, c, d, l, n, j, v4, v5, v6, v7, v8, v9, v, S, rfl, ls, hl, nlp, nlc, nld, hS, hnd, hM, hj, hv⟩
      have n1 := ls.n1
      have n2 := ls.n2
      walk_at "sm"
      refine ⟨.inl ⟨rfl, _, SqL.of hl⟩, sz (by decide), fun lo hlo => ?_⟩
      have nop := ls.hh.lt hlo
      have nlo := ne_of_none hl hlo
      have ex := Evl.Ex.new (o := .lst [V.int n, V.int (-1), V.bl true, V.non, v]) hlo
      refine tk (ls.hh.go ex) (by decide) (by decide) fun r H2 r0 r1 f2 hh2 => ?_
      have y2 := f2 _ _ nop upd_same
      have yl := f2 _ _ nlp (ex _ _ hl)
      obtain ⟨b, pb, wb, ab⟩ : ∃ b : V, (∀ HX, PlainV HX b) ∧ (wiB b 0 ((n : Int) - 1) = false ∨ ∃ z ∈ S.take j, b = .int (z : Int)) ∧ atI [V.int (n : Int), V.int (-1), V.bl true, V.non, v] r = some b := by
        rcases (show r = 0 ∨ r = 1 ∨ r = 2 ∨ r = 3 ∨ r = 4 by omega) with rfl | rfl | rfl | rfl | rfl
        · exact ⟨_, fun _ => plain_int, .inl (by simp only [wiB, Bool.and_eq_false_iff, decide_eq_false_iff_not]; omega), rfl⟩
        · exact ⟨_, fun _ => plain_int, .inl rfl, rfl⟩
        · exact ⟨_, fun _ => .inr (.inl ⟨_, rfl⟩), .inl rfl, rfl⟩
        · exact ⟨_, fun _ => .inl rfl, .inl rfl, rfl⟩
        · rcases hv with rfl | ⟨z, hz, rfl⟩
          · exact ⟨_, fun _ => plain_int, .inl rfl, rfl⟩
          · exact ⟨_, fun _ => plain_int, .inr ⟨z, hz, rfl⟩, rfl⟩
      refine ixl (SqL.of y2) ab ⟨_, yl, ?_, by omega, by omega, ?_⟩
      · rw [vN_len]; exact Nat.lt_of_lt_of_le (by omega : S.length < 2000) (by decide)
      have wn : wiB (V.int (n : Int)) 1 (10 ^ 30) = true := wi_of (by omega) n2
      have eN : List.take ((j : Int)).toNat (vN S) ++ [b] ++ List.drop ((j : Int)).toNat (vN S) = vN (S.take j) ++ b :: vN (S.drop j) := by
        unfold vN
        rw [List.map_take, List.map_drop, List.append_assoc]
        rfl
      rw [eN]
      have tl : (S.take j).length = j := by rw [List.length_take]; omega
      refine ⟨_, _, rfl, plain_int, fun e => (by rw [wn] at e; cases e), fun n' e _ _ => ?_⟩
      have : n' = n := by have := V.int.inj e; omega
      subst this
      refine ⟨.inr (.inr (.inr (.inr (.inr ⟨_, _, rfl, upd_same⟩)))), fun e => (nomatch e), fun p4 e4 => ?_⟩
      cases e4
      refine ⟨S.take j, b :: vN (S.drop j), .inl (SqL.of upd_same), by omega, hnd.sublist (List.take_sublist _ _), fun z hz => hM z (List.mem_of_mem_take hz), .inr ⟨b, _, rfl, pb _, wb, fun dd H3 x3 hdd dd2 i e hi o H4 x4 ho => ?_⟩⟩
      cases e
      have ei : i = (j : Int) := by
        rw [hdd] at hi
        injection hi with hi
        injection hi with hi
        injection hi with hi _
        injection hi with _ hi
        have := V.int.inj hi
        omega
      subst ei
      refine ⟨sz (by decide), fun q5 hq5 => ?_⟩
      have x5 := Evl.Ex.new (o := .tup [V.str (Str.ofString "BadPlaces"), V.int j]) hq5
      refine eq_same (d := .tuple [.str "BadPlaces", .int j]) (.tup (SqT.of (x5 _ _ ho)) (.cons (.str _) (.cons (.int _) .nil))) (.tup (SqT.of upd_same) (.cons (.str _) (.cons (.int _) .nil))) (shaped_of (n := 2) (lay_tup (n := 1) fun d hd => ?_) (by decide)) ⟨_, rfl, iteT' rfl ?_⟩
      · rcases List.mem_cons.mp hd with rfl | hd
        · exact ⟨by decide +kernel, by show 0 ≤ 1; omega⟩
        · rw [List.mem_singleton.mp hd]; exact ⟨rfl, by show 0 ≤ 1; omega⟩
      refine ⟨_, _, rfl, plain_int, fun e => (by rw [wn] at e; cases e), fun n'' e _ _ => ⟨.inl rfl, fun _ dd3 H6 x6 hdd3 dd4 i e hi o H7 x7 ho => ?_, fun p e => (nomatch e)⟩⟩
      cases e
      have ei : i = -1 := by
        rw [hdd3] at hi
        injection hi with hi
        injection hi with hi
        injection hi with hi _
        injection hi with _ hi
        exact (V.int.inj hi).symm
      subst ei
      refine ⟨sz (by decide), fun q8 hq8 => ?_⟩
      have x8 := Evl.Ex.new (o := .tup [V.str (Str.ofString "BadPlaces"), V.int (-1)]) hq8
      exact eq_same (d := .tuple [.str "BadPlaces", .int (-1)]) (.tup (SqT.of (x8 _ _ ho)) (.cons (.str _) (.cons (.int _) .nil))) (.tup (SqT.of upd_same) (.cons (.str _) (.cons (.int _) .nil))) (by decide +kernel) (k _)
end


theorem exm_self {K : PySem.W.Frag} {S : Addr} (h1 : PySem.W.subIn K (.ref S) (.type "BaseException") = some true) (h2 : PySem.W.isClsIn K S = true) (h3 : PySem.W.typeIn K (.ref S) = some (.type "type")) (h4 : PySem.W.subIn K (.ref S) (.ref S) = some true) :
    PySem.W.exmOne K (.ref S) (.ref S) = some true := by
  have e1 : (PySem.W.subIn K (.ref S) (.type "BaseException") == some true) = true := by rw [h1] <;> rfl
  have e2 : ((PySem.W.clsIn K S).isSome && PySem.W.typeIn K (.ref S) == some (.type "type")) = true := by
    have h5 : (PySem.W.clsIn K S).isSome = true := h2
    rw [h5, h3] <;> rfl
  unfold PySem.W.exmOne
  rw [if_pos e1]
  show (if ((PySem.W.clsIn K S).isSome && PySem.W.typeIn K (.ref S) == some (.type "type")) = true then PySem.W.subIn K (.ref S) (.ref S) else none) = some true
  rw [if_pos e2]
  exact h4
/-- the items of a constant tuple, held against what they should be -/
def valB : V → Value → Bool
  | .int i, .int j _ => decide (i = j)
  | .str x, .str y _ => decide (x = y)
  | _, _ => false
theorem valB_ok : ∀ {x : V} {u : Value}, valB x u = true → RelV x u := by
  intro x u h
  unfold valB at h
  split at h
  · exact ⟨_, by rw [of_decide_eq_true h]⟩
  · exact ⟨_, by rw [of_decide_eq_true h]⟩
  · cases h
def valsB : List V → List Value → Bool
  | [], [] => true
  | x :: xs, u :: us => valB x u && valsB xs us
  | _, _ => false
theorem valsB_ok : ∀ {xs : List V} {us : List Value}, valsB xs us = true → Vals xs us
  | [], [], _ => .nil
  | [], _ :: _, h => by cases h
  | _ :: _, [], h => by cases h
  | x :: xs, u :: us, h => by
    have h' : (valB x u && valsB xs us) = true := h
    rw [Bool.and_eq_true] at h'
    exact .cons (valB_ok h'.1) (valsB_ok h'.2)
theorem sqT_mk {K : PySem.W.Frag} {H : Hp} {p : Addr} {d : Option Addr} {its : Array Value} {n : Nat} {sl : Array (Option Value)} {xs : List V} (l : K.lookup p = some ⟨.type "tuple", d, .seq its n, sl⟩) (v : valsB xs its.toList = true) (z : decide (its.size ≤ 1000) = true) : SqT K H p xs :=
  .inr ⟨_, its, n, l, rfl, rfl, Nat.le_trans (of_decide_eq_true z) (by decide), valsB_ok v⟩
theorem exm_no {K : PySem.W.Frag} {S T : Addr} (h1 : PySem.W.subIn K (.ref T) (.type "BaseException") = some true) (h2 : PySem.W.isClsIn K T = true) (h3 : PySem.W.typeIn K (.ref T) = some (.type "type")) (h4 : PySem.W.subIn K (.ref S) (.ref T) = some false) :
    PySem.W.exmOne K (.ref S) (.ref T) = some false := by
  have e1 : (PySem.W.subIn K (.ref T) (.type "BaseException") == some true) = true := by rw [h1] <;> rfl
  have e2 : ((PySem.W.clsIn K T).isSome && PySem.W.typeIn K (.ref T) == some (.type "type")) = true := by
    have h5 : (PySem.W.clsIn K T).isSome = true := h2
    rw [h5, h3] <;> rfl
  unfold PySem.W.exmOne
  rw [if_pos e1]
  show (if ((PySem.W.clsIn K T).isSome && PySem.W.typeIn K (.ref T) == some (.type "type")) = true then PySem.W.subIn K (.ref S) (.ref T) else none) = some false
  rw [if_pos e2]
  exact h4

theorem all_mk {P : Program} {w : World} {K : PySem.W.Frag} {h : Heap} {mg : Str → Option Value} {fa : Addr} (X : K.In h) (G : h.Ns mainGlobals mg) (hfa : mg "law" = some (.ref fa))
    {v_is_whole : Addr} {oc_is_whole kV_is_whole dc_is_whole pm_is_whole cd_is_whole ct_is_whole : Value} {od_is_whole an_is_whole : Option Addr} {sl_is_whole : Array (Option Value)}
    {v_is_within : Addr} {oc_is_within kV_is_within dc_is_within pm_is_within cd_is_within ct_is_within : Value} {od_is_within an_is_within : Option Addr} {sl_is_within : Array (Option Value)}
    {v_is_sequence : Addr} {oc_is_sequence kV_is_sequence dc_is_sequence pm_is_sequence cd_is_sequence ct_is_sequence : Value} {od_is_sequence an_is_sequence : Option Addr} {sl_is_sequence : Array (Option Value)}
    {v_check_room : Addr} {oc_check_room kV_check_room dc_check_room pm_check_room cd_check_room ct_check_room : Value} {od_check_room an_check_room : Option Addr} {sl_check_room : Array (Option Value)}
    {v_check_length : Addr} {oc_check_length kV_check_length dc_check_length pm_check_length cd_check_length ct_check_length : Value} {od_check_length an_check_length : Option Addr} {sl_check_length : Array (Option Value)}
    {v_chain_price : Addr} {oc_chain_price kV_chain_price dc_chain_price pm_chain_price cd_chain_price ct_chain_price : Value} {od_chain_price an_chain_price : Option Addr} {sl_chain_price : Array (Option Value)}
    {v_longest_chain : Addr} {oc_longest_chain kV_longest_chain dc_longest_chain pm_longest_chain cd_longest_chain ct_longest_chain : Value} {od_longest_chain an_longest_chain : Option Addr} {sl_longest_chain : Array (Option Value)}
    {v_moves_of : Addr} {oc_moves_of kV_moves_of dc_moves_of pm_moves_of cd_moves_of ct_moves_of : Value} {od_moves_of an_moves_of : Option Addr} {sl_moves_of : Array (Option Value)}
    {v_chain_moves : Addr} {oc_chain_moves kV_chain_moves dc_chain_moves pm_chain_moves cd_chain_moves ct_chain_moves : Value} {od_chain_moves an_chain_moves : Option Addr} {sl_chain_moves : Array (Option Value)}
    {v_chain_move : Addr} {oc_chain_move kV_chain_move dc_chain_move pm_chain_move cd_chain_move ct_chain_move : Value} {od_chain_move an_chain_move : Option Addr} {sl_chain_move : Array (Option Value)}
    {v_chain_standing : Addr} {oc_chain_standing kV_chain_standing dc_chain_standing pm_chain_standing cd_chain_standing ct_chain_standing : Value} {od_chain_standing an_chain_standing : Option Addr} {sl_chain_standing : Array (Option Value)}
    {v_check_standing : Addr} {oc_check_standing kV_check_standing dc_check_standing pm_check_standing cd_check_standing ct_check_standing : Value} {od_check_standing an_check_standing : Option Addr} {sl_check_standing : Array (Option Value)}
    {v_chain_number : Addr} {oc_chain_number kV_chain_number dc_chain_number pm_chain_number cd_chain_number ct_chain_number : Value} {od_chain_number an_chain_number : Option Addr} {sl_chain_number : Array (Option Value)}
    {v_law_hand : Addr} {oc_law_hand kV_law_hand dc_law_hand pm_law_hand cd_law_hand ct_law_hand : Value} {od_law_hand an_law_hand : Option Addr} {sl_law_hand : Array (Option Value)}
    {v_law_mixed : Addr} {oc_law_mixed kV_law_mixed dc_law_mixed pm_law_mixed cd_law_mixed ct_law_mixed : Value} {od_law_mixed an_law_mixed : Option Addr} {sl_law_mixed : Array (Option Value)}
    {v_law_take : Addr} {oc_law_take kV_law_take dc_law_take pm_law_take cd_law_take ct_law_take : Value} {od_law_take an_law_take : Option Addr} {sl_law_take : Array (Option Value)}
    {v_law_whole : Addr} {oc_law_whole kV_law_whole dc_law_whole pm_law_whole cd_law_whole ct_law_whole : Value} {od_law_whole an_law_whole : Option Addr} {sl_law_whole : Array (Option Value)}
    {v_law_two : Addr} {oc_law_two kV_law_two dc_law_two pm_law_two cd_law_two ct_law_two : Value} {od_law_two an_law_two : Option Addr} {sl_law_two : Array (Option Value)}
    {v_law_order : Addr} {oc_law_order kV_law_order dc_law_order pm_law_order cd_law_order ct_law_order : Value} {od_law_order an_law_order : Option Addr} {sl_law_order : Array (Option Value)}
    {v_law_places : Addr} {oc_law_places kV_law_places dc_law_places pm_law_places cd_law_places ct_law_places : Value} {od_law_places an_law_places : Option Addr} {sl_law_places : Array (Option Value)}
    {v_law_shuffled : Addr} {oc_law_shuffled kV_law_shuffled dc_law_shuffled pm_law_shuffled cd_law_shuffled ct_law_shuffled : Value} {od_law_shuffled an_law_shuffled : Option Addr} {sl_law_shuffled : Array (Option Value)}
    {v_law_chain_counts : Addr} {oc_law_chain_counts kV_law_chain_counts dc_law_chain_counts pm_law_chain_counts cd_law_chain_counts ct_law_chain_counts : Value} {od_law_chain_counts an_law_chain_counts : Option Addr} {sl_law_chain_counts : Array (Option Value)}
    {v_law_chain_at : Addr} {oc_law_chain_at kV_law_chain_at dc_law_chain_at pm_law_chain_at cd_law_chain_at ct_law_chain_at : Value} {od_law_chain_at an_law_chain_at : Option Addr} {sl_law_chain_at : Array (Option Value)}
    {v_law_chain_met : Addr} {oc_law_chain_met kV_law_chain_met dc_law_chain_met pm_law_chain_met cd_law_chain_met ct_law_chain_met : Value} {od_law_chain_met an_law_chain_met : Option Addr} {sl_law_chain_met : Array (Option Value)}
    {v_law_great : Addr} {oc_law_great kV_law_great dc_law_great pm_law_great cd_law_great ct_law_great : Value} {od_law_great an_law_great : Option Addr} {sl_law_great : Array (Option Value)}
    {v_law_length : Addr} {oc_law_length kV_law_length dc_law_length pm_law_length cd_law_length ct_law_length : Value} {od_law_length an_law_length : Option Addr} {sl_law_length : Array (Option Value)}
    {v_law_met : Addr} {oc_law_met kV_law_met dc_law_met pm_law_met cd_law_met ct_law_met : Value} {od_law_met an_law_met : Option Addr} {sl_law_met : Array (Option Value)}
    {v_law_refused : Addr} {oc_law_refused kV_law_refused dc_law_refused pm_law_refused cd_law_refused ct_law_refused : Value} {od_law_refused an_law_refused : Option Addr} {sl_law_refused : Array (Option Value)}
    {v_law_drawn_number : Addr} {oc_law_drawn_number kV_law_drawn_number dc_law_drawn_number pm_law_drawn_number cd_law_drawn_number ct_law_drawn_number : Value} {od_law_drawn_number an_law_drawn_number : Option Addr} {sl_law_drawn_number : Array (Option Value)}
    {v_law_spoilt : Addr} {oc_law_spoilt kV_law_spoilt dc_law_spoilt pm_law_spoilt cd_law_spoilt ct_law_spoilt : Value} {od_law_spoilt an_law_spoilt : Option Addr} {sl_law_spoilt : Array (Option Value)}
    {v_law_moves_fit : Addr} {oc_law_moves_fit kV_law_moves_fit dc_law_moves_fit pm_law_moves_fit cd_law_moves_fit ct_law_moves_fit : Value} {od_law_moves_fit an_law_moves_fit : Option Addr} {sl_law_moves_fit : Array (Option Value)}
    {v_law : Addr} {oc_law kV_law dc_law pm_law cd_law ct_law : Value} {od_law an_law : Option Addr} {sl_law : Array (Option Value)}
    {v_BadPlaces___init__ : Addr} {oc_BadPlaces___init__ kV_BadPlaces___init__ dc_BadPlaces___init__ pm_BadPlaces___init__ cd_BadPlaces___init__ ct_BadPlaces___init__ : Value} {od_BadPlaces___init__ an_BadPlaces___init__ : Option Addr} {sl_BadPlaces___init__ : Array (Option Value)}
    {w_BadPlaces N_BadPlaces : Addr} {nm_BadPlaces q_BadPlaces : Str} {bs_BadPlaces bm_BadPlaces sub_BadPlaces : List Value} {sn_BadPlaces : List Str} {ab_BadPlaces : Bool} {col_BadPlaces : Option Bool} {dd_BadPlaces : Option Addr} {m0_BadPlaces m1_BadPlaces m2_BadPlaces m3_BadPlaces m5_BadPlaces : Option Value}
    {w_BadRoom : Addr}
    {w_BadLength : Addr}
    {w_BadNumber : Addr}
    {w_NeverStands : Addr}
    {t_MOST_ROOM : Tok}
    {t_MOST_LENGTH : Tok}
    {u_c_UndoError : Addr}
    (hm_BadPlaces : PySem.W.nsIn K mainGlobals "BadPlaces" = some (some (.ref w_BadPlaces)))
    (hm_BadRoom : PySem.W.nsIn K mainGlobals "BadRoom" = some (some (.ref w_BadRoom)))
    (hm_BadLength : PySem.W.nsIn K mainGlobals "BadLength" = some (some (.ref w_BadLength)))
    (hm_BadNumber : PySem.W.nsIn K mainGlobals "BadNumber" = some (some (.ref w_BadNumber)))
    (hm_NeverStands : PySem.W.nsIn K mainGlobals "NeverStands" = some (some (.ref w_NeverStands)))
    (xl_BadPlaces : K.lookup w_BadPlaces = some (excClassObj nm_BadPlaces q_BadPlaces w_BadPlaces N_BadPlaces bs_BadPlaces bm_BadPlaces true sn_BadPlaces sub_BadPlaces ab_BadPlaces col_BadPlaces dd_BadPlaces m0_BadPlaces m1_BadPlaces m2_BadPlaces m3_BadPlaces m5_BadPlaces "ValueError.__new__"))
    (xv_BadPlaces : PySem.HandSPX.refsVE bm_BadPlaces = true)
    (xs_BadPlaces : PySem.W.findIn K (.ref w_BadPlaces) "__setattr__" = some (some (.builtin "object.__setattr__")))
    (xg_BadPlaces : PySem.W.findIn K (.ref w_BadPlaces) "__getattribute__" = some (some (.builtin "BaseException.__getattribute__")))
    (xh_BadPlaces : PySem.W.findIn K (.ref w_BadPlaces) "__getattr__" = some none)
    (xk_BadPlaces : PySem.W.keepIn K (.ref w_BadPlaces) = true)
    (xb_BadPlaces : PySem.W.subIn K (.ref w_BadPlaces) (.type "BaseException") = some true)
    (xy_BadPlaces : PySem.W.typeIn K (.ref w_BadPlaces) = some (.type "type"))
    (xd_BadPlaces : PySem.W.hasDictIn K w_BadPlaces = true)
    (xc_BadPlaces : PySem.W.isClsIn K w_BadPlaces = true)
    (xz_BadPlaces : PySem.W.subIn K (.ref w_BadPlaces) (.ref w_BadPlaces) = some true)
    (xq_BadRoom : PySem.W.excIn K w_BadRoom [.type "ValueError", .type "Exception", .type "BaseException", .type "object"] "ValueError.__new__" = true)
    (xk_BadRoom : PySem.W.keepIn K (.ref w_BadRoom) = true)
    (xb_BadRoom : PySem.W.subIn K (.ref w_BadRoom) (.type "BaseException") = some true)
    (xy_BadRoom : PySem.W.typeIn K (.ref w_BadRoom) = some (.type "type"))
    (xc_BadRoom : PySem.W.isClsIn K w_BadRoom = true)
    (xz_BadRoom : PySem.W.subIn K (.ref w_BadRoom) (.ref w_BadRoom) = some true)
    (xq_BadLength : PySem.W.excIn K w_BadLength [.type "ValueError", .type "Exception", .type "BaseException", .type "object"] "ValueError.__new__" = true)
    (xk_BadLength : PySem.W.keepIn K (.ref w_BadLength) = true)
    (xb_BadLength : PySem.W.subIn K (.ref w_BadLength) (.type "BaseException") = some true)
    (xy_BadLength : PySem.W.typeIn K (.ref w_BadLength) = some (.type "type"))
    (xc_BadLength : PySem.W.isClsIn K w_BadLength = true)
    (xz_BadLength : PySem.W.subIn K (.ref w_BadLength) (.ref w_BadLength) = some true)
    (xq_BadNumber : PySem.W.excIn K w_BadNumber [.type "ValueError", .type "Exception", .type "BaseException", .type "object"] "ValueError.__new__" = true)
    (xk_BadNumber : PySem.W.keepIn K (.ref w_BadNumber) = true)
    (xb_BadNumber : PySem.W.subIn K (.ref w_BadNumber) (.type "BaseException") = some true)
    (xy_BadNumber : PySem.W.typeIn K (.ref w_BadNumber) = some (.type "type"))
    (xc_BadNumber : PySem.W.isClsIn K w_BadNumber = true)
    (xz_BadNumber : PySem.W.subIn K (.ref w_BadNumber) (.ref w_BadNumber) = some true)
    (xq_NeverStands : PySem.W.excIn K w_NeverStands [.type "ValueError", .type "Exception", .type "BaseException", .type "object"] "ValueError.__new__" = true)
    (xk_NeverStands : PySem.W.keepIn K (.ref w_NeverStands) = true)
    (xb_NeverStands : PySem.W.subIn K (.ref w_NeverStands) (.type "BaseException") = some true)
    (xy_NeverStands : PySem.W.typeIn K (.ref w_NeverStands) = some (.type "type"))
    (xc_NeverStands : PySem.W.isClsIn K w_NeverStands = true)
    (xz_NeverStands : PySem.W.subIn K (.ref w_NeverStands) (.ref w_NeverStands) = some true)
    (hxi_BadPlaces : PySem.W.findIn K (.ref w_BadPlaces) "__init__" = some (some (.ref v_BadPlaces___init__)))
    (hxt_BadPlaces : PySem.W.typeIn K (.ref v_BadPlaces___init__) = some (.type "function"))
    (hxn_BadPlaces_index : PySem.W.findIn K (.ref w_BadPlaces) "index" = some none)
    (no_BadPlaces_BadLength : PySem.W.subIn K (.ref w_BadPlaces) (.ref w_BadLength) = some false)
    (no_NeverStands_BadLength : PySem.W.subIn K (.ref w_NeverStands) (.ref w_BadLength) = some false)
    (no_NeverStands_BadPlaces : PySem.W.subIn K (.ref w_NeverStands) (.ref w_BadPlaces) = some false)
    (no_BadNumber_BadLength : PySem.W.subIn K (.ref w_BadNumber) (.ref w_BadLength) = some false)
    (no_BadRoom_BadLength : PySem.W.subIn K (.ref w_BadRoom) (.ref w_BadLength) = some false)
    (no_BadRoom_BadNumber : PySem.W.subIn K (.ref w_BadRoom) (.ref w_BadNumber) = some false)
    (hm_is_whole : PySem.W.nsIn K mainGlobals "is_whole" = some (some (.ref v_is_whole)))
    (hl_is_whole : K.lookup v_is_whole = some ⟨oc_is_whole, od_is_whole, .func (PySem.W.fnOf "is_whole" "is_whole" (defArgs s_is_whole) (defBody s_is_whole) (defScope s_is_whole) .none kV_is_whole dc_is_whole pm_is_whole an_is_whole cd_is_whole ct_is_whole), sl_is_whole⟩)
    (hc_is_whole : PySem.W.codeIn K cd_is_whole "is_whole" = true)
    (hk_is_whole : PySem.W.keepIn K (.ref v_is_whole) = true)
    (hm_is_within : PySem.W.nsIn K mainGlobals "is_within" = some (some (.ref v_is_within)))
    (hl_is_within : K.lookup v_is_within = some ⟨oc_is_within, od_is_within, .func (PySem.W.fnOf "is_within" "is_within" (defArgs s_is_within) (defBody s_is_within) (defScope s_is_within) .none kV_is_within dc_is_within pm_is_within an_is_within cd_is_within ct_is_within), sl_is_within⟩)
    (hc_is_within : PySem.W.codeIn K cd_is_within "is_within" = true)
    (hk_is_within : PySem.W.keepIn K (.ref v_is_within) = true)
    (hm_is_sequence : PySem.W.nsIn K mainGlobals "is_sequence" = some (some (.ref v_is_sequence)))
    (hl_is_sequence : K.lookup v_is_sequence = some ⟨oc_is_sequence, od_is_sequence, .func (PySem.W.fnOf "is_sequence" "is_sequence" (defArgs s_is_sequence) (defBody s_is_sequence) (defScope s_is_sequence) .none kV_is_sequence dc_is_sequence pm_is_sequence an_is_sequence cd_is_sequence ct_is_sequence), sl_is_sequence⟩)
    (hc_is_sequence : PySem.W.codeIn K cd_is_sequence "is_sequence" = true)
    (hk_is_sequence : PySem.W.keepIn K (.ref v_is_sequence) = true)
    (hm_check_room : PySem.W.nsIn K mainGlobals "check_room" = some (some (.ref v_check_room)))
    (hl_check_room : K.lookup v_check_room = some ⟨oc_check_room, od_check_room, .func (PySem.W.fnOf "check_room" "check_room" (defArgs s_check_room) (defBody s_check_room) (defScope s_check_room) .none kV_check_room dc_check_room pm_check_room an_check_room cd_check_room ct_check_room), sl_check_room⟩)
    (hc_check_room : PySem.W.codeIn K cd_check_room "check_room" = true)
    (hk_check_room : PySem.W.keepIn K (.ref v_check_room) = true)
    (hm_check_length : PySem.W.nsIn K mainGlobals "check_length" = some (some (.ref v_check_length)))
    (hl_check_length : K.lookup v_check_length = some ⟨oc_check_length, od_check_length, .func (PySem.W.fnOf "check_length" "check_length" (defArgs s_check_length) (defBody s_check_length) (defScope s_check_length) .none kV_check_length dc_check_length pm_check_length an_check_length cd_check_length ct_check_length), sl_check_length⟩)
    (hc_check_length : PySem.W.codeIn K cd_check_length "check_length" = true)
    (hk_check_length : PySem.W.keepIn K (.ref v_check_length) = true)
    (hm_chain_price : PySem.W.nsIn K mainGlobals "chain_price" = some (some (.ref v_chain_price)))
    (hl_chain_price : K.lookup v_chain_price = some ⟨oc_chain_price, od_chain_price, .func (PySem.W.fnOf "chain_price" "chain_price" (defArgs s_chain_price) (defBody s_chain_price) (defScope s_chain_price) .none kV_chain_price dc_chain_price pm_chain_price an_chain_price cd_chain_price ct_chain_price), sl_chain_price⟩)
    (hc_chain_price : PySem.W.codeIn K cd_chain_price "chain_price" = true)
    (hk_chain_price : PySem.W.keepIn K (.ref v_chain_price) = true)
    (hm_longest_chain : PySem.W.nsIn K mainGlobals "longest_chain" = some (some (.ref v_longest_chain)))
    (hl_longest_chain : K.lookup v_longest_chain = some ⟨oc_longest_chain, od_longest_chain, .func (PySem.W.fnOf "longest_chain" "longest_chain" (defArgs s_longest_chain) (defBody s_longest_chain) (defScope s_longest_chain) .none kV_longest_chain dc_longest_chain pm_longest_chain an_longest_chain cd_longest_chain ct_longest_chain), sl_longest_chain⟩)
    (hc_longest_chain : PySem.W.codeIn K cd_longest_chain "longest_chain" = true)
    (hk_longest_chain : PySem.W.keepIn K (.ref v_longest_chain) = true)
    (hm_moves_of : PySem.W.nsIn K mainGlobals "moves_of" = some (some (.ref v_moves_of)))
    (hl_moves_of : K.lookup v_moves_of = some ⟨oc_moves_of, od_moves_of, .func (PySem.W.fnOf "moves_of" "moves_of" (defArgs s_moves_of) (defBody s_moves_of) (defScope s_moves_of) .none kV_moves_of dc_moves_of pm_moves_of an_moves_of cd_moves_of ct_moves_of), sl_moves_of⟩)
    (hc_moves_of : PySem.W.codeIn K cd_moves_of "moves_of" = true)
    (hk_moves_of : PySem.W.keepIn K (.ref v_moves_of) = true)
    (hm_chain_moves : PySem.W.nsIn K mainGlobals "chain_moves" = some (some (.ref v_chain_moves)))
    (hl_chain_moves : K.lookup v_chain_moves = some ⟨oc_chain_moves, od_chain_moves, .func (PySem.W.fnOf "chain_moves" "chain_moves" (defArgs s_chain_moves) (defBody s_chain_moves) (defScope s_chain_moves) .none kV_chain_moves dc_chain_moves pm_chain_moves an_chain_moves cd_chain_moves ct_chain_moves), sl_chain_moves⟩)
    (hc_chain_moves : PySem.W.codeIn K cd_chain_moves "chain_moves" = true)
    (hk_chain_moves : PySem.W.keepIn K (.ref v_chain_moves) = true)
    (hm_chain_move : PySem.W.nsIn K mainGlobals "chain_move" = some (some (.ref v_chain_move)))
    (hl_chain_move : K.lookup v_chain_move = some ⟨oc_chain_move, od_chain_move, .func (PySem.W.fnOf "chain_move" "chain_move" (defArgs s_chain_move) (defBody s_chain_move) (defScope s_chain_move) .none kV_chain_move dc_chain_move pm_chain_move an_chain_move cd_chain_move ct_chain_move), sl_chain_move⟩)
    (hc_chain_move : PySem.W.codeIn K cd_chain_move "chain_move" = true)
    (hk_chain_move : PySem.W.keepIn K (.ref v_chain_move) = true)
    (hm_chain_standing : PySem.W.nsIn K mainGlobals "chain_standing" = some (some (.ref v_chain_standing)))
    (hl_chain_standing : K.lookup v_chain_standing = some ⟨oc_chain_standing, od_chain_standing, .func (PySem.W.fnOf "chain_standing" "chain_standing" (defArgs s_chain_standing) (defBody s_chain_standing) (defScope s_chain_standing) .none kV_chain_standing dc_chain_standing pm_chain_standing an_chain_standing cd_chain_standing ct_chain_standing), sl_chain_standing⟩)
    (hc_chain_standing : PySem.W.codeIn K cd_chain_standing "chain_standing" = true)
    (hk_chain_standing : PySem.W.keepIn K (.ref v_chain_standing) = true)
    (hm_check_standing : PySem.W.nsIn K mainGlobals "check_standing" = some (some (.ref v_check_standing)))
    (hl_check_standing : K.lookup v_check_standing = some ⟨oc_check_standing, od_check_standing, .func (PySem.W.fnOf "check_standing" "check_standing" (defArgs s_check_standing) (defBody s_check_standing) (defScope s_check_standing) .none kV_check_standing dc_check_standing pm_check_standing an_check_standing cd_check_standing ct_check_standing), sl_check_standing⟩)
    (hc_check_standing : PySem.W.codeIn K cd_check_standing "check_standing" = true)
    (hk_check_standing : PySem.W.keepIn K (.ref v_check_standing) = true)
    (hm_chain_number : PySem.W.nsIn K mainGlobals "chain_number" = some (some (.ref v_chain_number)))
    (hl_chain_number : K.lookup v_chain_number = some ⟨oc_chain_number, od_chain_number, .func (PySem.W.fnOf "chain_number" "chain_number" (defArgs s_chain_number) (defBody s_chain_number) (defScope s_chain_number) .none kV_chain_number dc_chain_number pm_chain_number an_chain_number cd_chain_number ct_chain_number), sl_chain_number⟩)
    (hc_chain_number : PySem.W.codeIn K cd_chain_number "chain_number" = true)
    (hk_chain_number : PySem.W.keepIn K (.ref v_chain_number) = true)
    (hm_law_hand : PySem.W.nsIn K mainGlobals "_law_hand" = some (some (.ref v_law_hand)))
    (hl_law_hand : K.lookup v_law_hand = some ⟨oc_law_hand, od_law_hand, .func (PySem.W.fnOf "_law_hand" "_law_hand" (defArgs s_law_hand) (defBody s_law_hand) (defScope s_law_hand) .none kV_law_hand dc_law_hand pm_law_hand an_law_hand cd_law_hand ct_law_hand), sl_law_hand⟩)
    (hc_law_hand : PySem.W.codeIn K cd_law_hand "_law_hand" = true)
    (hk_law_hand : PySem.W.keepIn K (.ref v_law_hand) = true)
    (hm_law_mixed : PySem.W.nsIn K mainGlobals "_law_mixed" = some (some (.ref v_law_mixed)))
    (hl_law_mixed : K.lookup v_law_mixed = some ⟨oc_law_mixed, od_law_mixed, .func (PySem.W.fnOf "_law_mixed" "_law_mixed" (defArgs s_law_mixed) (defBody s_law_mixed) (defScope s_law_mixed) .none kV_law_mixed dc_law_mixed pm_law_mixed an_law_mixed cd_law_mixed ct_law_mixed), sl_law_mixed⟩)
    (hc_law_mixed : PySem.W.codeIn K cd_law_mixed "_law_mixed" = true)
    (hk_law_mixed : PySem.W.keepIn K (.ref v_law_mixed) = true)
    (hm_law_take : PySem.W.nsIn K mainGlobals "_law_take" = some (some (.ref v_law_take)))
    (hl_law_take : K.lookup v_law_take = some ⟨oc_law_take, od_law_take, .func (PySem.W.fnOf "_law_take" "_law_take" (defArgs s_law_take) (defBody s_law_take) (defScope s_law_take) .none kV_law_take dc_law_take pm_law_take an_law_take cd_law_take ct_law_take), sl_law_take⟩)
    (hc_law_take : PySem.W.codeIn K cd_law_take "_law_take" = true)
    (hk_law_take : PySem.W.keepIn K (.ref v_law_take) = true)
    (hm_law_whole : PySem.W.nsIn K mainGlobals "_law_whole" = some (some (.ref v_law_whole)))
    (hl_law_whole : K.lookup v_law_whole = some ⟨oc_law_whole, od_law_whole, .func (PySem.W.fnOf "_law_whole" "_law_whole" (defArgs s_law_whole) (defBody s_law_whole) (defScope s_law_whole) .none kV_law_whole dc_law_whole pm_law_whole an_law_whole cd_law_whole ct_law_whole), sl_law_whole⟩)
    (hc_law_whole : PySem.W.codeIn K cd_law_whole "_law_whole" = true)
    (hk_law_whole : PySem.W.keepIn K (.ref v_law_whole) = true)
    (hm_law_two : PySem.W.nsIn K mainGlobals "_law_two" = some (some (.ref v_law_two)))
    (hl_law_two : K.lookup v_law_two = some ⟨oc_law_two, od_law_two, .func (PySem.W.fnOf "_law_two" "_law_two" (defArgs s_law_two) (defBody s_law_two) (defScope s_law_two) .none kV_law_two dc_law_two pm_law_two an_law_two cd_law_two ct_law_two), sl_law_two⟩)
    (hc_law_two : PySem.W.codeIn K cd_law_two "_law_two" = true)
    (hk_law_two : PySem.W.keepIn K (.ref v_law_two) = true)
    (hm_law_order : PySem.W.nsIn K mainGlobals "_law_order" = some (some (.ref v_law_order)))
    (hl_law_order : K.lookup v_law_order = some ⟨oc_law_order, od_law_order, .func (PySem.W.fnOf "_law_order" "_law_order" (defArgs s_law_order) (defBody s_law_order) (defScope s_law_order) .none kV_law_order dc_law_order pm_law_order an_law_order cd_law_order ct_law_order), sl_law_order⟩)
    (hc_law_order : PySem.W.codeIn K cd_law_order "_law_order" = true)
    (hk_law_order : PySem.W.keepIn K (.ref v_law_order) = true)
    (hm_law_places : PySem.W.nsIn K mainGlobals "_law_places" = some (some (.ref v_law_places)))
    (hl_law_places : K.lookup v_law_places = some ⟨oc_law_places, od_law_places, .func (PySem.W.fnOf "_law_places" "_law_places" (defArgs s_law_places) (defBody s_law_places) (defScope s_law_places) .none kV_law_places dc_law_places pm_law_places an_law_places cd_law_places ct_law_places), sl_law_places⟩)
    (hc_law_places : PySem.W.codeIn K cd_law_places "_law_places" = true)
    (hk_law_places : PySem.W.keepIn K (.ref v_law_places) = true)
    (hm_law_shuffled : PySem.W.nsIn K mainGlobals "_law_shuffled" = some (some (.ref v_law_shuffled)))
    (hl_law_shuffled : K.lookup v_law_shuffled = some ⟨oc_law_shuffled, od_law_shuffled, .func (PySem.W.fnOf "_law_shuffled" "_law_shuffled" (defArgs s_law_shuffled) (defBody s_law_shuffled) (defScope s_law_shuffled) .none kV_law_shuffled dc_law_shuffled pm_law_shuffled an_law_shuffled cd_law_shuffled ct_law_shuffled), sl_law_shuffled⟩)
    (hc_law_shuffled : PySem.W.codeIn K cd_law_shuffled "_law_shuffled" = true)
    (hk_law_shuffled : PySem.W.keepIn K (.ref v_law_shuffled) = true)
    (hm_law_chain_counts : PySem.W.nsIn K mainGlobals "_law_chain_counts" = some (some (.ref v_law_chain_counts)))
    (hl_law_chain_counts : K.lookup v_law_chain_counts = some ⟨oc_law_chain_counts, od_law_chain_counts, .func (PySem.W.fnOf "_law_chain_counts" "_law_chain_counts" (defArgs s_law_chain_counts) (defBody s_law_chain_counts) (defScope s_law_chain_counts) .none kV_law_chain_counts dc_law_chain_counts pm_law_chain_counts an_law_chain_counts cd_law_chain_counts ct_law_chain_counts), sl_law_chain_counts⟩)
    (hc_law_chain_counts : PySem.W.codeIn K cd_law_chain_counts "_law_chain_counts" = true)
    (hk_law_chain_counts : PySem.W.keepIn K (.ref v_law_chain_counts) = true)
    (hm_law_chain_at : PySem.W.nsIn K mainGlobals "_law_chain_at" = some (some (.ref v_law_chain_at)))
    (hl_law_chain_at : K.lookup v_law_chain_at = some ⟨oc_law_chain_at, od_law_chain_at, .func (PySem.W.fnOf "_law_chain_at" "_law_chain_at" (defArgs s_law_chain_at) (defBody s_law_chain_at) (defScope s_law_chain_at) .none kV_law_chain_at dc_law_chain_at pm_law_chain_at an_law_chain_at cd_law_chain_at ct_law_chain_at), sl_law_chain_at⟩)
    (hc_law_chain_at : PySem.W.codeIn K cd_law_chain_at "_law_chain_at" = true)
    (hk_law_chain_at : PySem.W.keepIn K (.ref v_law_chain_at) = true)
    (hm_law_chain_met : PySem.W.nsIn K mainGlobals "_law_chain_met" = some (some (.ref v_law_chain_met)))
    (hl_law_chain_met : K.lookup v_law_chain_met = some ⟨oc_law_chain_met, od_law_chain_met, .func (PySem.W.fnOf "_law_chain_met" "_law_chain_met" (defArgs s_law_chain_met) (defBody s_law_chain_met) (defScope s_law_chain_met) .none kV_law_chain_met dc_law_chain_met pm_law_chain_met an_law_chain_met cd_law_chain_met ct_law_chain_met), sl_law_chain_met⟩)
    (hc_law_chain_met : PySem.W.codeIn K cd_law_chain_met "_law_chain_met" = true)
    (hk_law_chain_met : PySem.W.keepIn K (.ref v_law_chain_met) = true)
    (hm_law_great : PySem.W.nsIn K mainGlobals "_law_great" = some (some (.ref v_law_great)))
    (hl_law_great : K.lookup v_law_great = some ⟨oc_law_great, od_law_great, .func (PySem.W.fnOf "_law_great" "_law_great" (defArgs s_law_great) (defBody s_law_great) (defScope s_law_great) .none kV_law_great dc_law_great pm_law_great an_law_great cd_law_great ct_law_great), sl_law_great⟩)
    (hc_law_great : PySem.W.codeIn K cd_law_great "_law_great" = true)
    (hk_law_great : PySem.W.keepIn K (.ref v_law_great) = true)
    (hm_law_length : PySem.W.nsIn K mainGlobals "_law_length" = some (some (.ref v_law_length)))
    (hl_law_length : K.lookup v_law_length = some ⟨oc_law_length, od_law_length, .func (PySem.W.fnOf "_law_length" "_law_length" (defArgs s_law_length) (defBody s_law_length) (defScope s_law_length) .none kV_law_length dc_law_length pm_law_length an_law_length cd_law_length ct_law_length), sl_law_length⟩)
    (hc_law_length : PySem.W.codeIn K cd_law_length "_law_length" = true)
    (hk_law_length : PySem.W.keepIn K (.ref v_law_length) = true)
    (hm_law_met : PySem.W.nsIn K mainGlobals "_law_met" = some (some (.ref v_law_met)))
    (hl_law_met : K.lookup v_law_met = some ⟨oc_law_met, od_law_met, .func (PySem.W.fnOf "_law_met" "_law_met" (defArgs s_law_met) (defBody s_law_met) (defScope s_law_met) .none kV_law_met dc_law_met pm_law_met an_law_met cd_law_met ct_law_met), sl_law_met⟩)
    (hc_law_met : PySem.W.codeIn K cd_law_met "_law_met" = true)
    (hk_law_met : PySem.W.keepIn K (.ref v_law_met) = true)
    (hm_law_refused : PySem.W.nsIn K mainGlobals "_law_refused" = some (some (.ref v_law_refused)))
    (hl_law_refused : K.lookup v_law_refused = some ⟨oc_law_refused, od_law_refused, .func (PySem.W.fnOf "_law_refused" "_law_refused" (defArgs s_law_refused) (defBody s_law_refused) (defScope s_law_refused) .none kV_law_refused dc_law_refused pm_law_refused an_law_refused cd_law_refused ct_law_refused), sl_law_refused⟩)
    (hc_law_refused : PySem.W.codeIn K cd_law_refused "_law_refused" = true)
    (hk_law_refused : PySem.W.keepIn K (.ref v_law_refused) = true)
    (hm_law_drawn_number : PySem.W.nsIn K mainGlobals "_law_drawn_number" = some (some (.ref v_law_drawn_number)))
    (hl_law_drawn_number : K.lookup v_law_drawn_number = some ⟨oc_law_drawn_number, od_law_drawn_number, .func (PySem.W.fnOf "_law_drawn_number" "_law_drawn_number" (defArgs s_law_drawn_number) (defBody s_law_drawn_number) (defScope s_law_drawn_number) .none kV_law_drawn_number dc_law_drawn_number pm_law_drawn_number an_law_drawn_number cd_law_drawn_number ct_law_drawn_number), sl_law_drawn_number⟩)
    (hc_law_drawn_number : PySem.W.codeIn K cd_law_drawn_number "_law_drawn_number" = true)
    (hk_law_drawn_number : PySem.W.keepIn K (.ref v_law_drawn_number) = true)
    (hm_law_spoilt : PySem.W.nsIn K mainGlobals "_law_spoilt" = some (some (.ref v_law_spoilt)))
    (hl_law_spoilt : K.lookup v_law_spoilt = some ⟨oc_law_spoilt, od_law_spoilt, .func (PySem.W.fnOf "_law_spoilt" "_law_spoilt" (defArgs s_law_spoilt) (defBody s_law_spoilt) (defScope s_law_spoilt) .none kV_law_spoilt dc_law_spoilt pm_law_spoilt an_law_spoilt cd_law_spoilt ct_law_spoilt), sl_law_spoilt⟩)
    (hc_law_spoilt : PySem.W.codeIn K cd_law_spoilt "_law_spoilt" = true)
    (hk_law_spoilt : PySem.W.keepIn K (.ref v_law_spoilt) = true)
    (hm_law_moves_fit : PySem.W.nsIn K mainGlobals "_law_moves_fit" = some (some (.ref v_law_moves_fit)))
    (hl_law_moves_fit : K.lookup v_law_moves_fit = some ⟨oc_law_moves_fit, od_law_moves_fit, .func (PySem.W.fnOf "_law_moves_fit" "_law_moves_fit" (defArgs s_law_moves_fit) (defBody s_law_moves_fit) (defScope s_law_moves_fit) .none kV_law_moves_fit dc_law_moves_fit pm_law_moves_fit an_law_moves_fit cd_law_moves_fit ct_law_moves_fit), sl_law_moves_fit⟩)
    (hc_law_moves_fit : PySem.W.codeIn K cd_law_moves_fit "_law_moves_fit" = true)
    (hk_law_moves_fit : PySem.W.keepIn K (.ref v_law_moves_fit) = true)
    (hm_law : PySem.W.nsIn K mainGlobals "law" = some (some (.ref v_law)))
    (hl_law : K.lookup v_law = some ⟨oc_law, od_law, .func (PySem.W.fnOf "law" "law" (defArgs s_law) (defBody s_law) (defScope s_law) .none kV_law dc_law pm_law an_law cd_law ct_law), sl_law⟩)
    (hc_law : PySem.W.codeIn K cd_law "law" = true)
    (hk_law : PySem.W.keepIn K (.ref v_law) = true)
    (hl_BadPlaces___init__ : K.lookup v_BadPlaces___init__ = some ⟨oc_BadPlaces___init__, od_BadPlaces___init__, .func (PySem.W.fnOf "__init__" "BadPlaces.__init__" (defArgs s_BadPlaces___init__) (defBody s_BadPlaces___init__) (defScope s_BadPlaces___init__) .none kV_BadPlaces___init__ dc_BadPlaces___init__ pm_BadPlaces___init__ an_BadPlaces___init__ cd_BadPlaces___init__ ct_BadPlaces___init__), sl_BadPlaces___init__⟩)
    (hc_BadPlaces___init__ : PySem.W.codeIn K cd_BadPlaces___init__ "BadPlaces.__init__" = true)
    (hk_BadPlaces___init__ : PySem.W.keepIn K (.ref v_BadPlaces___init__) = true)
    (hm_MOST_ROOM : PySem.W.nsIn K mainGlobals "MOST_ROOM" = some (some (.int 200 t_MOST_ROOM)))
    (hm_MOST_LENGTH : PySem.W.nsIn K mainGlobals "MOST_LENGTH" = some (some (.int 1000000000000000000000000000000 t_MOST_LENGTH)))
    (hz_ValueError : PySem.W.nsIn K mainGlobals "ValueError" = some none)
    (hz_abs : PySem.W.nsIn K mainGlobals "abs" = some none)
    (hz_all : PySem.W.nsIn K mainGlobals "all" = some none)
    (hz_bool : PySem.W.nsIn K mainGlobals "bool" = some none)
    (hz_enumerate : PySem.W.nsIn K mainGlobals "enumerate" = some none)
    (hz_int : PySem.W.nsIn K mainGlobals "int" = some none)
    (hz_isinstance : PySem.W.nsIn K mainGlobals "isinstance" = some none)
    (hz_len : PySem.W.nsIn K mainGlobals "len" = some none)
    (hz_list : PySem.W.nsIn K mainGlobals "list" = some none)
    (hz_max : PySem.W.nsIn K mainGlobals "max" = some none)
    (hz_min : PySem.W.nsIn K mainGlobals "min" = some none)
    (hz_range : PySem.W.nsIn K mainGlobals "range" = some none)
    (hz_sorted : PySem.W.nsIn K mainGlobals "sorted" = some none)
    (hz_tuple : PySem.W.nsIn K mainGlobals "tuple" = some none)
    (hm_UndoError : PySem.W.nsIn K mainGlobals "UndoError" = some (some (.ref u_c_UndoError))) :
    ∃ fd : FuncData, (∀ (s : Shared) (u : Value), BindsTo s fd ⟨[u], []⟩ [("_law_script", u)]) ∧ ∀ base : Heap, K.In base → base.Ns mainGlobals mg → FnOk P w K mg base (L2.CX P w) 120 fa fd ["_law_script"] (spLaw K) := by
  have e := hfa.symm.trans (PySem.W.mg_of X G hm_law)
  cases e
  have F_is_whole := fun_mk (st := s_is_whole) hl_is_whole hc_is_whole hk_is_whole
  have b_is_whole := F_is_whole.binds (ps := ["thing"]) fun _ _ _ _ _ _ us hl => match us, hl with | [_], _ => rfl
  have F_is_within := fun_mk (st := s_is_within) hl_is_within hc_is_within hk_is_within
  have b_is_within := F_is_within.binds (ps := ["thing", "least", "most"]) fun _ _ _ _ _ _ us hl => match us, hl with | [_, _, _], _ => rfl
  have F_is_sequence := fun_mk (st := s_is_sequence) hl_is_sequence hc_is_sequence hk_is_sequence
  have b_is_sequence := F_is_sequence.binds (ps := ["thing"]) fun _ _ _ _ _ _ us hl => match us, hl with | [_], _ => rfl
  have F_check_room := fun_mk (st := s_check_room) hl_check_room hc_check_room hk_check_room
  have b_check_room := F_check_room.binds (ps := ["room"]) fun _ _ _ _ _ _ us hl => match us, hl with | [_], _ => rfl
  have F_check_length := fun_mk (st := s_check_length) hl_check_length hc_check_length hk_check_length
  have b_check_length := F_check_length.binds (ps := ["length"]) fun _ _ _ _ _ _ us hl => match us, hl with | [_], _ => rfl
  have F_chain_price := fun_mk (st := s_chain_price) hl_chain_price hc_chain_price hk_chain_price
  have b_chain_price := F_chain_price.binds (ps := ["length"]) fun _ _ _ _ _ _ us hl => match us, hl with | [_], _ => rfl
  have F_longest_chain := fun_mk (st := s_longest_chain) hl_longest_chain hc_longest_chain hk_longest_chain
  have b_longest_chain := F_longest_chain.binds (ps := ["cells"]) fun _ _ _ _ _ _ us hl => match us, hl with | [_], _ => rfl
  have F_moves_of := fun_mk (st := s_moves_of) hl_moves_of hc_moves_of hk_moves_of
  have b_moves_of := F_moves_of.binds (ps := ["length", "known"]) fun _ _ _ _ _ _ us hl => match us, hl with | [_, _], _ => rfl
  have F_chain_moves := fun_mk (st := s_chain_moves) hl_chain_moves hc_chain_moves hk_chain_moves
  have b_chain_moves := F_chain_moves.binds (ps := ["length"]) fun _ _ _ _ _ _ us hl => match us, hl with | [_], _ => rfl
  have F_chain_move := fun_mk (st := s_chain_move) hl_chain_move hc_chain_move hk_chain_move
  have b_chain_move := F_chain_move.binds (ps := ["length", "number"]) fun _ _ _ _ _ _ us hl => match us, hl with | [_, _], _ => rfl
  have F_chain_standing := fun_mk (st := s_chain_standing) hl_chain_standing hc_chain_standing hk_chain_standing
  have b_chain_standing := F_chain_standing.binds (ps := ["length", "number"]) fun _ _ _ _ _ _ us hl => match us, hl with | [_, _], _ => rfl
  have F_check_standing := fun_mk (st := s_check_standing) hl_check_standing hc_check_standing hk_check_standing
  have b_check_standing := F_check_standing.binds (ps := ["length", "standing"]) fun _ _ _ _ _ _ us hl => match us, hl with | [_, _], _ => rfl
  have F_chain_number := fun_mk (st := s_chain_number) hl_chain_number hc_chain_number hk_chain_number
  have b_chain_number := F_chain_number.binds (ps := ["length", "standing"]) fun _ _ _ _ _ _ us hl => match us, hl with | [_, _], _ => rfl
  have F_law_hand := fun_mk (st := s_law_hand) hl_law_hand hc_law_hand hk_law_hand
  have b_law_hand := F_law_hand.binds (ps := ["_law_script"]) fun _ _ _ _ _ _ us hl => match us, hl with | [_], _ => rfl
  have F_law_mixed := fun_mk (st := s_law_mixed) hl_law_mixed hc_law_mixed hk_law_mixed
  have b_law_mixed := F_law_mixed.binds (ps := ["_law_number", "_law_turn"]) fun _ _ _ _ _ _ us hl => match us, hl with | [_, _], _ => rfl
  have F_law_take := fun_mk (st := s_law_take) hl_law_take hc_law_take hk_law_take
  have b_law_take := F_law_take.binds (ps := ["_law_hand_here", "_law_many"]) fun _ _ _ _ _ _ us hl => match us, hl with | [_, _], _ => rfl
  have F_law_whole := fun_mk (st := s_law_whole) hl_law_whole hc_law_whole hk_law_whole
  have b_law_whole := F_law_whole.binds (ps := ["_law_thing"]) fun _ _ _ _ _ _ us hl => match us, hl with | [_], _ => rfl
  have F_law_two := fun_mk (st := s_law_two) hl_law_two hc_law_two hk_law_two
  have b_law_two := F_law_two.binds (ps := ["_law_n"]) fun _ _ _ _ _ _ us hl => match us, hl with | [_], _ => rfl
  have F_law_order := fun_mk (st := s_law_order) hl_law_order hc_law_order hk_law_order
  have b_law_order := F_law_order.binds (ps := ["_law_hand_here", "_law_many"]) fun _ _ _ _ _ _ us hl => match us, hl with | [_, _], _ => rfl
  have F_law_places := fun_mk (st := s_law_places) hl_law_places hc_law_places hk_law_places
  have b_law_places := F_law_places.binds (ps := ["_law_thing"]) fun _ _ _ _ _ _ us hl => match us, hl with | [_], _ => rfl
  have F_law_shuffled := fun_mk (st := s_law_shuffled) hl_law_shuffled hc_law_shuffled hk_law_shuffled
  have b_law_shuffled := F_law_shuffled.binds (ps := ["_law_hand_here", "_law_things"]) fun _ _ _ _ _ _ us hl => match us, hl with | [_, _], _ => rfl
  have F_law_chain_counts := fun_mk (st := s_law_chain_counts) hl_law_chain_counts hc_law_chain_counts hk_law_chain_counts
  have b_law_chain_counts := F_law_chain_counts.binds (ps := ["_law_length_here"]) fun _ _ _ _ _ _ us hl => match us, hl with | [_], _ => rfl
  have F_law_chain_at := fun_mk (st := s_law_chain_at) hl_law_chain_at hc_law_chain_at hk_law_chain_at
  have b_law_chain_at := F_law_chain_at.binds (ps := ["_law_counts", "_law_first", "_law_length_here", "_law_number"]) fun _ _ _ _ _ _ us hl => match us, hl with | [_, _, _, _], _ => rfl
  have F_law_chain_met := fun_mk (st := s_law_chain_met) hl_law_chain_met hc_law_chain_met hk_law_chain_met
  have b_law_chain_met := F_law_chain_met.binds (ps := ["_law_counts", "_law_first", "_law_length_here", "_law_filled"]) fun _ _ _ _ _ _ us hl => match us, hl with | [_, _, _, _], _ => rfl
  have F_law_great := fun_mk (st := s_law_great) hl_law_great hc_law_great hk_law_great
  have b_law_great := F_law_great.binds (ps := ["_law_hand_here", "_law_limit"]) fun _ _ _ _ _ _ us hl => match us, hl with | [_, _], _ => rfl
  have F_law_length := fun_mk (st := s_law_length) hl_law_length hc_law_length hk_law_length
  have b_law_length := F_law_length.binds (ps := ["_law_hand_here"]) fun _ _ _ _ _ _ us hl => match us, hl with | [_], _ => rfl
  have F_law_met := fun_mk (st := s_law_met) hl_law_met hc_law_met hk_law_met
  have b_law_met := F_law_met.binds (ps := ["_law_length_here", "_law_standing"]) fun _ _ _ _ _ _ us hl => match us, hl with | [_, _], _ => rfl
  have F_law_refused := fun_mk (st := s_law_refused) hl_law_refused hc_law_refused hk_law_refused
  have b_law_refused := F_law_refused.binds (ps := ["_law_which", "_law_length_here", "_law_number"]) fun _ _ _ _ _ _ us hl => match us, hl with | [_, _, _], _ => rfl
  have F_law_drawn_number := fun_mk (st := s_law_drawn_number) hl_law_drawn_number hc_law_drawn_number hk_law_drawn_number
  have b_law_drawn_number := F_law_drawn_number.binds (ps := ["_law_hand_here", "_law_counts", "_law_length_here"]) fun _ _ _ _ _ _ us hl => match us, hl with | [_, _, _], _ => rfl
  have F_law_spoilt := fun_mk (st := s_law_spoilt) hl_law_spoilt hc_law_spoilt hk_law_spoilt
  have b_law_spoilt := F_law_spoilt.binds (ps := ["_law_hand_here", "_law_length_here", "_law_standing"]) fun _ _ _ _ _ _ us hl => match us, hl with | [_, _, _], _ => rfl
  have F_law_moves_fit := fun_mk (st := s_law_moves_fit) hl_law_moves_fit hc_law_moves_fit hk_law_moves_fit
  have b_law_moves_fit := F_law_moves_fit.binds (ps := ["_law_hand_here", "_law_counts", "_law_length_here", "_law_number"]) fun _ _ _ _ _ _ us hl => match us, hl with | [_, _, _, _], _ => rfl
  have F_law := fun_mk (st := s_law) hl_law hc_law hk_law
  have b_law := F_law.binds (ps := ["_law_script"]) fun _ _ _ _ _ _ us hl => match us, hl with | [_], _ => rfl
  have F_BadPlaces___init__ := fun_mk (st := s_BadPlaces___init__) hl_BadPlaces___init__ hc_BadPlaces___init__ hk_BadPlaces___init__
  have b_BadPlaces___init__ := F_BadPlaces___init__.binds (ps := ["self", "index"]) fun _ _ _ _ _ _ us hl => match us, hl with | [_, _], _ => rfl
  have T : Txt K mg ⟨v_is_whole, (PySem.W.fnOf "is_whole" "is_whole" (defArgs s_is_whole) (defBody s_is_whole) (defScope s_is_whole) .none kV_is_whole dc_is_whole pm_is_whole an_is_whole cd_is_whole ct_is_whole), v_is_within, (PySem.W.fnOf "is_within" "is_within" (defArgs s_is_within) (defBody s_is_within) (defScope s_is_within) .none kV_is_within dc_is_within pm_is_within an_is_within cd_is_within ct_is_within), v_is_sequence, (PySem.W.fnOf "is_sequence" "is_sequence" (defArgs s_is_sequence) (defBody s_is_sequence) (defScope s_is_sequence) .none kV_is_sequence dc_is_sequence pm_is_sequence an_is_sequence cd_is_sequence ct_is_sequence), v_check_room, (PySem.W.fnOf "check_room" "check_room" (defArgs s_check_room) (defBody s_check_room) (defScope s_check_room) .none kV_check_room dc_check_room pm_check_room an_check_room cd_check_room ct_check_room), v_check_length, (PySem.W.fnOf "check_length" "check_length" (defArgs s_check_length) (defBody s_check_length) (defScope s_check_length) .none kV_check_length dc_check_length pm_check_length an_check_length cd_check_length ct_check_length), v_chain_price, (PySem.W.fnOf "chain_price" "chain_price" (defArgs s_chain_price) (defBody s_chain_price) (defScope s_chain_price) .none kV_chain_price dc_chain_price pm_chain_price an_chain_price cd_chain_price ct_chain_price), v_longest_chain, (PySem.W.fnOf "longest_chain" "longest_chain" (defArgs s_longest_chain) (defBody s_longest_chain) (defScope s_longest_chain) .none kV_longest_chain dc_longest_chain pm_longest_chain an_longest_chain cd_longest_chain ct_longest_chain), v_moves_of, (PySem.W.fnOf "moves_of" "moves_of" (defArgs s_moves_of) (defBody s_moves_of) (defScope s_moves_of) .none kV_moves_of dc_moves_of pm_moves_of an_moves_of cd_moves_of ct_moves_of), v_chain_moves, (PySem.W.fnOf "chain_moves" "chain_moves" (defArgs s_chain_moves) (defBody s_chain_moves) (defScope s_chain_moves) .none kV_chain_moves dc_chain_moves pm_chain_moves an_chain_moves cd_chain_moves ct_chain_moves), v_chain_move, (PySem.W.fnOf "chain_move" "chain_move" (defArgs s_chain_move) (defBody s_chain_move) (defScope s_chain_move) .none kV_chain_move dc_chain_move pm_chain_move an_chain_move cd_chain_move ct_chain_move), v_chain_standing, (PySem.W.fnOf "chain_standing" "chain_standing" (defArgs s_chain_standing) (defBody s_chain_standing) (defScope s_chain_standing) .none kV_chain_standing dc_chain_standing pm_chain_standing an_chain_standing cd_chain_standing ct_chain_standing), v_check_standing, (PySem.W.fnOf "check_standing" "check_standing" (defArgs s_check_standing) (defBody s_check_standing) (defScope s_check_standing) .none kV_check_standing dc_check_standing pm_check_standing an_check_standing cd_check_standing ct_check_standing), v_chain_number, (PySem.W.fnOf "chain_number" "chain_number" (defArgs s_chain_number) (defBody s_chain_number) (defScope s_chain_number) .none kV_chain_number dc_chain_number pm_chain_number an_chain_number cd_chain_number ct_chain_number), v_law_hand, (PySem.W.fnOf "_law_hand" "_law_hand" (defArgs s_law_hand) (defBody s_law_hand) (defScope s_law_hand) .none kV_law_hand dc_law_hand pm_law_hand an_law_hand cd_law_hand ct_law_hand), v_law_mixed, (PySem.W.fnOf "_law_mixed" "_law_mixed" (defArgs s_law_mixed) (defBody s_law_mixed) (defScope s_law_mixed) .none kV_law_mixed dc_law_mixed pm_law_mixed an_law_mixed cd_law_mixed ct_law_mixed), v_law_take, (PySem.W.fnOf "_law_take" "_law_take" (defArgs s_law_take) (defBody s_law_take) (defScope s_law_take) .none kV_law_take dc_law_take pm_law_take an_law_take cd_law_take ct_law_take), v_law_whole, (PySem.W.fnOf "_law_whole" "_law_whole" (defArgs s_law_whole) (defBody s_law_whole) (defScope s_law_whole) .none kV_law_whole dc_law_whole pm_law_whole an_law_whole cd_law_whole ct_law_whole), v_law_two, (PySem.W.fnOf "_law_two" "_law_two" (defArgs s_law_two) (defBody s_law_two) (defScope s_law_two) .none kV_law_two dc_law_two pm_law_two an_law_two cd_law_two ct_law_two), v_law_order, (PySem.W.fnOf "_law_order" "_law_order" (defArgs s_law_order) (defBody s_law_order) (defScope s_law_order) .none kV_law_order dc_law_order pm_law_order an_law_order cd_law_order ct_law_order), v_law_places, (PySem.W.fnOf "_law_places" "_law_places" (defArgs s_law_places) (defBody s_law_places) (defScope s_law_places) .none kV_law_places dc_law_places pm_law_places an_law_places cd_law_places ct_law_places), v_law_shuffled, (PySem.W.fnOf "_law_shuffled" "_law_shuffled" (defArgs s_law_shuffled) (defBody s_law_shuffled) (defScope s_law_shuffled) .none kV_law_shuffled dc_law_shuffled pm_law_shuffled an_law_shuffled cd_law_shuffled ct_law_shuffled), v_law_chain_counts, (PySem.W.fnOf "_law_chain_counts" "_law_chain_counts" (defArgs s_law_chain_counts) (defBody s_law_chain_counts) (defScope s_law_chain_counts) .none kV_law_chain_counts dc_law_chain_counts pm_law_chain_counts an_law_chain_counts cd_law_chain_counts ct_law_chain_counts), v_law_chain_at, (PySem.W.fnOf "_law_chain_at" "_law_chain_at" (defArgs s_law_chain_at) (defBody s_law_chain_at) (defScope s_law_chain_at) .none kV_law_chain_at dc_law_chain_at pm_law_chain_at an_law_chain_at cd_law_chain_at ct_law_chain_at), v_law_chain_met, (PySem.W.fnOf "_law_chain_met" "_law_chain_met" (defArgs s_law_chain_met) (defBody s_law_chain_met) (defScope s_law_chain_met) .none kV_law_chain_met dc_law_chain_met pm_law_chain_met an_law_chain_met cd_law_chain_met ct_law_chain_met), v_law_great, (PySem.W.fnOf "_law_great" "_law_great" (defArgs s_law_great) (defBody s_law_great) (defScope s_law_great) .none kV_law_great dc_law_great pm_law_great an_law_great cd_law_great ct_law_great), v_law_length, (PySem.W.fnOf "_law_length" "_law_length" (defArgs s_law_length) (defBody s_law_length) (defScope s_law_length) .none kV_law_length dc_law_length pm_law_length an_law_length cd_law_length ct_law_length), v_law_met, (PySem.W.fnOf "_law_met" "_law_met" (defArgs s_law_met) (defBody s_law_met) (defScope s_law_met) .none kV_law_met dc_law_met pm_law_met an_law_met cd_law_met ct_law_met), v_law_refused, (PySem.W.fnOf "_law_refused" "_law_refused" (defArgs s_law_refused) (defBody s_law_refused) (defScope s_law_refused) .none kV_law_refused dc_law_refused pm_law_refused an_law_refused cd_law_refused ct_law_refused), v_law_drawn_number, (PySem.W.fnOf "_law_drawn_number" "_law_drawn_number" (defArgs s_law_drawn_number) (defBody s_law_drawn_number) (defScope s_law_drawn_number) .none kV_law_drawn_number dc_law_drawn_number pm_law_drawn_number an_law_drawn_number cd_law_drawn_number ct_law_drawn_number), v_law_spoilt, (PySem.W.fnOf "_law_spoilt" "_law_spoilt" (defArgs s_law_spoilt) (defBody s_law_spoilt) (defScope s_law_spoilt) .none kV_law_spoilt dc_law_spoilt pm_law_spoilt an_law_spoilt cd_law_spoilt ct_law_spoilt), v_law_moves_fit, (PySem.W.fnOf "_law_moves_fit" "_law_moves_fit" (defArgs s_law_moves_fit) (defBody s_law_moves_fit) (defScope s_law_moves_fit) .none kV_law_moves_fit dc_law_moves_fit pm_law_moves_fit an_law_moves_fit cd_law_moves_fit ct_law_moves_fit), fa, (PySem.W.fnOf "law" "law" (defArgs s_law) (defBody s_law) (defScope s_law) .none kV_law dc_law pm_law an_law cd_law ct_law), u_c_UndoError, w_BadPlaces, w_BadRoom, w_BadLength, w_BadNumber, w_NeverStands, v_BadPlaces___init__, (PySem.W.fnOf "__init__" "BadPlaces.__init__" (defArgs s_BadPlaces___init__) (defBody s_BadPlaces___init__) (defScope s_BadPlaces___init__) .none kV_BadPlaces___init__ dc_BadPlaces___init__ pm_BadPlaces___init__ an_BadPlaces___init__ cd_BadPlaces___init__ ct_BadPlaces___init__)⟩ := ⟨PySem.W.mg_of X G hm_is_whole, F_is_whole, b_is_whole, PySem.W.mg_of X G hm_is_within, F_is_within, b_is_within, PySem.W.mg_of X G hm_is_sequence, F_is_sequence, b_is_sequence, PySem.W.mg_of X G hm_check_room, F_check_room, b_check_room, PySem.W.mg_of X G hm_check_length, F_check_length, b_check_length, PySem.W.mg_of X G hm_chain_price, F_chain_price, b_chain_price, PySem.W.mg_of X G hm_longest_chain, F_longest_chain, b_longest_chain, PySem.W.mg_of X G hm_moves_of, F_moves_of, b_moves_of, PySem.W.mg_of X G hm_chain_moves, F_chain_moves, b_chain_moves, PySem.W.mg_of X G hm_chain_move, F_chain_move, b_chain_move, PySem.W.mg_of X G hm_chain_standing, F_chain_standing, b_chain_standing, PySem.W.mg_of X G hm_check_standing, F_check_standing, b_check_standing, PySem.W.mg_of X G hm_chain_number, F_chain_number, b_chain_number, PySem.W.mg_of X G hm_law_hand, F_law_hand, b_law_hand, PySem.W.mg_of X G hm_law_mixed, F_law_mixed, b_law_mixed, PySem.W.mg_of X G hm_law_take, F_law_take, b_law_take, PySem.W.mg_of X G hm_law_whole, F_law_whole, b_law_whole, PySem.W.mg_of X G hm_law_two, F_law_two, b_law_two, PySem.W.mg_of X G hm_law_order, F_law_order, b_law_order, PySem.W.mg_of X G hm_law_places, F_law_places, b_law_places, PySem.W.mg_of X G hm_law_shuffled, F_law_shuffled, b_law_shuffled, PySem.W.mg_of X G hm_law_chain_counts, F_law_chain_counts, b_law_chain_counts, PySem.W.mg_of X G hm_law_chain_at, F_law_chain_at, b_law_chain_at, PySem.W.mg_of X G hm_law_chain_met, F_law_chain_met, b_law_chain_met, PySem.W.mg_of X G hm_law_great, F_law_great, b_law_great, PySem.W.mg_of X G hm_law_length, F_law_length, b_law_length, PySem.W.mg_of X G hm_law_met, F_law_met, b_law_met, PySem.W.mg_of X G hm_law_refused, F_law_refused, b_law_refused, PySem.W.mg_of X G hm_law_drawn_number, F_law_drawn_number, b_law_drawn_number, PySem.W.mg_of X G hm_law_spoilt, F_law_spoilt, b_law_spoilt, PySem.W.mg_of X G hm_law_moves_fit, F_law_moves_fit, b_law_moves_fit, PySem.W.mg_of X G hm_law, F_law, b_law, PySem.W.mg_of X G hm_BadPlaces, ⟨⟨_, _, _, _, _, _, _, _, _, _, _, _, _, _, _, xl_BadPlaces, xv_BadPlaces⟩, xs_BadPlaces, xb_BadPlaces, xy_BadPlaces, xk_BadPlaces⟩, ⟨xg_BadPlaces, xh_BadPlaces, xb_BadPlaces, xd_BadPlaces⟩, hxi_BadPlaces, hxt_BadPlaces, exm_self xb_BadPlaces xc_BadPlaces xy_BadPlaces xz_BadPlaces, hxn_BadPlaces_index, F_BadPlaces___init__, b_BadPlaces___init__, PySem.W.mg_of X G hm_BadRoom, xq_BadRoom, xk_BadRoom, xb_BadRoom, xy_BadRoom, exm_self xb_BadRoom xc_BadRoom xy_BadRoom xz_BadRoom, PySem.W.mg_of X G hm_BadLength, xq_BadLength, xk_BadLength, xb_BadLength, xy_BadLength, exm_self xb_BadLength xc_BadLength xy_BadLength xz_BadLength, PySem.W.mg_of X G hm_BadNumber, xq_BadNumber, xk_BadNumber, xb_BadNumber, xy_BadNumber, exm_self xb_BadNumber xc_BadNumber xy_BadNumber xz_BadNumber, PySem.W.mg_of X G hm_NeverStands, xq_NeverStands, xk_NeverStands, xb_NeverStands, xy_NeverStands, exm_self xb_NeverStands xc_NeverStands xy_NeverStands xz_NeverStands, ⟨_, PySem.W.mg_of X G hm_MOST_ROOM, ⟨_, rfl⟩⟩, ⟨_, PySem.W.mg_of X G hm_MOST_LENGTH, ⟨_, rfl⟩⟩, PySem.W.mg_none_of X G hz_ValueError, PySem.W.mg_none_of X G hz_abs, PySem.W.mg_none_of X G hz_all, PySem.W.mg_none_of X G hz_bool, PySem.W.mg_none_of X G hz_enumerate, PySem.W.mg_none_of X G hz_int, PySem.W.mg_none_of X G hz_isinstance, PySem.W.mg_none_of X G hz_len, PySem.W.mg_none_of X G hz_list, PySem.W.mg_none_of X G hz_max, PySem.W.mg_none_of X G hz_min, PySem.W.mg_none_of X G hz_range, PySem.W.mg_none_of X G hz_sorted, PySem.W.mg_none_of X G hz_tuple⟩
  have TE : Txe K ⟨v_is_whole, (PySem.W.fnOf "is_whole" "is_whole" (defArgs s_is_whole) (defBody s_is_whole) (defScope s_is_whole) .none kV_is_whole dc_is_whole pm_is_whole an_is_whole cd_is_whole ct_is_whole), v_is_within, (PySem.W.fnOf "is_within" "is_within" (defArgs s_is_within) (defBody s_is_within) (defScope s_is_within) .none kV_is_within dc_is_within pm_is_within an_is_within cd_is_within ct_is_within), v_is_sequence, (PySem.W.fnOf "is_sequence" "is_sequence" (defArgs s_is_sequence) (defBody s_is_sequence) (defScope s_is_sequence) .none kV_is_sequence dc_is_sequence pm_is_sequence an_is_sequence cd_is_sequence ct_is_sequence), v_check_room, (PySem.W.fnOf "check_room" "check_room" (defArgs s_check_room) (defBody s_check_room) (defScope s_check_room) .none kV_check_room dc_check_room pm_check_room an_check_room cd_check_room ct_check_room), v_check_length, (PySem.W.fnOf "check_length" "check_length" (defArgs s_check_length) (defBody s_check_length) (defScope s_check_length) .none kV_check_length dc_check_length pm_check_length an_check_length cd_check_length ct_check_length), v_chain_price, (PySem.W.fnOf "chain_price" "chain_price" (defArgs s_chain_price) (defBody s_chain_price) (defScope s_chain_price) .none kV_chain_price dc_chain_price pm_chain_price an_chain_price cd_chain_price ct_chain_price), v_longest_chain, (PySem.W.fnOf "longest_chain" "longest_chain" (defArgs s_longest_chain) (defBody s_longest_chain) (defScope s_longest_chain) .none kV_longest_chain dc_longest_chain pm_longest_chain an_longest_chain cd_longest_chain ct_longest_chain), v_moves_of, (PySem.W.fnOf "moves_of" "moves_of" (defArgs s_moves_of) (defBody s_moves_of) (defScope s_moves_of) .none kV_moves_of dc_moves_of pm_moves_of an_moves_of cd_moves_of ct_moves_of), v_chain_moves, (PySem.W.fnOf "chain_moves" "chain_moves" (defArgs s_chain_moves) (defBody s_chain_moves) (defScope s_chain_moves) .none kV_chain_moves dc_chain_moves pm_chain_moves an_chain_moves cd_chain_moves ct_chain_moves), v_chain_move, (PySem.W.fnOf "chain_move" "chain_move" (defArgs s_chain_move) (defBody s_chain_move) (defScope s_chain_move) .none kV_chain_move dc_chain_move pm_chain_move an_chain_move cd_chain_move ct_chain_move), v_chain_standing, (PySem.W.fnOf "chain_standing" "chain_standing" (defArgs s_chain_standing) (defBody s_chain_standing) (defScope s_chain_standing) .none kV_chain_standing dc_chain_standing pm_chain_standing an_chain_standing cd_chain_standing ct_chain_standing), v_check_standing, (PySem.W.fnOf "check_standing" "check_standing" (defArgs s_check_standing) (defBody s_check_standing) (defScope s_check_standing) .none kV_check_standing dc_check_standing pm_check_standing an_check_standing cd_check_standing ct_check_standing), v_chain_number, (PySem.W.fnOf "chain_number" "chain_number" (defArgs s_chain_number) (defBody s_chain_number) (defScope s_chain_number) .none kV_chain_number dc_chain_number pm_chain_number an_chain_number cd_chain_number ct_chain_number), v_law_hand, (PySem.W.fnOf "_law_hand" "_law_hand" (defArgs s_law_hand) (defBody s_law_hand) (defScope s_law_hand) .none kV_law_hand dc_law_hand pm_law_hand an_law_hand cd_law_hand ct_law_hand), v_law_mixed, (PySem.W.fnOf "_law_mixed" "_law_mixed" (defArgs s_law_mixed) (defBody s_law_mixed) (defScope s_law_mixed) .none kV_law_mixed dc_law_mixed pm_law_mixed an_law_mixed cd_law_mixed ct_law_mixed), v_law_take, (PySem.W.fnOf "_law_take" "_law_take" (defArgs s_law_take) (defBody s_law_take) (defScope s_law_take) .none kV_law_take dc_law_take pm_law_take an_law_take cd_law_take ct_law_take), v_law_whole, (PySem.W.fnOf "_law_whole" "_law_whole" (defArgs s_law_whole) (defBody s_law_whole) (defScope s_law_whole) .none kV_law_whole dc_law_whole pm_law_whole an_law_whole cd_law_whole ct_law_whole), v_law_two, (PySem.W.fnOf "_law_two" "_law_two" (defArgs s_law_two) (defBody s_law_two) (defScope s_law_two) .none kV_law_two dc_law_two pm_law_two an_law_two cd_law_two ct_law_two), v_law_order, (PySem.W.fnOf "_law_order" "_law_order" (defArgs s_law_order) (defBody s_law_order) (defScope s_law_order) .none kV_law_order dc_law_order pm_law_order an_law_order cd_law_order ct_law_order), v_law_places, (PySem.W.fnOf "_law_places" "_law_places" (defArgs s_law_places) (defBody s_law_places) (defScope s_law_places) .none kV_law_places dc_law_places pm_law_places an_law_places cd_law_places ct_law_places), v_law_shuffled, (PySem.W.fnOf "_law_shuffled" "_law_shuffled" (defArgs s_law_shuffled) (defBody s_law_shuffled) (defScope s_law_shuffled) .none kV_law_shuffled dc_law_shuffled pm_law_shuffled an_law_shuffled cd_law_shuffled ct_law_shuffled), v_law_chain_counts, (PySem.W.fnOf "_law_chain_counts" "_law_chain_counts" (defArgs s_law_chain_counts) (defBody s_law_chain_counts) (defScope s_law_chain_counts) .none kV_law_chain_counts dc_law_chain_counts pm_law_chain_counts an_law_chain_counts cd_law_chain_counts ct_law_chain_counts), v_law_chain_at, (PySem.W.fnOf "_law_chain_at" "_law_chain_at" (defArgs s_law_chain_at) (defBody s_law_chain_at) (defScope s_law_chain_at) .none kV_law_chain_at dc_law_chain_at pm_law_chain_at an_law_chain_at cd_law_chain_at ct_law_chain_at), v_law_chain_met, (PySem.W.fnOf "_law_chain_met" "_law_chain_met" (defArgs s_law_chain_met) (defBody s_law_chain_met) (defScope s_law_chain_met) .none kV_law_chain_met dc_law_chain_met pm_law_chain_met an_law_chain_met cd_law_chain_met ct_law_chain_met), v_law_great, (PySem.W.fnOf "_law_great" "_law_great" (defArgs s_law_great) (defBody s_law_great) (defScope s_law_great) .none kV_law_great dc_law_great pm_law_great an_law_great cd_law_great ct_law_great), v_law_length, (PySem.W.fnOf "_law_length" "_law_length" (defArgs s_law_length) (defBody s_law_length) (defScope s_law_length) .none kV_law_length dc_law_length pm_law_length an_law_length cd_law_length ct_law_length), v_law_met, (PySem.W.fnOf "_law_met" "_law_met" (defArgs s_law_met) (defBody s_law_met) (defScope s_law_met) .none kV_law_met dc_law_met pm_law_met an_law_met cd_law_met ct_law_met), v_law_refused, (PySem.W.fnOf "_law_refused" "_law_refused" (defArgs s_law_refused) (defBody s_law_refused) (defScope s_law_refused) .none kV_law_refused dc_law_refused pm_law_refused an_law_refused cd_law_refused ct_law_refused), v_law_drawn_number, (PySem.W.fnOf "_law_drawn_number" "_law_drawn_number" (defArgs s_law_drawn_number) (defBody s_law_drawn_number) (defScope s_law_drawn_number) .none kV_law_drawn_number dc_law_drawn_number pm_law_drawn_number an_law_drawn_number cd_law_drawn_number ct_law_drawn_number), v_law_spoilt, (PySem.W.fnOf "_law_spoilt" "_law_spoilt" (defArgs s_law_spoilt) (defBody s_law_spoilt) (defScope s_law_spoilt) .none kV_law_spoilt dc_law_spoilt pm_law_spoilt an_law_spoilt cd_law_spoilt ct_law_spoilt), v_law_moves_fit, (PySem.W.fnOf "_law_moves_fit" "_law_moves_fit" (defArgs s_law_moves_fit) (defBody s_law_moves_fit) (defScope s_law_moves_fit) .none kV_law_moves_fit dc_law_moves_fit pm_law_moves_fit an_law_moves_fit cd_law_moves_fit ct_law_moves_fit), fa, (PySem.W.fnOf "law" "law" (defArgs s_law) (defBody s_law) (defScope s_law) .none kV_law dc_law pm_law an_law cd_law ct_law), u_c_UndoError, w_BadPlaces, w_BadRoom, w_BadLength, w_BadNumber, w_NeverStands, v_BadPlaces___init__, (PySem.W.fnOf "__init__" "BadPlaces.__init__" (defArgs s_BadPlaces___init__) (defBody s_BadPlaces___init__) (defScope s_BadPlaces___init__) .none kV_BadPlaces___init__ dc_BadPlaces___init__ pm_BadPlaces___init__ an_BadPlaces___init__ cd_BadPlaces___init__ ct_BadPlaces___init__)⟩ := ⟨exm_no xb_BadLength xc_BadLength xy_BadLength no_BadPlaces_BadLength, exm_no xb_BadLength xc_BadLength xy_BadLength no_NeverStands_BadLength, exm_no xb_BadPlaces xc_BadPlaces xy_BadPlaces no_NeverStands_BadPlaces, exm_no xb_BadLength xc_BadLength xy_BadLength no_BadNumber_BadLength, exm_no xb_BadLength xc_BadLength xy_BadLength no_BadRoom_BadLength, exm_no xb_BadNumber xc_BadNumber xy_BadNumber no_BadRoom_BadNumber⟩
  exact ⟨(PySem.W.fnOf "law" "law" (defArgs s_law) (defBody s_law) (defScope s_law) .none kV_law dc_law pm_law an_law cd_law ct_law), fun s u => .of_eq rfl, fun base _ _ => ok_law T TE⟩
theorem walk {l : PySem.W.OpenLaw} {q : Program} {loose : List Str} {XP : (Str → Option Value) → Heap → Prop} {YP : World → Heap → Prop} {d : DefRec} {K : Params → PySem.W.Frag} (hn : l.most = some 63) (hdf : d.params.defaults = [])
    (hY : ∀ (w : World) (h : Heap), YP w h → (K w.params).In h)
    (F : ∀ (w : World) (mg : Str → Option Value) (fa : Addr) (h : Heap), (K w.params).In h → h.Ns mainGlobals mg → mg d.name = some (.ref fa) →
      ∃ fd : FuncData, (∀ (s : Shared) (u : Value), BindsTo s fd ⟨[u], []⟩ [("_law_script", u)]) ∧ ∀ base : Heap, (K w.params).In base → base.Ns mainGlobals mg → FnOk l.prog w (K w.params) mg base (L2.CX l.prog w) 120 fa fd ["_law_script"] (spLaw (K w.params))) :
    PySem.W.WalkO q loose XP YP l.row.toRowW d [] (fun f vs => PySem.call f vs) :=
  L2.walk_of (n := 63) (k := 120) (x := "_law_script") (CX := (fun w => L2.CX l.prog w)) (sp := fun w => spLaw (K w.params)) hn (by decide) hdf ⟨rfl, by decide, by decide⟩ hY F (fun _ _ a ns hl _ hS => ⟨a, ns, rfl, hS, hl, fun _ => rfl⟩) fun _ _ _ _ _ ⟨_, _, _, _, _, _, _, _, _, _, _, _, z⟩ => z
end My
open PySem PySem.W PyProof.Rows in
set_option maxRecDepth 100000 in
set_option maxHeartbeats 0 in
theorem PySem.Challenge.cw_undocells_k23_chains_of_thirty_digits_holds : PySem.Challenge.rw_undocells_k23_chains_of_thirty_digits.Holds := by
  w_on; o_law; k_head; (case hw => w_witness2)
  k_fill
  refine My.walk (l := PySem.Challenge.rw_undocells_k23_chains_of_thirty_digits) rfl rfl (fun w h Y => PySem.W.kIn_of Y) ?F
  case F =>
    intro w mg fa h KX G hmg
    refine' My.all_mk KX G hmg ?hm_BadPlaces ?hm_BadRoom ?hm_BadLength ?hm_BadNumber ?hm_NeverStands ?xl_BadPlaces ?xv_BadPlaces ?xs_BadPlaces ?xg_BadPlaces ?xh_BadPlaces ?xk_BadPlaces ?xb_BadPlaces ?xy_BadPlaces ?xd_BadPlaces ?xc_BadPlaces ?xz_BadPlaces ?xq_BadRoom ?xk_BadRoom ?xb_BadRoom ?xy_BadRoom ?xc_BadRoom ?xz_BadRoom ?xq_BadLength ?xk_BadLength ?xb_BadLength ?xy_BadLength ?xc_BadLength ?xz_BadLength ?xq_BadNumber ?xk_BadNumber ?xb_BadNumber ?xy_BadNumber ?xc_BadNumber ?xz_BadNumber ?xq_NeverStands ?xk_NeverStands ?xb_NeverStands ?xy_NeverStands ?xc_NeverStands ?xz_NeverStands ?hxi_BadPlaces ?hxt_BadPlaces ?hxn_BadPlaces_index ?no_BadPlaces_BadLength ?no_NeverStands_BadLength ?no_NeverStands_BadPlaces ?no_BadNumber_BadLength ?no_BadRoom_BadLength ?no_BadRoom_BadNumber ?hm_is_whole ?hl_is_whole ?hc_is_whole ?hk_is_whole ?hm_is_within ?hl_is_within ?hc_is_within ?hk_is_within ?hm_is_sequence ?hl_is_sequence ?hc_is_sequence ?hk_is_sequence ?hm_check_room ?hl_check_room ?hc_check_room ?hk_check_room ?hm_check_length ?hl_check_length ?hc_check_length ?hk_check_length ?hm_chain_price ?hl_chain_price ?hc_chain_price ?hk_chain_price ?hm_longest_chain ?hl_longest_chain ?hc_longest_chain ?hk_longest_chain ?hm_moves_of ?hl_moves_of ?hc_moves_of ?hk_moves_of ?hm_chain_moves ?hl_chain_moves ?hc_chain_moves ?hk_chain_moves ?hm_chain_move ?hl_chain_move ?hc_chain_move ?hk_chain_move ?hm_chain_standing ?hl_chain_standing ?hc_chain_standing ?hk_chain_standing ?hm_check_standing ?hl_check_standing ?hc_check_standing ?hk_check_standing ?hm_chain_number ?hl_chain_number ?hc_chain_number ?hk_chain_number ?hm_law_hand ?hl_law_hand ?hc_law_hand ?hk_law_hand ?hm_law_mixed ?hl_law_mixed ?hc_law_mixed ?hk_law_mixed ?hm_law_take ?hl_law_take ?hc_law_take ?hk_law_take ?hm_law_whole ?hl_law_whole ?hc_law_whole ?hk_law_whole ?hm_law_two ?hl_law_two ?hc_law_two ?hk_law_two ?hm_law_order ?hl_law_order ?hc_law_order ?hk_law_order ?hm_law_places ?hl_law_places ?hc_law_places ?hk_law_places ?hm_law_shuffled ?hl_law_shuffled ?hc_law_shuffled ?hk_law_shuffled ?hm_law_chain_counts ?hl_law_chain_counts ?hc_law_chain_counts ?hk_law_chain_counts ?hm_law_chain_at ?hl_law_chain_at ?hc_law_chain_at ?hk_law_chain_at ?hm_law_chain_met ?hl_law_chain_met ?hc_law_chain_met ?hk_law_chain_met ?hm_law_great ?hl_law_great ?hc_law_great ?hk_law_great ?hm_law_length ?hl_law_length ?hc_law_length ?hk_law_length ?hm_law_met ?hl_law_met ?hc_law_met ?hk_law_met ?hm_law_refused ?hl_law_refused ?hc_law_refused ?hk_law_refused ?hm_law_drawn_number ?hl_law_drawn_number ?hc_law_drawn_number ?hk_law_drawn_number ?hm_law_spoilt ?hl_law_spoilt ?hc_law_spoilt ?hk_law_spoilt ?hm_law_moves_fit ?hl_law_moves_fit ?hc_law_moves_fit ?hk_law_moves_fit ?hm_law ?hl_law ?hc_law ?hk_law ?hl_BadPlaces___init__ ?hc_BadPlaces___init__ ?hk_BadPlaces___init__ ?hm_MOST_ROOM ?hm_MOST_LENGTH ?hz_ValueError ?hz_abs ?hz_all ?hz_bool ?hz_enumerate ?hz_int ?hz_isinstance ?hz_len ?hz_list ?hz_max ?hz_min ?hz_range ?hz_sorted ?hz_tuple ?hm_UndoError
    (case hm_BadPlaces => k_is)
    (case hm_BadRoom => k_is)
    (case hm_BadLength => k_is)
    (case hm_BadNumber => k_is)
    (case hm_NeverStands => k_is)
    (case xl_BadPlaces => k_is)
    (case xv_BadPlaces => decide +kernel)
    (case xs_BadPlaces => k_is)
    (case xg_BadPlaces => k_is)
    (case xh_BadPlaces => k_is)
    (case xk_BadPlaces => k_is)
    (case xb_BadPlaces => k_is)
    (case xy_BadPlaces => k_is)
    (case xd_BadPlaces => k_is)
    (case xc_BadPlaces => k_is)
    (case xz_BadPlaces => first | rfl | k_is)
    (case xq_BadRoom => k_exc)
    (case xk_BadRoom => k_is)
    (case xb_BadRoom => k_is)
    (case xy_BadRoom => k_is)
    (case xc_BadRoom => k_is)
    (case xz_BadRoom => first | rfl | k_is)
    (case xq_BadLength => k_exc)
    (case xk_BadLength => k_is)
    (case xb_BadLength => k_is)
    (case xy_BadLength => k_is)
    (case xc_BadLength => k_is)
    (case xz_BadLength => first | rfl | k_is)
    (case xq_BadNumber => k_exc)
    (case xk_BadNumber => k_is)
    (case xb_BadNumber => k_is)
    (case xy_BadNumber => k_is)
    (case xc_BadNumber => k_is)
    (case xz_BadNumber => first | rfl | k_is)
    (case xq_NeverStands => k_exc)
    (case xk_NeverStands => k_is)
    (case xb_NeverStands => k_is)
    (case xy_NeverStands => k_is)
    (case xc_NeverStands => k_is)
    (case xz_NeverStands => first | rfl | k_is)
    (case hxi_BadPlaces => k_is)
    (case hxt_BadPlaces => k_is)
    (case hxn_BadPlaces_index => k_is)
    (case no_BadPlaces_BadLength => first | rfl | k_is)
    (case no_NeverStands_BadLength => first | rfl | k_is)
    (case no_NeverStands_BadPlaces => first | rfl | k_is)
    (case no_BadNumber_BadLength => first | rfl | k_is)
    (case no_BadRoom_BadLength => first | rfl | k_is)
    (case no_BadRoom_BadNumber => first | rfl | k_is)
    (case hm_is_whole => k_is)
    (case hl_is_whole => k_is)
    (case hc_is_whole => k_is)
    (case hk_is_whole => k_is)
    (case hm_is_within => k_is)
    (case hl_is_within => k_is)
    (case hc_is_within => k_is)
    (case hk_is_within => k_is)
    (case hm_is_sequence => k_is)
    (case hl_is_sequence => k_is)
    (case hc_is_sequence => k_is)
    (case hk_is_sequence => k_is)
    (case hm_check_room => k_is)
    (case hl_check_room => k_is)
    (case hc_check_room => k_is)
    (case hk_check_room => k_is)
    (case hm_check_length => k_is)
    (case hl_check_length => k_is)
    (case hc_check_length => k_is)
    (case hk_check_length => k_is)
    (case hm_chain_price => k_is)
    (case hl_chain_price => k_is)
    (case hc_chain_price => k_is)
    (case hk_chain_price => k_is)
    (case hm_longest_chain => k_is)
    (case hl_longest_chain => k_is)
    (case hc_longest_chain => k_is)
    (case hk_longest_chain => k_is)
    (case hm_moves_of => k_is)
    (case hl_moves_of => k_is)
    (case hc_moves_of => k_is)
    (case hk_moves_of => k_is)
    (case hm_chain_moves => k_is)
    (case hl_chain_moves => k_is)
    (case hc_chain_moves => k_is)
    (case hk_chain_moves => k_is)
    (case hm_chain_move => k_is)
    (case hl_chain_move => k_is)
    (case hc_chain_move => k_is)
    (case hk_chain_move => k_is)
    (case hm_chain_standing => k_is)
    (case hl_chain_standing => k_is)
    (case hc_chain_standing => k_is)
    (case hk_chain_standing => k_is)
    (case hm_check_standing => k_is)
    (case hl_check_standing => k_is)
    (case hc_check_standing => k_is)
    (case hk_check_standing => k_is)
    (case hm_chain_number => k_is)
    (case hl_chain_number => k_is)
    (case hc_chain_number => k_is)
    (case hk_chain_number => k_is)
    (case hm_law_hand => k_is)
    (case hl_law_hand => k_is)
    (case hc_law_hand => k_is)
    (case hk_law_hand => k_is)
    (case hm_law_mixed => k_is)
    (case hl_law_mixed => k_is)
    (case hc_law_mixed => k_is)
    (case hk_law_mixed => k_is)
    (case hm_law_take => k_is)
    (case hl_law_take => k_is)
    (case hc_law_take => k_is)
    (case hk_law_take => k_is)
    (case hm_law_whole => k_is)
    (case hl_law_whole => k_is)
    (case hc_law_whole => k_is)
    (case hk_law_whole => k_is)
    (case hm_law_two => k_is)
    (case hl_law_two => k_is)
    (case hc_law_two => k_is)
    (case hk_law_two => k_is)
    (case hm_law_order => k_is)
    (case hl_law_order => k_is)
    (case hc_law_order => k_is)
    (case hk_law_order => k_is)
    (case hm_law_places => k_is)
    (case hl_law_places => k_is)
    (case hc_law_places => k_is)
    (case hk_law_places => k_is)
    (case hm_law_shuffled => k_is)
    (case hl_law_shuffled => k_is)
    (case hc_law_shuffled => k_is)
    (case hk_law_shuffled => k_is)
    (case hm_law_chain_counts => k_is)
    (case hl_law_chain_counts => k_is)
    (case hc_law_chain_counts => k_is)
    (case hk_law_chain_counts => k_is)
    (case hm_law_chain_at => k_is)
    (case hl_law_chain_at => k_is)
    (case hc_law_chain_at => k_is)
    (case hk_law_chain_at => k_is)
    (case hm_law_chain_met => k_is)
    (case hl_law_chain_met => k_is)
    (case hc_law_chain_met => k_is)
    (case hk_law_chain_met => k_is)
    (case hm_law_great => k_is)
    (case hl_law_great => k_is)
    (case hc_law_great => k_is)
    (case hk_law_great => k_is)
    (case hm_law_length => k_is)
    (case hl_law_length => k_is)
    (case hc_law_length => k_is)
    (case hk_law_length => k_is)
    (case hm_law_met => k_is)
    (case hl_law_met => k_is)
    (case hc_law_met => k_is)
    (case hk_law_met => k_is)
    (case hm_law_refused => k_is)
    (case hl_law_refused => k_is)
    (case hc_law_refused => k_is)
    (case hk_law_refused => k_is)
    (case hm_law_drawn_number => k_is)
    (case hl_law_drawn_number => k_is)
    (case hc_law_drawn_number => k_is)
    (case hk_law_drawn_number => k_is)
    (case hm_law_spoilt => k_is)
    (case hl_law_spoilt => k_is)
    (case hc_law_spoilt => k_is)
    (case hk_law_spoilt => k_is)
    (case hm_law_moves_fit => k_is)
    (case hl_law_moves_fit => k_is)
    (case hc_law_moves_fit => k_is)
    (case hk_law_moves_fit => k_is)
    (case hm_law => k_is)
    (case hl_law => k_is)
    (case hc_law => k_is)
    (case hk_law => k_is)
    (case hl_BadPlaces___init__ => k_is)
    (case hc_BadPlaces___init__ => k_is)
    (case hk_BadPlaces___init__ => k_is)
    (case hm_MOST_ROOM => k_is)
    (case hm_MOST_LENGTH => k_is)
    (case hz_ValueError => k_is)
    (case hz_abs => k_is)
    (case hz_all => k_is)
    (case hz_bool => k_is)
    (case hz_enumerate => k_is)
    (case hz_int => k_is)
    (case hz_isinstance => k_is)
    (case hz_len => k_is)
    (case hz_list => k_is)
    (case hz_max => k_is)
    (case hz_min => k_is)
    (case hz_range => k_is)
    (case hz_sorted => k_is)
    (case hz_tuple => k_is)
    (case hm_UndoError => k_is)
#print axioms PySem.Challenge.cw_undocells_k23_chains_of_thirty_digits_holds
