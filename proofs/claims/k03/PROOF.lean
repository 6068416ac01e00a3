import PyProof.Rows.All
import Wide.All
import OpenK.AllK
import Wide.FinOn
import HandS.ForMost
import HandS.Exc
import HandS.TryOnly
import HandS.ExcOwn
import HandS.WordsExc
import HandS.ExcInit
import HandS.ExcField
import HandS.IsInst
import HandS.Evl
import HandS.Deep
import HandS.WideBits
import HandS.Codes
import PySem.Challenge.RW_undocells_k03_words_of_steps
import HandS.TupMul
import KE.GoesEnum
import KE.GoesMore
set_option Elab.async false
set_option linter.all false
set_option maxRecDepth 100000
set_option maxHeartbeats 4000000
namespace My
open PySem PySem.Spec PyProof.Rows L2
def top (i : Nat) : Stmt := PySem.Challenge.pw_undocells_k03_words_of_steps.main.body.getD i (.Pass ⟨0, 0, 0, 0⟩)
abbrev s_is_whole : Stmt := top 1
theorem sc_is_whole : FnScope ["thing"] ["thing"] (defScope s_is_whole) := ⟨rfl, rfl, rfl, by decide +kernel, rfl, by decide +kernel, by decide +kernel⟩
abbrev s_is_within : Stmt := top 2
theorem sc_is_within : FnScope ["thing", "least", "most"] ["thing", "least", "most"] (defScope s_is_within) := ⟨rfl, rfl, rfl, by decide +kernel, rfl, by decide +kernel, by decide +kernel⟩
abbrev s_is_sequence : Stmt := top 3
theorem sc_is_sequence : FnScope ["thing"] ["thing"] (defScope s_is_sequence) := ⟨rfl, rfl, rfl, by decide +kernel, rfl, by decide +kernel, by decide +kernel⟩
abbrev s_check_width : Stmt := top 15
theorem sc_check_width : FnScope ["width"] ["width"] (defScope s_check_width) := ⟨rfl, rfl, rfl, by decide +kernel, rfl, by decide +kernel, by decide +kernel⟩
abbrev s_check_inputs : Stmt := top 16
theorem sc_check_inputs : FnScope ["inputs", "many", "width", "index", "word"] ["inputs", "many", "width"] (defScope s_check_inputs) := ⟨rfl, rfl, rfl, by decide +kernel, rfl, by decide +kernel, by decide +kernel⟩
abbrev s_is_number : Stmt := top 17
theorem sc_is_number : FnScope ["thing"] ["thing"] (defScope s_is_number) := ⟨rfl, rfl, rfl, by decide +kernel, rfl, by decide +kernel, by decide +kernel⟩
abbrev s_is_table : Stmt := top 18
theorem sc_is_table : FnScope ["numbers", "n"] ["numbers"] (defScope s_is_table) := ⟨rfl, rfl, rfl, by decide +kernel, rfl, by decide +kernel, by decide +kernel⟩
abbrev s_check_kind : Stmt := top 19
theorem sc_check_kind : FnScope ["kind"] ["kind"] (defScope s_check_kind) := ⟨rfl, rfl, rfl, by decide +kernel, rfl, by decide +kernel, by decide +kernel⟩
abbrev s_operand_count : Stmt := top 20
theorem sc_operand_count : FnScope ["kind"] ["kind"] (defScope s_operand_count) := ⟨rfl, rfl, rfl, by decide +kernel, rfl, by decide +kernel, by decide +kernel⟩
abbrev s_step_word : Stmt := top 21
theorem sc_step_word : FnScope ["kind", "words", "width", "most"] ["kind", "words", "width"] (defScope s_step_word) := ⟨rfl, rfl, rfl, by decide +kernel, rfl, by decide +kernel, by decide +kernel⟩
abbrev s_pair_word : Stmt := top 22
theorem sc_pair_word : FnScope ["sign", "one", "other"] ["sign", "one", "other"] (defScope s_pair_word) := ⟨rfl, rfl, rfl, by decide +kernel, rfl, by decide +kernel, by decide +kernel⟩
abbrev s_single_word : Stmt := top 23
theorem sc_single_word : FnScope ["kind", "word"] ["kind", "word"] (defScope s_single_word) := ⟨rfl, rfl, rfl, by decide +kernel, rfl, by decide +kernel, by decide +kernel⟩
abbrev s_law_hand : Stmt := top 25
theorem sc_law_hand : FnScope ["_law_script", "_law_total", "_law_cells", "_law_cell"] ["_law_script"] (defScope s_law_hand) := ⟨rfl, rfl, rfl, by decide +kernel, rfl, by decide +kernel, by decide +kernel⟩
abbrev s_law_mixed : Stmt := top 26
theorem sc_law_mixed : FnScope ["_law_number", "_law_turn", "_law_once", "_law_twice"] ["_law_number", "_law_turn"] (defScope s_law_mixed) := ⟨rfl, rfl, rfl, by decide +kernel, rfl, by decide +kernel, by decide +kernel⟩
abbrev s_law_take : Stmt := top 27
theorem sc_law_take : FnScope ["_law_hand_here", "_law_many", "_law_cell", "_law_rest"] ["_law_hand_here", "_law_many"] (defScope s_law_take) := ⟨rfl, rfl, rfl, by decide +kernel, rfl, by decide +kernel, by decide +kernel⟩
abbrev s_law_whole : Stmt := top 28
theorem sc_law_whole : FnScope ["_law_thing"] ["_law_thing"] (defScope s_law_whole) := ⟨rfl, rfl, rfl, by decide +kernel, rfl, by decide +kernel, by decide +kernel⟩
abbrev s_law_two : Stmt := top 29
theorem sc_law_two : FnScope ["_law_n", "_law_total", "_law_k"] ["_law_n"] (defScope s_law_two) := ⟨rfl, rfl, rfl, by decide +kernel, rfl, by decide +kernel, by decide +kernel⟩
abbrev s_law_kind : Stmt := top 30
theorem sc_law_kind : FnScope ["_law_hand_here", "_law_at", "_law_k"] ["_law_hand_here"] (defScope s_law_kind) := ⟨rfl, rfl, rfl, by decide +kernel, rfl, by decide +kernel, by decide +kernel⟩
abbrev s_law_operands : Stmt := top 31
theorem sc_law_operands : FnScope ["_law_kind_here"] ["_law_kind_here"] (defScope s_law_operands) := ⟨rfl, rfl, rfl, by decide +kernel, rfl, by decide +kernel, by decide +kernel⟩
abbrev s_law_bits : Stmt := top 32
theorem sc_law_bits : FnScope ["_law_one", "_law_other", "_law_sign", "_law_total", "_law_worth", "_law_k", "_law_a", "_law_b", "_law_on"] ["_law_one", "_law_other", "_law_sign"] (defScope s_law_bits) := ⟨rfl, rfl, rfl, by decide +kernel, rfl, by decide +kernel, by decide +kernel⟩
abbrev s_law_step_word : Stmt := top 33
theorem sc_law_step_word : FnScope ["_law_kind_here", "_law_words_here", "_law_width", "_law_end", "_law_sign"] ["_law_kind_here", "_law_words_here", "_law_width"] (defScope s_law_step_word) := ⟨rfl, rfl, rfl, by decide +kernel, rfl, by decide +kernel, by decide +kernel⟩
abbrev s_law_words : Stmt := top 34
theorem sc_law_words : FnScope ["_law_hand_here", "_law_many", "_law_width", "_law_k"] ["_law_hand_here", "_law_many", "_law_width"] (defScope s_law_words) := ⟨rfl, rfl, rfl, by decide +kernel, rfl, by decide +kernel, by decide +kernel⟩
abbrev s_law_rows_of : Stmt := top 35
theorem sc_law_rows_of : FnScope ["_law_hand_here", "_law_many", "_law_width", "_law_end", "_law_told", "_law_k"] ["_law_hand_here", "_law_many", "_law_width"] (defScope s_law_rows_of) := ⟨rfl, rfl, rfl, by decide +kernel, rfl, by decide +kernel, by decide +kernel⟩
abbrev s_law_longer : Stmt := top 36
theorem sc_law_longer : FnScope ["_law_rows", "_law_end", "_law_told", "_law_row", "_law_word"] ["_law_rows", "_law_end"] (defScope s_law_longer) := ⟨rfl, rfl, rfl, by decide +kernel, rfl, by decide +kernel, by decide +kernel⟩
abbrev s_law_odd_kind : Stmt := top 37
theorem sc_law_odd_kind : FnScope ["_law_hand_here", "_law_at", "_law_n", "_law_odd"] ["_law_hand_here", "_law_at"] (defScope s_law_odd_kind) := ⟨rfl, rfl, rfl, by decide +kernel, rfl, by decide +kernel, by decide +kernel⟩
abbrev s_law_refused_kind : Stmt := top 38
theorem sc_law_refused_kind : FnScope ["_law_kind_here"] ["_law_kind_here"] (defScope s_law_refused_kind) := ⟨rfl, rfl, rfl, by decide +kernel, rfl, by decide +kernel, by decide +kernel⟩
abbrev s_law_refused_width : Stmt := top 39
theorem sc_law_refused_width : FnScope ["_law_width"] ["_law_width"] (defScope s_law_refused_width) := ⟨rfl, rfl, rfl, by decide +kernel, rfl, by decide +kernel, by decide +kernel⟩
abbrev s_law_refused_inputs : Stmt := top 40
theorem sc_law_refused_inputs : FnScope ["_law_inputs", "_law_many", "_law_width", "e"] ["_law_inputs", "_law_many", "_law_width"] (defScope s_law_refused_inputs) := ⟨rfl, rfl, rfl, by decide +kernel, rfl, by decide +kernel, by decide +kernel⟩
abbrev s_law : Stmt := top 41
theorem sc_law : FnScope ["_law_script", "_law_hand_here", "_law_turn", "_law_kind_here", "_law_width", "_law_many", "_law_handed", "_law_checked", "_law_row", "_law_word", "_law_odd", "_law_inputs", "_law_good", "_law_at", "_law_later", "_law_spoiled"] ["_law_script"] (defScope s_law) := ⟨rfl, rfl, rfl, by decide +kernel, rfl, by decide +kernel, by decide +kernel⟩
abbrev s_BadInputs___init__ : Stmt := inClass (top 7) 0
theorem sc_BadInputs___init__ : FnScope ["self", "index", "what"] ["self", "index", "what"] (defScope s_BadInputs___init__) := ⟨rfl, rfl, rfl, by decide +kernel, rfl, by decide +kernel, by decide +kernel⟩
structure Ad where
  f_is_whole : Addr
  d_is_whole : FuncData
  f_is_within : Addr
  d_is_within : FuncData
  f_is_sequence : Addr
  d_is_sequence : FuncData
  f_check_width : Addr
  d_check_width : FuncData
  f_check_inputs : Addr
  d_check_inputs : FuncData
  f_is_number : Addr
  d_is_number : FuncData
  f_is_table : Addr
  d_is_table : FuncData
  f_check_kind : Addr
  d_check_kind : FuncData
  f_operand_count : Addr
  d_operand_count : FuncData
  f_step_word : Addr
  d_step_word : FuncData
  f_pair_word : Addr
  d_pair_word : FuncData
  f_single_word : Addr
  d_single_word : FuncData
  f_law_hand : Addr
  d_law_hand : FuncData
  f_law_mixed : Addr
  d_law_mixed : FuncData
  f_law_take : Addr
  d_law_take : FuncData
  f_law_whole : Addr
  d_law_whole : FuncData
  f_law_two : Addr
  d_law_two : FuncData
  f_law_kind : Addr
  d_law_kind : FuncData
  f_law_operands : Addr
  d_law_operands : FuncData
  f_law_bits : Addr
  d_law_bits : FuncData
  f_law_step_word : Addr
  d_law_step_word : FuncData
  f_law_words : Addr
  d_law_words : FuncData
  f_law_rows_of : Addr
  d_law_rows_of : FuncData
  f_law_longer : Addr
  d_law_longer : FuncData
  f_law_odd_kind : Addr
  d_law_odd_kind : FuncData
  f_law_refused_kind : Addr
  d_law_refused_kind : FuncData
  f_law_refused_width : Addr
  d_law_refused_width : FuncData
  f_law_refused_inputs : Addr
  d_law_refused_inputs : FuncData
  f_law : Addr
  d_law : FuncData
  c_UndoError : Addr
  c_BadWidth : Addr
  c_BadInputs : Addr
  c_BadKind : Addr
  f_BadInputs___init__ : Addr
  d_BadInputs___init__ : FuncData
  p_TABLE_SIZES : Addr
  p_PAIR_SIGNS : Addr
  p_SHIFT_SIGNS : Addr
structure Txt (K : PySem.W.Frag) (mg : Str → Option Value) (a : Ad) : Prop where
  m_is_whole : mg "is_whole" = some (.ref a.f_is_whole)
  F_is_whole : Fun K "is_whole" "is_whole" s_is_whole a.f_is_whole a.d_is_whole
  b_is_whole : Binds K a.d_is_whole ["thing"] []
  m_is_within : mg "is_within" = some (.ref a.f_is_within)
  F_is_within : Fun K "is_within" "is_within" s_is_within a.f_is_within a.d_is_within
  b_is_within : Binds K a.d_is_within ["thing", "least", "most"] []
  m_is_sequence : mg "is_sequence" = some (.ref a.f_is_sequence)
  F_is_sequence : Fun K "is_sequence" "is_sequence" s_is_sequence a.f_is_sequence a.d_is_sequence
  b_is_sequence : Binds K a.d_is_sequence ["thing"] []
  m_check_width : mg "check_width" = some (.ref a.f_check_width)
  F_check_width : Fun K "check_width" "check_width" s_check_width a.f_check_width a.d_check_width
  b_check_width : Binds K a.d_check_width ["width"] []
  m_check_inputs : mg "check_inputs" = some (.ref a.f_check_inputs)
  F_check_inputs : Fun K "check_inputs" "check_inputs" s_check_inputs a.f_check_inputs a.d_check_inputs
  b_check_inputs : Binds K a.d_check_inputs ["inputs", "many", "width"] []
  m_is_number : mg "is_number" = some (.ref a.f_is_number)
  F_is_number : Fun K "is_number" "is_number" s_is_number a.f_is_number a.d_is_number
  b_is_number : Binds K a.d_is_number ["thing"] []
  m_is_table : mg "is_table" = some (.ref a.f_is_table)
  F_is_table : Fun K "is_table" "is_table" s_is_table a.f_is_table a.d_is_table
  b_is_table : Binds K a.d_is_table ["numbers"] []
  m_check_kind : mg "check_kind" = some (.ref a.f_check_kind)
  F_check_kind : Fun K "check_kind" "check_kind" s_check_kind a.f_check_kind a.d_check_kind
  b_check_kind : Binds K a.d_check_kind ["kind"] []
  m_operand_count : mg "operand_count" = some (.ref a.f_operand_count)
  F_operand_count : Fun K "operand_count" "operand_count" s_operand_count a.f_operand_count a.d_operand_count
  b_operand_count : Binds K a.d_operand_count ["kind"] []
  m_step_word : mg "step_word" = some (.ref a.f_step_word)
  F_step_word : Fun K "step_word" "step_word" s_step_word a.f_step_word a.d_step_word
  b_step_word : Binds K a.d_step_word ["kind", "words", "width"] []
  m_pair_word : mg "pair_word" = some (.ref a.f_pair_word)
  F_pair_word : Fun K "pair_word" "pair_word" s_pair_word a.f_pair_word a.d_pair_word
  b_pair_word : Binds K a.d_pair_word ["sign", "one", "other"] []
  m_single_word : mg "single_word" = some (.ref a.f_single_word)
  F_single_word : Fun K "single_word" "single_word" s_single_word a.f_single_word a.d_single_word
  b_single_word : Binds K a.d_single_word ["kind", "word"] []
  m_law_hand : mg "_law_hand" = some (.ref a.f_law_hand)
  F_law_hand : Fun K "_law_hand" "_law_hand" s_law_hand a.f_law_hand a.d_law_hand
  b_law_hand : Binds K a.d_law_hand ["_law_script"] []
  m_law_mixed : mg "_law_mixed" = some (.ref a.f_law_mixed)
  F_law_mixed : Fun K "_law_mixed" "_law_mixed" s_law_mixed a.f_law_mixed a.d_law_mixed
  b_law_mixed : Binds K a.d_law_mixed ["_law_number", "_law_turn"] []
  m_law_take : mg "_law_take" = some (.ref a.f_law_take)
  F_law_take : Fun K "_law_take" "_law_take" s_law_take a.f_law_take a.d_law_take
  b_law_take : Binds K a.d_law_take ["_law_hand_here", "_law_many"] []
  m_law_whole : mg "_law_whole" = some (.ref a.f_law_whole)
  F_law_whole : Fun K "_law_whole" "_law_whole" s_law_whole a.f_law_whole a.d_law_whole
  b_law_whole : Binds K a.d_law_whole ["_law_thing"] []
  m_law_two : mg "_law_two" = some (.ref a.f_law_two)
  F_law_two : Fun K "_law_two" "_law_two" s_law_two a.f_law_two a.d_law_two
  b_law_two : Binds K a.d_law_two ["_law_n"] []
  m_law_kind : mg "_law_kind" = some (.ref a.f_law_kind)
  F_law_kind : Fun K "_law_kind" "_law_kind" s_law_kind a.f_law_kind a.d_law_kind
  b_law_kind : Binds K a.d_law_kind ["_law_hand_here"] []
  m_law_operands : mg "_law_operands" = some (.ref a.f_law_operands)
  F_law_operands : Fun K "_law_operands" "_law_operands" s_law_operands a.f_law_operands a.d_law_operands
  b_law_operands : Binds K a.d_law_operands ["_law_kind_here"] []
  m_law_bits : mg "_law_bits" = some (.ref a.f_law_bits)
  F_law_bits : Fun K "_law_bits" "_law_bits" s_law_bits a.f_law_bits a.d_law_bits
  b_law_bits : Binds K a.d_law_bits ["_law_one", "_law_other", "_law_sign"] []
  m_law_step_word : mg "_law_step_word" = some (.ref a.f_law_step_word)
  F_law_step_word : Fun K "_law_step_word" "_law_step_word" s_law_step_word a.f_law_step_word a.d_law_step_word
  b_law_step_word : Binds K a.d_law_step_word ["_law_kind_here", "_law_words_here", "_law_width"] []
  m_law_words : mg "_law_words" = some (.ref a.f_law_words)
  F_law_words : Fun K "_law_words" "_law_words" s_law_words a.f_law_words a.d_law_words
  b_law_words : Binds K a.d_law_words ["_law_hand_here", "_law_many", "_law_width"] []
  m_law_rows_of : mg "_law_rows_of" = some (.ref a.f_law_rows_of)
  F_law_rows_of : Fun K "_law_rows_of" "_law_rows_of" s_law_rows_of a.f_law_rows_of a.d_law_rows_of
  b_law_rows_of : Binds K a.d_law_rows_of ["_law_hand_here", "_law_many", "_law_width"] []
  m_law_longer : mg "_law_longer" = some (.ref a.f_law_longer)
  F_law_longer : Fun K "_law_longer" "_law_longer" s_law_longer a.f_law_longer a.d_law_longer
  b_law_longer : Binds K a.d_law_longer ["_law_rows", "_law_end"] []
  m_law_odd_kind : mg "_law_odd_kind" = some (.ref a.f_law_odd_kind)
  F_law_odd_kind : Fun K "_law_odd_kind" "_law_odd_kind" s_law_odd_kind a.f_law_odd_kind a.d_law_odd_kind
  b_law_odd_kind : Binds K a.d_law_odd_kind ["_law_hand_here", "_law_at"] []
  m_law_refused_kind : mg "_law_refused_kind" = some (.ref a.f_law_refused_kind)
  F_law_refused_kind : Fun K "_law_refused_kind" "_law_refused_kind" s_law_refused_kind a.f_law_refused_kind a.d_law_refused_kind
  b_law_refused_kind : Binds K a.d_law_refused_kind ["_law_kind_here"] []
  m_law_refused_width : mg "_law_refused_width" = some (.ref a.f_law_refused_width)
  F_law_refused_width : Fun K "_law_refused_width" "_law_refused_width" s_law_refused_width a.f_law_refused_width a.d_law_refused_width
  b_law_refused_width : Binds K a.d_law_refused_width ["_law_width"] []
  m_law_refused_inputs : mg "_law_refused_inputs" = some (.ref a.f_law_refused_inputs)
  F_law_refused_inputs : Fun K "_law_refused_inputs" "_law_refused_inputs" s_law_refused_inputs a.f_law_refused_inputs a.d_law_refused_inputs
  b_law_refused_inputs : Binds K a.d_law_refused_inputs ["_law_inputs", "_law_many", "_law_width"] []
  m_law : mg "law" = some (.ref a.f_law)
  F_law : Fun K "law" "law" s_law a.f_law a.d_law
  b_law : Binds K a.d_law ["_law_script"] []
  m_BadInputs : mg "BadInputs" = some (.ref a.c_BadInputs)
  x_BadInputs : OexC K a.c_BadInputs
  xf_BadInputs : XfC K a.c_BadInputs
  xi_BadInputs : PySem.W.findIn K (.ref a.c_BadInputs) "__init__" = some (some (.ref a.f_BadInputs___init__))
  xt_BadInputs : PySem.W.typeIn K (.ref a.f_BadInputs___init__) = some (.type "function")
  xe_BadInputs : PySem.W.exmOne K (.ref a.c_BadInputs) (.ref a.c_BadInputs) = some true
  xn_BadInputs_index : PySem.W.findIn K (.ref a.c_BadInputs) "index" = some none
  xn_BadInputs_what : PySem.W.findIn K (.ref a.c_BadInputs) "what" = some none
  F_BadInputs___init__ : Fun K "__init__" "BadInputs.__init__" s_BadInputs___init__ a.f_BadInputs___init__ a.d_BadInputs___init__
  b_BadInputs___init__ : Binds K a.d_BadInputs___init__ ["self", "index", "what"] []
  m_BadKind : mg "BadKind" = some (.ref a.c_BadKind)
  q_BadKind : PySem.W.excIn K a.c_BadKind [.type "ValueError", .type "Exception", .type "BaseException", .type "object"] "ValueError.__new__" = true
  k_BadKind : PySem.W.keepIn K (.ref a.c_BadKind) = true
  sb_BadKind : PySem.W.subIn K (.ref a.c_BadKind) (.type "BaseException") = some true
  ty_BadKind : PySem.W.typeIn K (.ref a.c_BadKind) = some (.type "type")
  xe_BadKind : PySem.W.exmOne K (.ref a.c_BadKind) (.ref a.c_BadKind) = some true
  m_BadWidth : mg "BadWidth" = some (.ref a.c_BadWidth)
  q_BadWidth : PySem.W.excIn K a.c_BadWidth [.type "ValueError", .type "Exception", .type "BaseException", .type "object"] "ValueError.__new__" = true
  k_BadWidth : PySem.W.keepIn K (.ref a.c_BadWidth) = true
  sb_BadWidth : PySem.W.subIn K (.ref a.c_BadWidth) (.type "BaseException") = some true
  ty_BadWidth : PySem.W.typeIn K (.ref a.c_BadWidth) = some (.type "type")
  xe_BadWidth : PySem.W.exmOne K (.ref a.c_BadWidth) (.ref a.c_BadWidth) = some true
  g_MOST_WIDTH : ∃ u, mg "MOST_WIDTH" = some u ∧ RelV (.int 12) u
  g_MOST_NUMBER : ∃ u, mg "MOST_NUMBER" = some u ∧ RelV (.int 4095) u
  g_TABLE_SIZES : ∃ u, mg "TABLE_SIZES" = some u ∧ RelV (.ref a.p_TABLE_SIZES) u
  t_TABLE_SIZES : ∀ H, SqT K H a.p_TABLE_SIZES [.int 1, .int 2, .int 4, .int 8, .int 16]
  g_PAIR_SIGNS : ∃ u, mg "PAIR_SIGNS" = some u ∧ RelV (.ref a.p_PAIR_SIGNS) u
  t_PAIR_SIGNS : ∀ H, SqT K H a.p_PAIR_SIGNS [.str "+", .str "-", .str "*", .str "&", .str "|", .str "^", .str "==", .str "<"]
  g_SHIFT_SIGNS : ∃ u, mg "SHIFT_SIGNS" = some u ∧ RelV (.ref a.p_SHIFT_SIGNS) u
  t_SHIFT_SIGNS : ∀ H, SqT K H a.p_SHIFT_SIGNS [.str "<<", .str ">>"]
  z_abs : mg "abs" = none
  z_all : mg "all" = none
  z_bool : mg "bool" = none
  z_enumerate : mg "enumerate" = none
  z_int : mg "int" = none
  z_isinstance : mg "isinstance" = none
  z_len : mg "len" = none
  z_list : mg "list" = none
  z_range : mg "range" = none
  z_str : mg "str" = none
  z_tuple : mg "tuple" = none
/-! ### steps of readings -/
theorem cx_K {CX : CXT} {P : Program} {w : World} {K : PySem.W.Frag} {mg : Str → Option Value} {base : Heap} {N : List Str} {qual : Str} {scope : Scope} {f : Addr} {cd : Value} {A : Around} {outer : List Env} {s : Shared} {H : Hp} {E : XK} :
    (cxOf CX P w K mg base N qual scope f cd A outer s H E).K = K := rfl
theorem ixl {K : PySem.W.Frag} {H : Hp} {p : Addr} {xs : List V} {i : Int} {v : V} {Q : VK} (h : SqL K H p xs) (e : atI xs i = some v) (q : Q v H) : rIxL K (.ref p) (.int i) H Q := ⟨p, xs, i, v, rfl, rfl, h, e, q⟩
theorem setl {H : Hp} {p : Addr} {xs : List V} {k : Int} {j : Nat} {v : V} {Q : Hp → Prop} (h : H p = some (.lst xs)) (e : ixN xs.length k = some j) (q : Q (upd H p (.lst (xs.set j v)))) : rSetL (.ref p) (.int k) v H Q := ⟨p, xs, k, j, rfl, rfl, h, e, q⟩
theorem atI_int {ns : List Int} {i : Int} (h0 : 0 ≤ i) (h1 : i < (ns.length : Int)) : ∃ z, z ∈ ns ∧ atI (ns.map V.int) i = some (.int z) := by
  obtain ⟨k, rfl⟩ : ∃ k : Nat, i = (k : Int) := ⟨i.toNat, by omega⟩
  have hk : k < ns.length := by omega
  exact ⟨ns[k], List.getElem_mem hk, atI_nat (by rw [List.getElem?_map, List.getElem?_eq_getElem hk] <;> rfl)⟩
theorem str1 {a b : Nat} : ((⟨#[a]⟩ : Str) = ⟨#[b]⟩) = (a = b) := by
  apply propext
  constructor
  · intro h
    have q : (#[a] : Array Nat) = #[b] := congrArg Str.cps h
    have q2 : ([a] : List Nat) = [b] := congrArg Array.toList q
    exact (List.cons.inj q2).1
  · intro h; rw [h]
theorem int_at {ns : List Int} {i : Nat} {x : V} (h : (ns.map V.int)[i]? = some x) : ∃ z, ns[i]? = some z ∧ x = .int z := by
  rw [List.getElem?_map] at h
  cases e : ns[i]? with
  | none => rw [e] at h; cases h
  | some z => rw [e] at h; exact ⟨z, rfl, (Option.some.inj h).symm⟩
/-- C(x, ..) made: what is asked once the arguments stand -/
def mkO (C : Addr) (sp : Sp) (dvs : List V) (vs : List V) (H1 : Hp) (Q : XK) : Prop := vs.length ≤ 1000 ∧ ∀ e, H1 e = none → sp (.ref e :: (vs ++ dvs)) (upd H1 e (exo e C none))
  (fun v H2 => v = .non ∧ ∃ (d : Addr) (fs : List (Str × V)), H2 e = some (exo e C (some d)) ∧ H2 d = some (exd d fs) ∧ H1 d = none ∧ Q (.ref C) (some d) (upd (del H2 e) d (.xd fs))) (fun _ _ _ => False)
theorem tMkO_eq {C : Addr} {sp : Sp} {dvs : List V} {ta : TA} : tMkO C sp dvs ta = fun σ H Q => ta σ H fun vs H1 => mkO C sp dvs vs H1 Q := rfl
/-- what a comprehension asks behind its iterator's making -/
def LcG (J : It) (g : TG) (tt : TT) (te : TE) (vs : List Nat) (σ : L2.St) (Q : VK) (H1 : Hp) : Prop := ∀ D, H1 D = none → ∃ W : Nat → Nat → Hp → Prop, (∃ m, W 0 m (upd H1 D (.lst []))) ∧ ∀ i m H, W i m H →
  (J.stop i H ∧ Q (.ref D) H) ∨ (J.go i H ∧ ∃ Nx : Hp → Prop, (∀ H', Nx H' → ∃ m', m' < m ∧ W (i + 1) m' H') ∧ ∀ x H', J.yld i H x H' → g x (wipe σ vs) H' fun σ2 H2 => wipe σ2 vs = wipe σ vs ∧ tt σ2 H2 fun b H3 =>
    if b = true then te σ2 H3 fun y H4 => ∃ acc, H4 D = some (.lst acc) ∧ acc.length < sizeLine ∧ Nx (upd H4 D (.lst (acc ++ [y]))) else Nx H3)
theorem tLc_eq {wi : TI} {g : TG} {tt : TT} {te : TE} {vs : List Nat} : tLc wi g tt te vs = fun σ H Q => wi σ H fun J H1 => LcG J g tt te vs σ Q H1 := rfl
theorem lcg_range {lo : Int} {n : Nat} {g : TG} {tt : TT} {te : TE} {vs : List Nat} {σ : L2.St} {H1 : Hp} {Q : VK} (Pv : Addr → Nat → Hp → Prop) (h0 : ∀ D, H1 D = none → Pv D 0 (upd H1 D (.lst [])))
    (hs : ∀ D i H, H1 D = none → i < n → Pv D i H → g (.int (lo + i)) (wipe σ vs) H fun σ2 H2 => wipe σ2 vs = wipe σ vs ∧ tt σ2 H2 fun b H3 =>
      if b = true then te σ2 H3 fun y H4 => ∃ acc, H4 D = some (.lst acc) ∧ acc.length < sizeLine ∧ Pv D (i + 1) (upd H4 D (.lst (acc ++ [y]))) else Pv D (i + 1) H3) (hd : ∀ D H, H1 D = none → Pv D n H → Q (.ref D) H) : LcG (Itr lo n) g tt te vs σ Q H1 :=
  fun D hD => lc_range (Qd := fun H => Q (.ref D) H) (Pv D) (h0 D hD) (fun i H hi h => hs D i H hD hi h) fun H h => hd D H hD h
theorem lcg_list {K : PySem.W.Frag} {a : Addr} {xs : List V} {g : TG} {tt : TT} {te : TE} {vs : List Nat} {σ : L2.St} {H1 : Hp} {Q : VK} (Pv : Addr → Nat → Hp → Prop) (h0 : ∀ D, H1 D = none → Pv D 0 (upd H1 D (.lst []))) (hl : ∀ D i H, H1 D = none → i ≤ xs.length → Pv D i H → SqL K H a xs)
    (hs : ∀ D i x H, H1 D = none → xs[i]? = some x → Pv D i H → g x (wipe σ vs) H fun σ2 H2 => wipe σ2 vs = wipe σ vs ∧ tt σ2 H2 fun b H3 =>
      if b = true then te σ2 H3 fun y H4 => ∃ acc, H4 D = some (.lst acc) ∧ acc.length < sizeLine ∧ Pv D (i + 1) (upd H4 D (.lst (acc ++ [y]))) else Pv D (i + 1) H3) (hd : ∀ D H, H1 D = none → Pv D xs.length H → Q (.ref D) H) : LcG (Itl K a) g tt te vs σ Q H1 :=
  fun D hD => lc_list (Qd := fun H => Q (.ref D) H) (Pv D) (h0 D hD) (fun i H hi h => hl D i H hD hi h) (fun i x H hi h => hs D i x H hD hi h) fun H h => hd D H hD h
local macro_rules | `(tactic| walk_at "cmul") => `(tactic| first | exact .inl ⟨by omega, by omega⟩ | exact .inr ⟨by omega, by omega⟩)
local macro_rules | `(tactic| walk_at "r1") => `(tactic| first | refine ⟨_, rfl, ?_⟩ | refine ⟨_, _, rfl, rfl, ?_⟩ | refine Or.inl ⟨_, rfl, ?_⟩)
local macro_rules | `(tactic| walk_at "sm") => `(tactic| try simp only [tSeq, tAsg, tRet, tRetN, tDrop, tOp, tUn, tVar, tC, tCB, tCons, tNil, tLst, tTup, tTest, tB, tAnd, tOr, tNot, tAndV, tOrV, tNotV, tIf, tIfS, tNext, tCont, tBreak, tCall, tCallS, WE, tXf, rI0, rI, rU, gName, gNil, gCons, gTup, gSub, tAug, tBM, tBM0, tM1, rNewStrs, tLc_eq, iRng1, iRng2, iList, iTup, tYes, wipe, List.foldl_cons, List.foldl_nil, rEq, rNe, scal, rIxS, rSlS, tSl, tPart, tNoPart, tChain, ipI, str1, tMkO_eq, L2.start, List.map_cons, List.map_nil, List.append_nil, List.cons_append, List.nil_append, List.length_cons, List.length_nil, List.drop, List.replicate, List.getElem?_cons_zero, List.getElem?_cons_succ, List.set_cons_zero, List.set_cons_succ, Option.some.injEq, V.int.injEq, V.str.injEq, V.ref.injEq, V.bl.injEq, List.cons.injEq, reduceCtorEq, false_and, and_false, exists_false, or_false, false_or, exists_eq_left', exists_eq_left, and_assoc, cx_K, exists_and_left, exists_and_right, and_true, true_and, decide_eq_true_eq, if_true, if_false, Bool.false_eq_true])
local macro_rules | `(tactic| walk_at "rm") => `(tactic| refine ⟨by walk_at "cmul", ?_⟩)

/-! ### a target that is a field of an exception that is being made -/
def gOst (K : PySem.W.Frag) (f : Str) (to : TE) : TG := fun y σ H Q => to σ H fun x H2 => ∃ a C : Addr, x = .ref a ∧ OexC K C ∧ PySem.W.findIn K (.ref C) f = some none ∧
  ((H2 a = some (exo a C none) ∧ ∀ dx, H2 dx = none → dx ≠ a → Q σ (upd (upd H2 dx (exd dx [(f, y)])) a (exo a C (some dx)))) ∨
    ∃ (dx : Addr) (fs : List (Str × V)), H2 a = some (exo a C (some dx)) ∧ H2 dx = some (exd dx fs) ∧ fs.length ≤ 900 ∧ Q σ (upd H2 dx (exd dx ((f, y) :: fs))))
theorem pg_ost {X : Cx} {o : Expr} {to : TE} {f : Str} {pos : Pos} (ho : PE X o to) : PG X (.Attribute o f pos) (gOst X.K f to) := by
  refine ⟨fun pins s σ H v u Q I r h => ?_⟩
  rw [assign_Attribute]
  refine wpAny_bind (wpAny_holding (thn (ho.run pins s σ H _ I h) fun ov s1 ⟨x, H1, I1, r1, q1⟩ => ?_))
  refine wpAny_bind (wpAny_standAt (wpAny_bind (wpAny_holding ?_)))
  obtain ⟨a, C, rfl, T, hno, q⟩ := q1
  obtain rfl : ov = Value.ref a := r1
  rcases q with ⟨ea, q⟩ | ⟨dx, fs, ea, ed, hl, q⟩
  · exact ost_new T I1 ea hno r fun dx s' n ne J => wpAny_release ⟨σ, _, J, q dx n ne⟩
  · exact ost_old T I1 ea ed hl hno r fun s' J => wpAny_release ⟨σ, _, J, q⟩

/-- all but p is kept -/
def Fr (p : Addr) (H H' : Hp) : Prop := ∀ b o, b ≠ p → H b = some o → H' b = some o
theorem Fr.refl {p : Addr} (H : Hp) : Fr p H H := fun _ _ _ h => h
theorem Fr.trans {p : Addr} {H H1 H2 : Hp} (a : Fr p H H1) (b : Fr p H1 H2) : Fr p H H2 := fun c o n h => b c o n (a c o n h)
theorem Fr.of {p : Addr} {H H1 : Hp} (a : Evl.Ex H H1) : Fr p H H1 := fun c o _ h => a c o h
theorem Fr.upd {p : Addr} {H : Hp} {o : HO} : Fr p H (upd H p o) := fun c u n h => by rw [upd_ne n]; exact h
/-- what is not known of H stays so -/
def spInit2 (C : Addr) (f1 f2 : Str) : Sp := fun vs H Q _ => ∃ (e : Addr) (x y : V), vs = [.ref e, x, y] ∧ H e = some (exo e C none) ∧
  ∀ (d : Addr) (H' : Hp), H d = none → d ≠ e → Fr e H H' → H' e = some (exo e C (some d)) → H' d = some (exd d [(f2, y), (f1, x)]) → Q .non H'
/-- what is asked where C(x, y) is raised -/
theorem mk2 {C : Addr} {f1 f2 : Str} {x y : V} {H1 : Hp} {Q : XK} (k : ∀ (d : Addr) (H' : Hp), Evl.Ex H1 H' → H' d = some (.xd [(f2, y), (f1, x)]) → Q (.ref C) (some d) H') :
    mkO C (spInit2 C f1 f2) [] [x, y] H1 Q := by
  refine ⟨by show 2 ≤ 1000; omega, fun e he => ⟨e, x, y, rfl, upd_same, fun d H' hd hne hf h1 h2 => ⟨rfl, d, _, h1, h2, ?_, ?_⟩⟩⟩
  · rw [upd_ne hne] at hd
    exact hd
  · refine k d _ (fun b o hb => ?_) upd_same
    have nbe : b ≠ e := ne_of_none hb he
    rw [upd_ne hne] at hd
    have nbd : b ≠ d := ne_of_none hb hd
    rw [upd_ne nbd, del_ne nbe]
    exact hf b o nbe (by rw [upd_ne nbe]; exact hb)

section
variable {P : Program} {w : World} {K : PySem.W.Frag} {mg : Str → Option Value} {base : Heap} {a : Ad}
/-! ### BadInputs(spot, what) -/
theorem ok_BadInputs_init (T : Txt K mg a) : FnOk P w K mg base CX0 1 a.f_BadInputs___init__ a.d_BadInputs___init__ ["self", "index", "what"] (spInit2 a.c_BadInputs "index" "what") := by
  refine T.F_BadInputs___init__.ok sc_BadInputs___init__ (fun vs H Q E h => ?_) (fun cdv A outer s H vs Q E hr h => ?_)
  · obtain ⟨e, x, y, rfl, _⟩ := h
    rfl
  · obtain ⟨e, x, y, rfl, he, k⟩ := h
    refine ⟨_, pss_one (ps_asg (pe_tup (pa_cons (pv 1) (pa_cons (pv 2) pa_nil))) (pg_tup rfl (pgs_cons (pg_ost (pv 0)) (pgs_cons (pg_ost (pv 0)) pgs_nil)))), ?_⟩
    refine ⟨_, rfl, _, rfl, (by show 2 ≤ sizeLine; decide), fun t ht => ?_⟩
    have net : e ≠ t := ne_of_none he ht
    refine ⟨t, _, rfl, .inl (.inl upd_same), rfl, _, _, rfl, _, rfl, e, a.c_BadInputs, rfl, T.x_BadInputs, T.xn_BadInputs_index, .inl ⟨by rw [upd_ne net]; exact he, fun dx hdx hne => ?_⟩⟩
    have ndt : dx ≠ t := fun q => by rw [q, upd_same] at hdx; cases hdx
    have hd0 : H dx = none := by rw [upd_ne ndt] at hdx; exact hdx
    refine ⟨_, _, rfl, _, rfl, e, a.c_BadInputs, rfl, T.x_BadInputs, T.xn_BadInputs_what, .inr ⟨dx, [("index", x)], upd_same, by rw [upd_ne hne, upd_same], (by show 1 ≤ 900; omega), rfl, ?_⟩⟩
    refine k dx _ hd0 hne (fun b o nb hb => ?_) (by rw [upd_ne (Ne.symm hne), upd_same]) upd_same
    rw [upd_ne (ne_of_none hb hd0), upd_ne nb, upd_ne (ne_of_none hb hd0), upd_ne (ne_of_none hb ht)]
    exact hb
/-! ### the hand -/
/-- a hand stands at p: the script's cells, how many of them are taken, the rest of a great one, the mixed sum -/
def HandAt (H : Hp) (p c : Addr) : Prop := ∃ (cells : List Int) (i g t : Int), H p = some (.lst [.ref c, .int i, .int g, .int t]) ∧ H c = some (.lst (cells.map V.int)) ∧
  cells.length ≤ 63 ∧ (∀ x ∈ cells, 0 ≤ x) ∧ 0 ≤ i ∧ i ≤ 63 ∧ 0 ≤ g ∧ 0 ≤ t ∧ t < 2147483549
def spHand (K : PySem.W.Frag) : Sp := fun vs H Q _ => ∃ (s : Addr) (ns : List Int), vs = [.ref s] ∧ SqL K H s (ns.map V.int) ∧ ns.length ≤ 63 ∧
  ∀ p c H', H p = none → Evl.Ex H H' → HandAt H' p c → Q (.ref p) H'
def ivHand (H : Hp) (sc l : Addr) (ns : List Int) : Nat → L2.St → Hp → Prop := fun i σ H' => ∃ (t : Int) (cells : List Int) (v : Option V), σ = [some (.ref sc), some (.int t), some (.ref l), v] ∧
  H' l = some (.lst (cells.map V.int)) ∧ cells.length = i ∧ i ≤ ns.length ∧ (∀ x ∈ cells, 0 ≤ x) ∧ 0 ≤ t ∧ t < 2147483549 ∧ Evl.Ex H H'
theorem ok_law_hand (T : Txt K mg a) : FnOk P w K mg base CX0 1 a.f_law_hand a.d_law_hand ["_law_script"] (spHand K) := by
  refine T.F_law_hand.ok sc_law_hand (fun vs H Q E h => ?_) (fun cdv A outer s H vs Q E hr h => ?_)
  · obtain ⟨_, _, rfl, _⟩ := h
    rfl
  · obtain ⟨sc, ns, rfl, hS, hl, k⟩ := h
    refine ⟨_, (pss_cons (ps_set (i := 1) sc_law_hand.nd rfl (by first | exact Or.inl rfl | exact Or.inr rfl) (pe_op op_add (pe_callB call_len_seq (by rfl) T.z_len (by decide +kernel) (pa_cons (pv 0) pa_nil)) pe_int))
  (pss_cons (ps_set (i := 2) sc_law_hand.nd rfl (by first | exact Or.inl rfl | exact Or.inr rfl) (pe_lst pa_nil))
  (pss_cons (ps_for PassesOwn.never rfl (pi_list (pv 0)) (pg_name (i := 3) sc_law_hand.nd rfl (by first | exact Or.inl rfl | exact Or.inr rfl)) (pss_cons (ps_set (i := 1) sc_law_hand.nd rfl (by first | exact Or.inl rfl | exact Or.inr rfl) (pe_op op_mod (pe_callTy call_int1 (by rfl) T.z_int (by decide +kernel) (pa_cons (pe_op op_add (pe_op op_mul (pv 1) pe_int) (pe_callTy call_int1 (by rfl) T.z_int (by decide +kernel) (pa_cons (pv 3) pa_nil))) pa_nil)) pe_int))
  (pss_one (ps_expr (pe_bm PySem.F.plainAttrs_list PySem.F.slot_list_append PySem.F.type_list_append mt_append (pv 2) (pa_cons (pe_callB call_abs (by rfl) T.z_abs (by decide +kernel) (pa_cons (pe_callTy call_int1 (by rfl) T.z_int (by decide +kernel) (pa_cons (pv 3) pa_nil)) pa_nil)) pa_nil))))))
  (pss_one (ps_ret (pe_lst (pa_cons (pv 2) (pa_cons pe_int (pa_cons pe_int (pa_cons (pv 1) pa_nil)))))))))), ?_⟩
    walk_at "sm"
    refine ⟨_, .inl hS, by decide, fun l hl0 => ?_⟩
    have nls : ∀ {b o}, H b = some o → b ≠ l := fun hb => ne_of_none hb hl0
    refine ⟨_, rfl, sc, rfl, ⟨_, Evl.ex_l (Evl.Ex.new hl0) hS⟩, for_list (K := K) (a := sc) (xs := ns.map V.int) (ivHand H sc l ns) ⟨_, [], none, rfl, upd_same, rfl, Nat.zero_le _, (by intro x hx; cases hx), ?_, ?_, Evl.Ex.new hl0⟩ (fun i σ H' _ ⟨_, _, _, _, _, _, _, _, _, _, e⟩ => Evl.ex_l e hS) ?_ ?_⟩
    · rw [List.length_map]; omega
    · rw [List.length_map]; omega
    · rintro i y σ H' hi ⟨t, cells, v, rfl, h1, h2, h3, h4, h5, h6, h7⟩
      obtain ⟨z, hz, rfl⟩ := int_at hi
      have hi' := (List.getElem?_eq_some_iff.mp hz).1
      walk_at "sm"
      refine ⟨.inl ⟨by omega, by omega⟩, by decide, .inl ⟨rfl, _, SqL.of h1⟩, l, _, _, rfl, rfl, h1, ?_, ?_⟩
      · rw [List.length_map]; exact Nat.lt_of_lt_of_le (by omega : cells.length < 100) (by decide)
      · refine ⟨_, cells ++ [if z < 0 then -z else z], _, rfl, by rw [upd_same, List.map_append]; rfl, by rw [List.length_append, h2]; rfl, by omega, ?_, Int.emod_nonneg _ (by decide), ?_, Evl.Ex.mut h7 hl0⟩
        · intro x hx
          rcases List.mem_append.mp hx with hx | hx
          · exact h4 x hx
          · rw [List.mem_singleton] at hx
            subst hx
            split <;> omega
        · have := Int.emod_lt_of_pos (t * 2017 + z) (show (0 : Int) < 2147483543 by decide)
          omega
    · rintro σ H' ⟨t, cells, v, rfl, h1, h2, h3, h4, h5, h6, h7⟩
      walk_at "sm"
      refine ⟨by decide, fun p hp => ?_⟩
      refine k p l _ (Evl.fresh_back h7 hp) (h7.trans (Evl.Ex.new hp)) ⟨cells, 0, 0, t, upd_same, by rw [upd_ne (ne_of_none h1 hp)]; exact h1, ?_, h4, by decide, by decide, by decide, h5, h6⟩
      rw [h2, List.length_map]; exact hl
def spMixed : Sp := fun vs H Q _ => ∃ (n t : Int), vs = [.int n, .int t] ∧ 0 ≤ n ∧ n < 2147483600 ∧ 0 ≤ t ∧ t ≤ 64 ∧ ∀ r, 0 ≤ r → Q (.int r) H
theorem ok_law_mixed (T : Txt K mg a) : FnOk P w K mg base CX0 1 a.f_law_mixed a.d_law_mixed ["_law_number", "_law_turn"] spMixed := by
  refine T.F_law_mixed.ok sc_law_mixed (fun vs H Q E h => ?_) (fun cdv A outer s H vs Q E hr h => ?_)
  · obtain ⟨_, _, rfl, _⟩ := h
    rfl
  · obtain ⟨n, t, rfl, h1, h2, h3, h4, k⟩ := h
    refine ⟨_, (pss_cons (ps_set (i := 2) sc_law_mixed.nd rfl (by first | exact Or.inl rfl | exact Or.inr rfl) (pe_op op_mod (pe_callTy call_int1 (by rfl) T.z_int (by decide +kernel) (pa_cons (pe_op op_add (pe_op op_add (pe_op op_mul (pv 0) pe_int) (pe_op op_mul (pv 1) pe_int)) pe_int) pa_nil)) pe_int))
  (pss_cons (ps_set (i := 3) sc_law_mixed.nd rfl (by first | exact Or.inl rfl | exact Or.inr rfl) (pe_op op_mod (pe_callTy call_int1 (by rfl) T.z_int (by decide +kernel) (pa_cons (pe_op op_add (pe_op op_add (pe_op op_mul (pv 2) (pv 2)) (pe_op op_mul (pv 1) pe_int)) (pe_op op_fdiv (pv 2) pe_int)) pa_nil)) pe_int))
  (pss_one (ps_ret (pe_op op_fdiv (pe_callTy call_int1 (by rfl) T.z_int (by decide +kernel) (pa_cons (pe_op op_mod (pe_callTy call_int1 (by rfl) T.z_int (by decide +kernel) (pa_cons (pe_op op_add (pe_op op_mul (pv 3) pe_int) (pe_op op_fdiv (pv 2) pe_int)) pa_nil)) pe_int) pa_nil)) pe_int))))), ?_⟩
    walk_at "sm"
    have e1 := Int.emod_nonneg (n * 40014 + t * 7331 + 60013) (show (2147483399 : Int) ≠ 0 by decide)
    have e2 := Int.emod_lt_of_pos (n * 40014 + t * 7331 + 60013) (show (0 : Int) < 2147483399 by decide)
    refine ⟨.inl ⟨by omega, by omega⟩, .inl ⟨by omega, by omega⟩, by decide, .inl ⟨by omega, by omega⟩, .inl ⟨by omega, by omega⟩, ⟨by decide, by decide⟩, by decide, .inr ⟨by decide, by decide⟩, ⟨by decide, by decide⟩, by decide, ⟨by decide, by decide⟩, k _ ?_⟩
    exact Int.ediv_nonneg (Int.emod_nonneg _ (by decide)) (by decide)
def spTake : Sp := fun vs H Q _ => ∃ (p c : Addr) (m : Int), vs = [.ref p, .int m] ∧ HandAt H p c ∧ 0 < m ∧ m < 1073741824 ∧
  ∀ r H', 0 ≤ r → r < m → Fr p H H' → HandAt H' p c → Q (.int r) H'
def midTake (H : Hp) (p c : Addr) (m : Int) : L2.St → Hp → Prop := fun σ' H' => ∃ v, σ' = [some (.ref p), some (.int m), v, none] ∧ Fr p H H' ∧ HandAt H' p c
theorem ok_law_take (T : Txt K mg a) : FnOk P w K mg base CX0 2 a.f_law_take a.d_law_take ["_law_hand_here", "_law_many"] spTake := by
  refine T.F_law_take.ok sc_law_take (fun vs H Q E h => ?_) (fun cdv A outer s H vs Q E hr h => ?_)
  · obtain ⟨_, _, _, rfl, _⟩ := h
    rfl
  · obtain ⟨p, c, m, rfl, ⟨cells, i, g, t, hp, hc, hl, hx, hi0, hi1, hg, ht0, ht1⟩, hm0, hm1, k⟩ := h
    refine ⟨_, (Evl.pss_cut (ps_if (PW.pt (pw_and (pt_cmpR op_eq (pe_ix ix_list (pv 0) pe_int (fun _ _ => rfl)) pe_int (nomark _)) (pw_and1 (pt_cmpR op_lt (pe_ix ix_list (pv 0) pe_int (fun _ _ => rfl)) (pe_callB call_len_seq (by rfl) T.z_len (by decide +kernel) (pa_cons (pe_ix ix_list (pv 0) pe_int (fun _ _ => rfl)) pa_nil)) (nomark _))))) (pss_cons (ps_set (i := 2) sc_law_take.nd rfl (by first | exact Or.inl rfl | exact Or.inr rfl) (pe_ix ix_list (pe_ix ix_list (pv 0) pe_int (fun _ _ => rfl)) (pe_ix ix_list (pv 0) pe_int (fun _ _ => rfl)) (fun _ _ => rfl)))
  (pss_cons (ps_asg (pe_op op_add (pe_ix ix_list (pv 0) pe_int (fun _ _ => rfl)) pe_int) (pg_sub (pv 0) pe_int set_list (by intro _; rfl)))
  (pss_cons (ps_if (pt_cmpR op_lt (pv 2) (pe_op op_pow pe_int pe_int) (nomark _)) (pss_one (ps_ret (pe_op op_mod (pe_callTy call_int1 (by rfl) T.z_int (by decide +kernel) (pa_cons (pe_call (ok_law_mixed T) (hr.mono (by decide)) rfl T.m_law_mixed T.F_law_mixed.kp T.b_law_mixed .nil pass0 (pa_cons (pe_op op_mod (pe_callTy call_int1 (by rfl) T.z_int (by decide +kernel) (pa_cons (pv 2) pa_nil)) pe_int) (pa_cons (pe_ix ix_list (pv 0) pe_int (fun _ _ => rfl)) pa_nil))) pa_nil)) (pv 1))))
    pss_nil)
  (pss_one (ps_asg (pv 2) (pg_sub (pv 0) pe_int set_list (by intro _; rfl)))))))
    pss_nil)
  (pss_cons (ps_if (pt_cmpR op_gt (pe_ix ix_list (pv 0) pe_int (fun _ _ => rfl)) pe_int (nomark _)) (pss_cons (ps_set (i := 3) sc_law_take.nd rfl (by first | exact Or.inl rfl | exact Or.inr rfl) (pe_ix ix_list (pv 0) pe_int (fun _ _ => rfl)))
  (pss_cons (ps_asg (pe_op op_fdiv (pe_callTy call_int1 (by rfl) T.z_int (by decide +kernel) (pa_cons (pv 3) pa_nil)) (pv 1)) (pg_sub (pv 0) pe_int set_list (by intro _; rfl)))
  (pss_one (ps_ret (pe_op op_mod (pe_callTy call_int1 (by rfl) T.z_int (by decide +kernel) (pa_cons (pv 3) pa_nil)) (pv 1))))))
    pss_nil)
  (pss_cons (ps_asg (pe_op op_mod (pe_callTy call_int1 (by rfl) T.z_int (by decide +kernel) (pa_cons (pe_op op_add (pe_ix ix_list (pv 0) pe_int (fun _ _ => rfl)) pe_int) pa_nil)) pe_int) (pg_sub (pv 0) pe_int set_list (by intro _; rfl)))
  (pss_one (ps_ret (pe_op op_mod (pe_callTy call_int1 (by rfl) T.z_int (by decide +kernel) (pa_cons (pe_call (ok_law_mixed T) (hr.mono (by decide)) rfl T.m_law_mixed T.F_law_mixed.kp T.b_law_mixed .nil pass0 (pa_cons (pe_ix ix_list (pv 0) pe_int (fun _ _ => rfl)) (pa_cons (pe_ix ix_list (pv 0) pe_int (fun _ _ => rfl)) pa_nil))) pa_nil)) (pv 1))))))), ?_⟩
    walk_at "sm"
    have ncp : c ≠ p := ne_of hc hp (by intro q; injection q with q; cases cells with
      | nil => cases q
      | cons x r => injection q with q _; cases q)
    refine ⟨midTake H p c m, ?_, ?_⟩
    · walk_at "sm"
      have sK : SqL K H p [.ref c, .int i, .int g, .int t] := SqL.of hp
      refine ixl sK rfl ?_
      walk_at "sm"
      refine ite2 (fun cg => ?_) (fun cg => ⟨_, rfl, Fr.refl H, cells, i, g, t, hp, hc, hl, hx, hi0, hi1, hg, ht0, ht1⟩)
      refine ixl sK rfl (ixl sK rfl ?_)
      walk_at "sm"
      refine ⟨_, .inl (SqL.of hc), ?_⟩
      walk_at "sm"
      refine ite2 (fun ci => ?_) (fun ci => ⟨_, rfl, Fr.refl H, cells, i, g, t, hp, hc, hl, hx, hi0, hi1, hg, ht0, ht1⟩)
      rw [List.length_map] at ci
      obtain ⟨z, hz, ez⟩ := atI_int hi0 ci
      have hz0 := hx z hz
      refine ixl sK rfl (ixl sK rfl (ixl (SqL.of hc) ez (ixl sK rfl ?_)))
      walk_at "sm"
      refine setl hp rfl ?_
      have hp1 : (upd H p (.lst [.ref c, .int (i + 1), .int g, .int t])) p = some (.lst [.ref c, .int (i + 1), .int g, .int t]) := upd_same
      have hc1 : (upd H p (.lst [.ref c, .int (i + 1), .int g, .int t])) c = some (.lst (cells.map V.int)) := by rw [upd_ne ncp]; exact hc
      refine ⟨⟨by decide, by decide, by decide⟩, ite2 (fun cz => ?_) (fun cz => ?_)⟩
      · refine ⟨by decide, ixl (SqL.of hp1) rfl ⟨_, _, rfl, Int.emod_nonneg _ (by decide), ?_, by omega, by omega, fun r hr0 => ?_⟩⟩
        · have := Int.emod_lt_of_pos z (show (0 : Int) < 2147483399 by decide)
          omega
        · walk_at "sm"
          exact ⟨hm0, k _ _ (Int.emod_nonneg _ (by omega)) (Int.emod_lt_of_pos _ hm0) Fr.upd ⟨cells, i + 1, g, t, hp1, hc1, hl, hx, by omega, by omega, hg, ht0, ht1⟩⟩
      · refine setl hp1 rfl ⟨_, rfl, Fr.upd.trans Fr.upd, cells, i + 1, z, t, upd_same, by rw [upd_ne ncp]; exact hc1, hl, hx, by omega, by omega, hz0, ht0, ht1⟩
    · rintro σ' H' ⟨v, rfl, f, cells', i', g', t', hp', hc, hl', hx', hi0', hi1', hg', ht0', ht1'⟩
      have ncp' : c ≠ p := ne_of hc hp' (by intro q; injection q with q; cases cells' with
        | nil => cases q
        | cons x r => injection q with q _; cases q)
      walk_at "sm"
      have sK : SqL K H' p [.ref c, .int i', .int g', .int t'] := SqL.of hp'
      refine ixl sK rfl ?_
      walk_at "sm"
      refine ite2 (fun cg => ?_) (fun cg => ?_)
      · refine ixl sK rfl ?_
        walk_at "sm"
        refine ⟨⟨hm0, hm1⟩, setl hp' rfl ⟨hm0, k _ _ (Int.emod_nonneg _ (by omega)) (Int.emod_lt_of_pos _ hm0) (f.trans Fr.upd) ⟨cells', i', g' / m, t', upd_same, by rw [upd_ne ncp']; exact hc, hl', hx', hi0', hi1', Int.ediv_nonneg hg' (by omega), ht0', ht1'⟩⟩⟩
      · refine ixl sK rfl ?_
        walk_at "sm"
        have e0 := Int.emod_nonneg (t' + 1) (show (2147483549 : Int) ≠ 0 by decide)
        have e1 := Int.emod_lt_of_pos (t' + 1) (show (0 : Int) < 2147483549 by decide)
        refine ⟨by decide, setl hp' rfl ?_⟩
        have hp1 : (upd H' p (.lst [.ref c, .int i', .int g', .int ((t' + 1) % 2147483549)])) p = some (.lst [.ref c, .int i', .int g', .int ((t' + 1) % 2147483549)]) := upd_same
        refine ixl (SqL.of hp1) rfl (ixl (SqL.of hp1) rfl ⟨_, _, rfl, e0, by omega, by omega, by omega, fun r hr0 => ?_⟩)
        walk_at "sm"
        exact ⟨hm0, k _ _ (Int.emod_nonneg _ (by omega)) (Int.emod_lt_of_pos _ hm0) (f.trans Fr.upd) ⟨cells', i', g', (t' + 1) % 2147483549, hp1, by rw [upd_ne ncp']; exact hc, hl', hx', hi0', hi1', hg', e0, e1⟩⟩
end
open SX (S)

theorem sz {n : Nat} (h : n ≤ 100000) : n ≤ sizeLine := Evl.sz_of h
theorem kw_flat (l : List Str) : (l.map V.str).all flatV = true := by
  induction l with
  | nil => rfl
  | cons s l ih => rw [List.map_cons, List.all_cons, ih]; rfl
theorem str_at_map {l : List Str} {i : Nat} {x : V} (h : (l.map V.str)[i]? = some x) : ∃ z, l[i]? = some z ∧ x = .str z := by
  rw [List.getElem?_map] at h
  cases e : l[i]? with
  | none => rw [e] at h; cases h
  | some z => rw [e] at h; exact ⟨z, rfl, (Option.some.inj h).symm⟩
theorem in_tup {K : PySem.W.Frag} {H : Hp} {p : Addr} {xs : List V} {x : V} {Q : VK} (h : SqT K H p xs) (fx : flatV x = true) (fxs : xs.all flatV = true) (q : Q (.bl (inV x xs)) H) : rIn K false x (.ref p) H Q := ⟨p, xs, rfl, .inr h, fx, fxs, q⟩
theorem ni_tup {K : PySem.W.Frag} {H : Hp} {p : Addr} {xs : List V} {x : V} {Q : VK} (h : SqT K H p xs) (fx : flatV x = true) (fxs : xs.all flatV = true) (q : Q (.bl (!inV x xs)) H) : rIn K true x (.ref p) H Q := ⟨p, xs, rfl, .inr h, fx, fxs, q⟩
theorem isi_ty {K : PySem.W.Frag} {H : Hp} {x : V} {t : String} {n : String} {b : Bool} {Q : VK} (ht : TyX K H x (.type t)) (hk : kitB t n = some b) (q : Q (.bl b) H) : rIsi K [x, .ty n] H Q := ⟨x, .ty n, .type t, .type n, b, rfl, .ty n, ht, kit_ty hk, q⟩
theorem Paired.snoc {α β : Type} {F : α → β → Prop} {x : α} {y : β} (r : F x y) : ∀ {l : List α} {m : List β}, Paired F l m → Paired F (l ++ [x]) (m ++ [y])
  | _, _, .nil => .cons r .nil
  | _, _, .cons q t => .cons q (Paired.snoc r t)
theorem HandAt.go {H H' : Hp} {p c : Addr} (e : Evl.Ex H H') (h : HandAt H p c) : HandAt H' p c := by
  obtain ⟨cells, i, g, t, hp, hc, r⟩ := h
  exact ⟨cells, i, g, t, e _ _ hp, e _ _ hc, r⟩
theorem HandAt.lt {H : Hp} {p c l : Addr} (h : HandAt H p c) (hl : H l = none) : l ≠ p := by
  obtain ⟨cells, i, g, t, hp, _⟩ := h
  exact Ne.symm (ne_of_none hp hl)
theorem HandAt.lc {H : Hp} {p c l : Addr} (h : HandAt H p c) (hl : H l = none) : l ≠ c := by
  obtain ⟨cells, i, g, t, hp, hc, _⟩ := h
  exact Ne.symm (ne_of_none hc hl)
theorem HandAt.upd {H : Hp} {p c l : Addr} {o : HO} (h : HandAt H p c) (n1 : l ≠ p) (n2 : l ≠ c) : HandAt (upd H l o) p c := by
  obtain ⟨cells, i, g, t, hp, hc, r⟩ := h
  exact ⟨cells, i, g, t, by rw [upd_ne (Ne.symm n1)]; exact hp, by rw [upd_ne (Ne.symm n2)]; exact hc, r⟩
theorem Fr.mut {p l : Addr} {H H' : Hp} {o : HO} (f : Fr p H H') (hl : H l = none) : Fr p H (L2.upd H' l o) := fun b u n h => by
  rw [upd_ne (ne_of_none h hl)]
  exact f b u n h
theorem Fr.lst {K : PySem.W.Frag} {H H' : Hp} {p l : Addr} {xs : List V} (f : Fr p H H') (n : l ≠ p) (h : H l = some (.lst xs)) : SqL K H' l xs := SqL.of (f _ _ n h)
theorem atI_str {l : List Str} {i : Int} (h0 : 0 ≤ i) (h1 : i < (l.length : Int)) : ∃ z, z ∈ l ∧ atI (l.map V.str) i = some (.str z) := by
  obtain ⟨k, rfl⟩ : ∃ k : Nat, i = (k : Int) := ⟨i.toNat, by omega⟩
  have hk : k < l.length := by omega
  exact ⟨l[k], List.getElem_mem hk, atI_nat (by rw [List.getElem?_map, List.getElem?_eq_getElem hk] <;> rfl)⟩
theorem tk {p c : Addr} {m : Int} {H : Hp} {Q : VK} {E : XK} (h : HandAt H p c) (h0 : 0 < m) (h1 : m < 1073741824) (k : ∀ (r : Int) (H' : Hp), 0 ≤ r → r < m → Fr p H H' → HandAt H' p c → Q (.int r) H') : spTake [.ref p, .int m] H Q E := ⟨p, c, m, rfl, h, h0, h1, k⟩
def dV : V → PyData
  | .bl b => .bool b
  | .int i => .int i
  | .str x => .str x
  | _ => .none
def okF : V → Bool
  | .non => true
  | .bl _ => true
  | .int _ => true
  | .str x => PyData.strOk x
  | _ => false
theorem dp_flat {K : PySem.W.Frag} {H : Hp} {v : V} (h : okF v = true) : Dp K H v (dV v) := by
  cases v with
  | non => exact .non
  | bl b => exact .bl b
  | int i => exact .int i
  | str x => exact .str x
  | byt b => cases h
  | flt b => cases h
  | ref b => cases h
  | ty b => cases h
theorem dp_flats {K : PySem.W.Frag} {H : Hp} : ∀ {vs : List V}, vs.all okF = true → DpAll K H vs (vs.map dV)
  | [], _ => .nil
  | v :: vs, h => by
    rw [List.all_cons, Bool.and_eq_true] at h
    exact .cons (dp_flat h.1) (dp_flats h.2)
theorem lay_flat {v : V} (h : okF v = true) : (dV v).canLay0 = true ∧ (dV v).depth ≤ 1 := by
  cases v with
  | non => exact ⟨rfl, by decide⟩
  | bl b => exact ⟨rfl, by show 0 ≤ 1; omega⟩
  | int i => exact ⟨rfl, by show 0 ≤ 1; omega⟩
  | str x => exact ⟨h, by show 0 ≤ 1; omega⟩
  | byt b => cases h
  | flt b => cases h
  | ref b => cases h
  | ty b => cases h
theorem lay_all {n : Nat} : ∀ {ds : List PyData}, (∀ d ∈ ds, d.canLay0 = true ∧ d.depth ≤ n) → PyData.canLayAll0 ds = true ∧ PyData.depthAll ds ≤ n
  | [], _ => ⟨rfl, Nat.zero_le _⟩
  | d :: ds, h => by
    have h1 := h d List.mem_cons_self
    have h2 := lay_all (ds := ds) fun x hx => h x (List.mem_cons_of_mem _ hx)
    refine ⟨?_, ?_⟩
    · show (d.canLay0 && PyData.canLayAll0 ds) = true
      rw [h1.1, h2.1]; rfl
    · show max d.depth (PyData.depthAll ds) ≤ n
      omega
theorem lay_tup {n : Nat} {ds : List PyData} (h : ∀ d ∈ ds, d.canLay0 = true ∧ d.depth ≤ n) : (PyData.tuple ds).canLay0 = true ∧ (PyData.tuple ds).depth ≤ n + 1 := by
  have q := lay_all h
  exact ⟨q.1, by show PyData.depthAll ds + 1 ≤ n + 1; omega⟩
theorem lay_lst {n : Nat} {ds : List PyData} (h : ∀ d ∈ ds, d.canLay0 = true ∧ d.depth ≤ n) : (PyData.list ds).canLay0 = true ∧ (PyData.list ds).depth ≤ n + 1 := by
  have q := lay_all h
  exact ⟨q.1, by show PyData.depthAll ds + 1 ≤ n + 1; omega⟩
theorem shaped_of {d : PyData} {n : Nat} (h : d.canLay0 = true ∧ d.depth ≤ n) (hn : n ≤ 64) : SeqAt.shaped d = true := by
  unfold SeqAt.shaped
  rw [h.1, decide_eq_true (Nat.le_trans h.2 hn)]
  rfl
theorem ne_same {K : PySem.W.Frag} {H : Hp} {x y : V} {d : PyData} {Q : VK} (hx : Dp K H x d) (hy : Dp K H y d) (hs : SeqAt.shaped d = true) (q : Q (.bl false) H) : rNeD K x y H Q :=
  ⟨d, d, hx, hy, hs, hs, by rw [SeqAt.eqv_refl d (SeqAt.canLay_of_shaped hs)]; exact q⟩
theorem eq_same {K : PySem.W.Frag} {H : Hp} {x y : V} {d : PyData} {Q : VK} (hx : Dp K H x d) (hy : Dp K H y d) (hs : SeqAt.shaped d = true) (q : Q (.bl true) H) : rEqD K x y H Q :=
  ⟨d, d, hx, hy, hs, hs, by rw [SeqAt.eqv_refl d (SeqAt.canLay_of_shaped hs)]; exact q⟩
theorem op_eqD_s {X : Cx} {a : Addr} {pins : List (Addr × Obj)} (hu : (X.suite a pins).A.units + 64 < cLine) : OpR (X.suite a pins) (compareOp .Eq) (rEqD X.K) := op_eqD hu
theorem op_neD_s {X : Cx} {a : Addr} {pins : List (Addr × Obj)} (hu : (X.suite a pins).A.units + 64 < cLine) : OpR (X.suite a pins) (compareOp .NotEq) (rNeD X.K) := op_neD hu
theorem ix_list_b {X : Cx} {s : Shared} {H : Hp} {scope : Scope} {env : Env} {fp : List Addr} : IxR (X.blk s H scope env fp) (rIxL X.K) := ix_list
theorem ix_tup_b {X : Cx} {s : Shared} {H : Hp} {scope : Scope} {env : Env} {fp : List Addr} : IxR (X.blk s H scope env fp) (rIxT X.K) := ix_tup
theorem ixt {K : PySem.W.Frag} {H : Hp} {p : Addr} {xs : List V} {i : Int} {v : V} {Q : VK} (h : H p = some (.tup xs)) (e : atI xs i = some v) (q : Q v H) : rIxT K (.ref p) (.int i) H Q := ⟨p, xs, i, v, rfl, rfl, SqT.of h, e, q⟩
theorem was_true {K : PySem.W.Frag} {C : Addr} {i : Nat} {ts : Addr → Value → Option Addr → TS} {Wout : WX} {D : Ends} {d : Option Addr} {σ : L2.St} {H : Hp} (he : PySem.W.exmOne K (.ref C) (.ref C) = some true)
    (h : ∀ a, H a = none → ts a (.ref C) d { nx := fun σ' H' => D.nx (σ'.set i none) H', rt := D.rt, bk := fun σ' H' => D.bk (σ'.set i none) H', ct := fun σ' H' => D.ct (σ'.set i none) H' } (σ.set i (some (.ref a))) H) :
    wAs K (.ref C) i ts Wout D (.ref C) d σ H := ⟨true, he, fun _ => h, fun q => nomatch q⟩
/-! ### an own error made without arguments -/
theorem pmk_own0 {X : Cx} {C : Addr} {bmB : List Value} {B newId initId : String} {x : Str} {p pos : Pos} (F : ExcBaseFacts B newId initId bmB) (q : PySem.W.excIn X.K C bmB newId = true) (gC : X.mg x = some (.ref C)) (kC : PySem.W.keepIn X.K (.ref C) = true) (r : Raises X (.ref C)) (hg : Gl X x)
    (hdb : (x == ("__debug__" : Str)) = false := by decide) : PMk X (.Call (.Name x p) [] [] pos) (fun _ H Q => Q (.ref C) none H) := by
  intro pins s σ H Q I h
  refine wpAny_Call_Name_kw (ld_glob I hg gC ?_ hdb)
  refine PySem.W.callWith_K0 I.kIn kC ?_
  show wpAny _ _ (call (.ref C) []) _ _ _
  obtain ⟨bm, N, nm, qn, bs, hdct, sn, sub, ab, col, dd, k0, k1, k2, k3, k5, mN, hC, hN, hni, T⟩ := exc_obj I.kIn q
  refine wpAny_call_exc_subT F T hC hN hni (fun h' e hm => ?_) (Nat.zero_le _)
  exact mk_of I hm r h (I.hok.gone hm.new)
/-! ### a walk over what is a list or a tuple -/
theorem pi_or {X : Cx} {tg it : Expr} {r1 r2 : TI} (h1 : PI X tg it r1) (h2 : PI X tg it r2) : PI X tg it (fun σ H R => r1 σ H R ∨ r2 σ H R) :=
  ⟨fun pins s σ H R I h => h.elim (fun z => h1.run pins s σ H R I z) fun z => h2.run pins s σ H R I z⟩


/-! ### things whose class is told -/
def PlainV (H : Hp) (x : V) : Prop := x = .non ∨ (∃ b, x = .bl b) ∨ (∃ i, x = .int i) ∨ (∃ s, x = .str s) ∨ (∃ p xs, x = .ref p ∧ H p = some (.tup xs)) ∨ ∃ p xs, x = .ref p ∧ H p = some (.lst xs)
theorem PlainV.go {H H' : Hp} {x : V} (e : Evl.Ex H H') (h : PlainV H x) : PlainV H' x := by
  rcases h with h | h | h | h | ⟨p, xs, h, q⟩ | ⟨p, xs, h, q⟩
  · exact .inl h
  · exact .inr (.inl h)
  · exact .inr (.inr (.inl h))
  · exact .inr (.inr (.inr (.inl h)))
  · exact .inr (.inr (.inr (.inr (.inl ⟨p, xs, h, e _ _ q⟩))))
  · exact .inr (.inr (.inr (.inr (.inr ⟨p, xs, h, e _ _ q⟩))))
theorem plain_int {H : Hp} {i : Int} : PlainV H (.int i) := .inr (.inr (.inl ⟨i, rfl⟩))
def whB : V → Bool
  | .int _ => true
  | _ => false
def wiB (x : V) (lo hi : Int) : Bool := match x with
  | .int i => decide (lo ≤ i) && decide (i ≤ hi)
  | _ => false
def sqV : V → Bool
  | .ref _ => true
  | _ => false
theorem is_int {K : PySem.W.Frag} {H : Hp} {x : V} {Q : VK} (h : PlainV H x) (q : ∀ b c, rIsi K [x, .ty "bool"] H (fun y H' => y = .bl c ∧ H' = H) → (b && !c) = whB x → Q (.bl b) H) : rIsi K [x, .ty "int"] H Q := by
  rcases h with rfl | ⟨b, rfl⟩ | ⟨i, rfl⟩ | ⟨s, rfl⟩ | ⟨p, xs, rfl, e⟩ | ⟨p, xs, rfl, e⟩
  · exact isi_ty (t := "NoneType") (b := false) (.base .non) (by decide +kernel) (q _ false (isi_ty (t := "NoneType") (b := false) (.base .non) (by decide +kernel) ⟨rfl, rfl⟩) rfl)
  · exact isi_ty (t := "bool") (b := true) (.base (.bl _)) (by decide +kernel) (q _ true (isi_ty (t := "bool") (b := true) (.base (.bl _)) (by decide +kernel) ⟨rfl, rfl⟩) rfl)
  · exact isi_ty (t := "int") (b := true) (.base (.int _)) (by decide +kernel) (q _ false (isi_ty (t := "int") (b := false) (.base (.int _)) (by decide +kernel) ⟨rfl, rfl⟩) rfl)
  · exact isi_ty (t := "str") (b := false) (.base (.str _)) (by decide +kernel) (q _ false (isi_ty (t := "str") (b := false) (.base (.str _)) (by decide +kernel) ⟨rfl, rfl⟩) rfl)
  · exact isi_ty (t := "tuple") (b := false) (.base (.tup e)) (by decide +kernel) (q _ false (isi_ty (t := "tuple") (b := false) (.base (.tup e)) (by decide +kernel) ⟨rfl, rfl⟩) rfl)
  · exact isi_ty (t := "list") (b := false) (.base (.lst e)) (by decide +kernel) (q _ false (isi_ty (t := "list") (b := false) (.base (.lst e)) (by decide +kernel) ⟨rfl, rfl⟩) rfl)
theorem isi_mono {K : PySem.W.Frag} {H : Hp} {vs : List V} {c : Bool} {Q : VK} (h : rIsi K vs H fun y H' => y = .bl c ∧ H' = H) (q : Q (.bl c) H) : rIsi K vs H Q := by
  obtain ⟨x, y, t, u, b, e1, e2, e3, e4, e5, _⟩ := h
  cases e5
  exact ⟨x, y, t, u, _, e1, e2, e3, e4, q⟩
theorem isT2 {K : PySem.W.Frag} {H : Hp} {x : V} {tp : Addr} {t : String} {b : Bool} {Q : VK} (hT : H tp = some (.tup [.ty "list", .ty "tuple"])) (ht : TyX K H x (.type t)) (e : PySem.W.kitAny K (.type t) [.type "list", .type "tuple"] = some b) (q : Q (.bl b) H) : rIsiT K [x, .ref tp] H Q :=
  ⟨x, tp, _, _, _, b, rfl, hT, .cons (.ty _) (.cons (.ty _) .nil), ht, e, q⟩
theorem is_seq {K : PySem.W.Frag} {H : Hp} {x : V} {tp : Addr} {Q : VK} (h : PlainV H x) (hT : H tp = some (.tup [.ty "list", .ty "tuple"])) (q : Q (.bl (sqV x)) H) : rIsiT K [x, .ref tp] H Q := by
  rcases h with rfl | ⟨b, rfl⟩ | ⟨i, rfl⟩ | ⟨s, rfl⟩ | ⟨p, xs, rfl, e⟩ | ⟨p, xs, rfl, e⟩
  · exact isT2 (t := "NoneType") (b := false) hT (.base .non) (kitAny_cons (kit_ty (r := false) (by decide +kernel)) (fun _ => kitAny_cons (kit_ty (r := false) (by decide +kernel)) (fun _ => rfl) (fun h => by cases h)) (fun h => by cases h)) q
  · exact isT2 (t := "bool") (b := false) hT (.base (.bl _)) (kitAny_cons (kit_ty (r := false) (by decide +kernel)) (fun _ => kitAny_cons (kit_ty (r := false) (by decide +kernel)) (fun _ => rfl) (fun h => by cases h)) (fun h => by cases h)) q
  · exact isT2 (t := "int") (b := false) hT (.base (.int _)) (kitAny_cons (kit_ty (r := false) (by decide +kernel)) (fun _ => kitAny_cons (kit_ty (r := false) (by decide +kernel)) (fun _ => rfl) (fun h => by cases h)) (fun h => by cases h)) q
  · exact isT2 (t := "str") (b := false) hT (.base (.str _)) (kitAny_cons (kit_ty (r := false) (by decide +kernel)) (fun _ => kitAny_cons (kit_ty (r := false) (by decide +kernel)) (fun _ => rfl) (fun h => by cases h)) (fun h => by cases h)) q
  · exact isT2 (t := "tuple") (b := true) hT (.base (.tup e)) (kitAny_cons (kit_ty (r := false) (by decide +kernel)) (fun _ => kitAny_cons (kit_ty (r := true) (by decide +kernel)) (fun h => by cases h) (fun _ => rfl)) (fun h => by cases h)) q
  · exact isT2 (t := "list") (b := true) hT (.base (.lst e)) (kitAny_cons (kit_ty (r := true) (by decide +kernel)) (fun h => by cases h) (fun _ => rfl)) q
section
variable {P : Program} {w : World} {K : PySem.W.Frag} {mg : Str → Option Value} {base : Heap} {a : Ad}
def spWh : Sp := fun vs H Q _ => ∃ x, vs = [x] ∧ PlainV H x ∧ Q (.bl (whB x)) H
theorem ok_is_whole (T : Txt K mg a) : FnOk P w K mg base CX0 1 a.f_is_whole a.d_is_whole ["thing"] spWh := by
  refine T.F_is_whole.ok sc_is_whole (fun vs H Q E h => ?_) (fun cdv A outer s H vs Q E hr h => ?_)
  · obtain ⟨_, rfl, _⟩ := h
    rfl
  · obtain ⟨x, rfl, hx, k⟩ := h
    refine ⟨_, (pss_one (ps_ret (pe_and (pe_callB call_isi (by rfl) T.z_isinstance (by decide +kernel) (pa_cons (pv 0) (pa_cons (pe_bltn (v := .ty "int") (by rfl) T.z_int (by decide +kernel) rfl) pa_nil))) (pe_one (pe_not (pe_callB call_isi (by rfl) T.z_isinstance (by decide +kernel) (pa_cons (pv 0) (pa_cons (pe_bltn (v := .ty "bool") (by rfl) T.z_bool (by decide +kernel) rfl) pa_nil)))))))), ?_⟩
    walk_at "sm"
    refine is_int hx fun b c hc e => ⟨_, rfl, ?_⟩
    cases b with
    | false => exact iteF (by rw [← e] at k; exact k)
    | true => exact iteT (isi_mono hc ⟨_, rfl, by rw [← e] at k; exact k⟩)
theorem ok_law_whole (T : Txt K mg a) : FnOk P w K mg base CX0 1 a.f_law_whole a.d_law_whole ["_law_thing"] spWh := by
  refine T.F_law_whole.ok sc_law_whole (fun vs H Q E h => ?_) (fun cdv A outer s H vs Q E hr h => ?_)
  · obtain ⟨_, rfl, _⟩ := h
    rfl
  · obtain ⟨x, rfl, hx, k⟩ := h
    refine ⟨_, (pss_one (ps_ret (pe_and (pe_callB call_isi (by rfl) T.z_isinstance (by decide +kernel) (pa_cons (pv 0) (pa_cons (pe_bltn (v := .ty "int") (by rfl) T.z_int (by decide +kernel) rfl) pa_nil))) (pe_one (pe_not (pe_callB call_isi (by rfl) T.z_isinstance (by decide +kernel) (pa_cons (pv 0) (pa_cons (pe_bltn (v := .ty "bool") (by rfl) T.z_bool (by decide +kernel) rfl) pa_nil)))))))), ?_⟩
    walk_at "sm"
    refine is_int hx fun b c hc e => ⟨_, rfl, ?_⟩
    cases b with
    | false => exact iteF (by rw [← e] at k; exact k)
    | true => exact iteT (isi_mono hc ⟨_, rfl, by rw [← e] at k; exact k⟩)
def spWithin : Sp := fun vs H Q _ => ∃ (x : V) (lo hi : Int), vs = [x, .int lo, .int hi] ∧ PlainV H x ∧ Q (.bl (wiB x lo hi)) H
theorem ok_is_within (T : Txt K mg a) : FnOk P w K mg base CX0 2 a.f_is_within a.d_is_within ["thing", "least", "most"] spWithin := by
  refine T.F_is_within.ok sc_is_within (fun vs H Q E h => ?_) (fun cdv A outer s H vs Q E hr h => ?_)
  · obtain ⟨_, _, _, rfl, _⟩ := h
    rfl
  · obtain ⟨x, lo, hi, rfl, hx, k⟩ := h
    refine ⟨_, (pss_one (ps_ret (pe_and (pe_call (ok_is_whole T) (hr.mono (by decide)) rfl T.m_is_whole T.F_is_whole.kp T.b_is_whole .nil pass0 (pa_cons (pv 0) pa_nil)) (pe_one (pe_chain op_le op_le (pv 1) (pv 0) (pv 2)))))), ?_⟩
    walk_at "sm"
    refine ⟨x, rfl, hx, _, rfl, ?_⟩
    rcases hx with rfl | ⟨b, rfl⟩ | ⟨i, rfl⟩ | ⟨s, rfl⟩ | ⟨p, xs, rfl, e⟩ | ⟨p, xs, rfl, e⟩
    · exact iteF k
    · exact iteF k
    · refine iteT ?_
      walk_at "sm"
      refine ite2 (fun h => ?_) (fun h => ?_)
      · have e : wiB (.int i) lo hi = decide (i ≤ hi) := by show (decide _ && decide _) = _; rw [decide_eq_true h]; rfl
        rw [e] at k; exact k
      · have e : wiB (.int i) lo hi = false := by show (decide _ && decide _) = _; rw [decide_eq_false h]; rfl
        rw [e] at k; exact k
    · exact iteF k
    · exact iteF k
    · exact iteF k
def spSeq : Sp := fun vs H Q _ => ∃ x, vs = [x] ∧ PlainV H x ∧ ∀ H', Evl.Ex H H' → Q (.bl (sqV x)) H'
theorem ok_is_sequence (T : Txt K mg a) : FnOk P w K mg base CX0 1 a.f_is_sequence a.d_is_sequence ["thing"] spSeq := by
  refine T.F_is_sequence.ok sc_is_sequence (fun vs H Q E h => ?_) (fun cdv A outer s H vs Q E hr h => ?_)
  · obtain ⟨_, rfl, _⟩ := h
    rfl
  · obtain ⟨x, rfl, hx, k⟩ := h
    refine ⟨_, (pss_one (ps_ret (pe_callB call_isiT (by rfl) T.z_isinstance (by decide +kernel) (pa_cons (pv 0) (pa_cons (pe_tup (pa_cons (pe_bltn (v := .ty "list") (by rfl) T.z_list (by decide +kernel) rfl) (pa_cons (pe_bltn (v := .ty "tuple") (by rfl) T.z_tuple (by decide +kernel) rfl) pa_nil))) pa_nil))))), ?_⟩
    walk_at "sm"
    refine ⟨sz (by decide), fun tp htp => is_seq (hx.go (Evl.Ex.new htp)) upd_same (k _ (Evl.Ex.new htp))⟩
def spNum : Sp := fun vs H Q _ => ∃ x, vs = [x] ∧ PlainV H x ∧ Q (.bl (wiB x 0 4095)) H
theorem ok_is_number (T : Txt K mg a) : FnOk P w K mg base CX0 3 a.f_is_number a.d_is_number ["thing"] spNum := by
  refine T.F_is_number.ok sc_is_number (fun vs H Q E h => ?_) (fun cdv A outer s H vs Q E hr h => ?_)
  · obtain ⟨_, rfl, _⟩ := h
    rfl
  · obtain ⟨x, rfl, hx, k⟩ := h
    refine ⟨_, (pss_one (ps_ret (pe_call (ok_is_within T) (hr.mono (by decide)) rfl T.m_is_within T.F_is_within.kp T.b_is_within .nil pass0 (pa_cons (pv 0) (pa_cons pe_int (pa_cons (pe_glob rfl T.g_MOST_NUMBER.choose_spec.1 T.g_MOST_NUMBER.choose_spec.2) pa_nil)))))), ?_⟩
    walk_at "sm"
    exact ⟨x, 0, 4095, rfl, hx, k⟩
def spCW (C : Addr) : Sp := fun vs H Q E => ∃ x, vs = [x] ∧ PlainV H x ∧ (wiB x 1 12 = true → Q x H) ∧ (wiB x 1 12 = false → E (.ref C) none H)
theorem ok_check_width (T : Txt K mg a) : FnOk P w K mg base (L2.CX P w) 3 a.f_check_width a.d_check_width ["width"] (spCW a.c_BadWidth) := by
  refine T.F_check_width.okX sc_check_width (fun vs H Q E h => ?_) (fun cdv A outer s H vs Q E hr h => ?_)
  · obtain ⟨_, rfl, _⟩ := h
    rfl
  · obtain ⟨x, rfl, hx, k1, k2⟩ := h
    refine ⟨_, (pss_cons (ps_if (pt_not (pt_val (pe_call (ok_is_within T) (hr.mono (by decide)) rfl T.m_is_within T.F_is_within.kp T.b_is_within .nil pass0 (pa_cons (pv 0) (pa_cons pe_int (pa_cons (pe_glob rfl T.g_MOST_WIDTH.choose_spec.1 T.g_MOST_WIDTH.choose_spec.2) pa_nil)))))) (pss_one (ps_raise rfl (takes_of rfl rfl rfl rfl) (pmk_own0 PySem.F.excBase_ValueError T.q_BadWidth T.m_BadWidth T.k_BadWidth (raises_own T.sb_BadWidth T.ty_BadWidth) rfl)))
    pss_nil)
  (pss_one (ps_ret (pv 0)))), ?_⟩
    walk_at "sm"
    refine ⟨x, 1, 12, rfl, hx, _, rfl, ?_⟩
    cases e : wiB x 1 12 with
    | false => exact iteT (k2 e)
    | true => exact iteF (k1 e)
def spTwo : Sp := fun vs H Q _ => ∃ n : Nat, vs = [.int n] ∧ n ≤ 62 ∧ Q (.int (2 ^ n)) H
def ivTwo (n : Nat) (H : Hp) : Nat → L2.St → Hp → Prop := fun i σ H' => ∃ v, σ = [some (.int n), some (.int (2 ^ i)), v] ∧ H' = H
theorem ok_law_two (T : Txt K mg a) : FnOk P w K mg base CX0 1 a.f_law_two a.d_law_two ["_law_n"] spTwo := by
  refine T.F_law_two.ok sc_law_two (fun vs H Q E h => ?_) (fun cdv A outer s H vs Q E hr h => ?_)
  · obtain ⟨_, rfl, _⟩ := h
    rfl
  · obtain ⟨n, rfl, hn, k⟩ := h
    refine ⟨_, (pss_cons (ps_set (i := 1) sc_law_two.nd rfl (by first | exact Or.inl rfl | exact Or.inr rfl) pe_int)
  (pss_cons (ps_for PassesOwn.never rfl (pi_range1 (by rfl) T.z_range (pa_cons (pv 0) pa_nil)) (pg_name (i := 2) sc_law_two.nd rfl (by first | exact Or.inl rfl | exact Or.inr rfl)) (pss_one (ps_set (i := 1) sc_law_two.nd rfl (by first | exact Or.inl rfl | exact Or.inr rfl) (pe_op op_mul (pv 1) pe_int))))
  (pss_one (ps_ret (pv 1))))), ?_⟩
    walk_at "sm"
    refine ⟨_, rfl, (n : Int), rfl, by omega, by omega, ?_⟩
    refine for_range (lo := 0) (n := (n : Int).toNat) (ivTwo n H) ⟨none, rfl, rfl⟩ ?_ ?_
    · rintro i σ H' hi ⟨v, rfl, rfl⟩
      walk_at "sm"
      have p1 : (2 : Int) ^ i ≤ 2 ^ 62 := by
        have := Nat.pow_le_pow_right (show 0 < 2 by decide) (show i ≤ 62 by omega)
        exact_mod_cast this
      have p0 : (0 : Int) ≤ 2 ^ i := Int.le_of_lt (Int.pow_pos (by decide))
      refine ⟨.inl ⟨by omega, by omega⟩, some (.int (0 + (i : Int))), ?_, rfl⟩
      rw [Int.pow_succ]
    · rintro σ H' ⟨v, rfl, rfl⟩
      walk_at "sm"
      exact k
end


/-! ### the kinds of steps -/
inductive Pk | add | sub | mul | band | bor | bxor | eq | lt
deriving DecidableEq
def Pk.sg : Pk → Str
  | .add => "+" | .sub => "-" | .mul => "*" | .band => "&" | .bor => "|" | .bxor => "^" | .eq => "==" | .lt => "<"
def Pk.val (k : Pk) (x y : Int) : Int := match k with
  | .add => x + y | .sub => x - y | .mul => x * y | .band => Builtin.bitAnd x y | .bor => Builtin.bitOr x y | .bxor => Builtin.bitXor x y
  | .eq => if x = y then 1 else 0 | .lt => if x < y then 1 else 0
inductive Kd | pr (k : Pk) | pick | same | sh (l : Bool) (n : Nat) | tab (ns : List Int)
def goodTab (ns : List Int) : Prop := (ns.length = 1 ∨ ns.length = 2 ∨ ns.length = 4 ∨ ns.length = 8 ∨ ns.length = 16) ∧ ∀ n ∈ ns, 0 ≤ n ∧ n ≤ 4095
def shS (l : Bool) : Str := if l = true then "<<" else ">>"
/-- at p stands a tuple that is this kind -/
def KdAt (H : Hp) (p : Addr) : Kd → Prop
  | .pr k => H p = some (.tup [.str k.sg])
  | .pick => H p = some (.tup [.str "pick"])
  | .same => H p = some (.tup [.str "same"])
  | .sh l n => H p = some (.tup [.str (shS l), .int n]) ∧ n ≤ 4095
  | .tab ns => ∃ t, H p = some (.tup [.str "table", .ref t]) ∧ H t = some (.tup (ns.map V.int)) ∧ goodTab ns
theorem KdAt.go {H H' : Hp} {p : Addr} {k : Kd} (e : Evl.Ex H H') (h : KdAt H p k) : KdAt H' p k := by
  cases k with
  | pr k => exact e _ _ h
  | pick => exact e _ _ h
  | same => exact e _ _ h
  | sh l n => exact ⟨e _ _ h.1, h.2⟩
  | tab ns => obtain ⟨t, h1, h2, h3⟩ := h; exact ⟨t, e _ _ h1, e _ _ h2, h3⟩
def Kd.many : Kd → Nat
  | .pr _ => 2 | .pick => 3 | .same => 1 | .sh _ _ => 1 | .tab _ => 1
def Kd.sg : Kd → Str
  | .pr k => k.sg | .pick => "pick" | .same => "same" | .sh l _ => shS l | .tab _ => "table"
theorem KdAt.head {H : Hp} {p : Addr} {k : Kd} (h : KdAt H p k) : ∃ r, H p = some (.tup (.str k.sg :: r)) := by
  cases k with
  | pr k => exact ⟨_, h⟩
  | pick => exact ⟨_, h⟩
  | same => exact ⟨_, h⟩
  | sh l n => exact ⟨_, h.1⟩
  | tab ns => obtain ⟨t, h1, _⟩ := h; exact ⟨_, h1⟩
def prL : List V := [.str "+", .str "-", .str "*", .str "&", .str "|", .str "^", .str "==", .str "<"]
def Kd.isPr : Kd → Bool
  | .pr _ => true
  | _ => false
theorem sg_pick (k : Kd) : k.sg = ("pick" : Str) ↔ k = .pick := by
  cases k with
  | pr k => cases k <;> exact ⟨fun h => absurd h (by decide +kernel), fun h => by cases h⟩
  | pick => exact ⟨fun _ => rfl, fun _ => rfl⟩
  | same => exact ⟨fun h => absurd h (by decide +kernel), fun h => by cases h⟩
  | sh l n => cases l <;> exact ⟨fun h => absurd h (by show ¬ (shS _ = _); decide +kernel), fun h => by cases h⟩
  | tab ns => exact ⟨fun h => absurd h (by show ¬ (("table" : Str) = _); decide +kernel), fun h => by cases h⟩
theorem sg_pr (k : Kd) : inV (.str k.sg) prL = k.isPr := by
  cases k with
  | pr k => cases k <;> decide +kernel
  | pick => decide +kernel
  | same => decide +kernel
  | sh l n => cases l <;> (show inV (.str (shS _)) prL = false) <;> decide +kernel
  | tab ns => show inV (.str "table") prL = false; decide +kernel
theorem iteN {c A B : Prop} [Decidable c] (h : ¬ c) (b : B) : if c then A else B := by rw [if_neg h]; exact b
theorem iteP {c A B : Prop} [Decidable c] (h : c) (a : A) : if c then A else B := by rw [if_pos h]; exact a
theorem ix0 {K : PySem.W.Frag} {H : Hp} {p : Addr} {x : V} {r : List V} {Q : VK} (h : H p = some (.tup (x :: r))) (q : Q x H) : rIxT K (.ref p) (.int 0) H Q := ixt h (atI_nat (j := 0) rfl) q
theorem ix1 {K : PySem.W.Frag} {H : Hp} {p : Addr} {x y : V} {r : List V} {Q : VK} (h : H p = some (.tup (x :: y :: r))) (q : Q y H) : rIxT K (.ref p) (.int 1) H Q := ixt h (atI_nat (j := 1) rfl) q
theorem ix2 {K : PySem.W.Frag} {H : Hp} {p : Addr} {x y z : V} {r : List V} {Q : VK} (h : H p = some (.tup (x :: y :: z :: r))) (q : Q z H) : rIxT K (.ref p) (.int 2) H Q := ixt h (atI_nat (j := 2) rfl) q
/-- the word of a single step's own working, and of a step at all -/
def Kd.one (k : Kd) (x : Int) : Int := match k with
  | .sh l n => if l = true then x * 2 ^ n else x / 2 ^ n
  | .tab ns => (ns[(x % ns.length).toNat]?).getD 0
  | _ => x
def Kd.word (k : Kd) (ws : List Int) (w : Nat) : Int := match k, ws with
  | .pick, [x, y, z] => if x = 0 then z else y
  | .pr k, [x, y] => k.val x y % 2 ^ w
  | k, [x] => k.one x % 2 ^ w
  | _, _ => 0
section
variable {P : Program} {w : World} {K : PySem.W.Frag} {mg : Str → Option Value} {base : Heap} {a : Ad}
def spOC : Sp := fun vs H Q _ => ∃ (p : Addr) (k : Kd), vs = [.ref p] ∧ KdAt H p k ∧ Q (.int k.many) H
theorem ok_operand_count (T : Txt K mg a) : FnOk P w K mg base CX0 1 a.f_operand_count a.d_operand_count ["kind"] spOC := by
  refine T.F_operand_count.ok sc_operand_count (fun vs H Q E h => ?_) (fun cdv A outer s H vs Q E hr h => ?_)
  · obtain ⟨_, _, rfl, _⟩ := h
    rfl
  · obtain ⟨p, kd, rfl, hk, k⟩ := h
    refine ⟨_, (pss_cons (ps_if (pt_cmpR op_eq (pe_ix ix_tup (pv 0) pe_int (fun _ _ => rfl)) pe_str (nomark _)) (pss_one (ps_ret pe_int))
    pss_nil)
  (pss_one (ps_ret (pe_ifExp (pt_cmpR op_in_seq (pe_ix ix_tup (pv 0) pe_int (fun _ _ => rfl)) (pe_glob rfl T.g_PAIR_SIGNS.choose_spec.1 T.g_PAIR_SIGNS.choose_spec.2) (by rfl)) pe_int pe_int)))), ?_⟩
    obtain ⟨r, hp⟩ := hk.head
    walk_at "sm"
    refine ix0 hp ⟨rfl, ite2 (fun e => ?_) fun e => ix0 hp (in_tup (T.t_PAIR_SIGNS H) rfl (by decide +kernel) ?_)⟩
    · rw [(sg_pick kd).mp (by simpa using e)] at k
      exact k
    · show ∃ c, _
      have e' : ¬ kd = .pick := fun q => e (by rw [q]; rfl)
      refine ⟨_, rfl, ?_⟩
      have := sg_pr kd
      unfold prL at this
      rw [this]
      cases kd with
      | pr k => exact iteT k
      | pick => exact absurd rfl e'
      | same => exact iteF k
      | sh l n => exact iteF k
      | tab ns => exact iteF k
def spPair : Sp := fun vs H Q _ => ∃ (k : Pk) (x y : Int), vs = [.str k.sg, .int x, .int y] ∧ (-(2 ^ 64) < x ∧ x < 2 ^ 64) ∧ Q (.int (k.val x y)) H
theorem ok_pair_word (T : Txt K mg a) : FnOk P w K mg base CX0 1 a.f_pair_word a.d_pair_word ["sign", "one", "other"] spPair := by
  refine T.F_pair_word.ok sc_pair_word (fun vs H Q E h => ?_) (fun cdv A outer s H vs Q E hr h => ?_)
  · obtain ⟨_, _, _, rfl, _⟩ := h
    rfl
  · obtain ⟨kd, x, y, rfl, hx, k⟩ := h
    refine ⟨_, (pss_cons (ps_if (pt_cmpR op_eq (pv 0) pe_str (nomark _)) (pss_one (ps_ret (pe_op op_add (pv 1) (pv 2))))
    pss_nil)
  (pss_cons (ps_if (pt_cmpR op_eq (pv 0) pe_str (nomark _)) (pss_one (ps_ret (pe_op op_sub (pv 1) (pv 2))))
    pss_nil)
  (pss_cons (ps_if (pt_cmpR op_eq (pv 0) pe_str (nomark _)) (pss_one (ps_ret (pe_op op_mul (pv 1) (pv 2))))
    pss_nil)
  (pss_cons (ps_if (pt_cmpR op_eq (pv 0) pe_str (nomark _)) (pss_one (ps_ret (pe_op op_and (pv 1) (pv 2))))
    pss_nil)
  (pss_cons (ps_if (pt_cmpR op_eq (pv 0) pe_str (nomark _)) (pss_one (ps_ret (pe_op op_or (pv 1) (pv 2))))
    pss_nil)
  (pss_cons (ps_if (pt_cmpR op_eq (pv 0) pe_str (nomark _)) (pss_one (ps_ret (pe_op op_xor (pv 1) (pv 2))))
    pss_nil)
  (pss_one (ps_ret (pe_ifExp (pt_cmpR op_eq (pv 0) pe_str (nomark _)) (pe_callTy call_int1 (by rfl) T.z_int (by decide +kernel) (pa_cons (pe_cmpR op_eq (pv 1) (pv 2) (nomark _)) pa_nil)) (pe_callTy call_int1 (by rfl) T.z_int (by decide +kernel) (pa_cons (pe_cmpR op_lt (pv 1) (pv 2) (nomark _)) pa_nil))))))))))), ?_⟩
    walk_at "sm"
    cases kd <;> (repeat (first | exact k | exact ⟨.inl hx, k⟩ | refine iteN (by decide +kernel) ?_ | refine iteP (by decide +kernel) ?_))
def spSingle : Sp := fun vs H Q _ => ∃ (p : Addr) (k : Kd) (x : Int), vs = [.ref p, .int x] ∧ KdAt H p k ∧ k.isPr = false ∧ k ≠ .pick ∧ 0 ≤ x ∧ x < 4096 ∧ Q (.int (k.one x)) H
theorem ok_single_word (T : Txt K mg a) : FnOk P w K mg base CX0 1 a.f_single_word a.d_single_word ["kind", "word"] spSingle := by
  refine T.F_single_word.ok sc_single_word (fun vs H Q E h => ?_) (fun cdv A outer s H vs Q E hr h => ?_)
  · obtain ⟨_, _, _, rfl, _⟩ := h
    rfl
  · obtain ⟨p, kd, x, rfl, hk, h1, h2, h3, h4, k⟩ := h
    refine ⟨_, (pss_cons (ps_if (pt_cmpR op_eq (pe_ix ix_tup (pv 0) pe_int (fun _ _ => rfl)) pe_str (nomark _)) (pss_one (ps_ret (pe_ix ix_tup (pe_ix ix_tup (pv 0) pe_int (fun _ _ => rfl)) (pe_op op_mod (pv 1) (pe_callB call_len_seq (by rfl) T.z_len (by decide +kernel) (pa_cons (pe_ix ix_tup (pv 0) pe_int (fun _ _ => rfl)) pa_nil))) (fun _ _ => rfl))))
    pss_nil)
  (pss_cons (ps_if (pt_cmpR op_eq (pe_ix ix_tup (pv 0) pe_int (fun _ _ => rfl)) pe_str (nomark _)) (pss_one (ps_ret (pv 1)))
    pss_nil)
  (pss_one (ps_ret (pe_ifExp (pt_cmpR op_eq (pe_ix ix_tup (pv 0) pe_int (fun _ _ => rfl)) pe_str (nomark _)) (pe_op op_shl (pv 1) (pe_ix ix_tup (pv 0) pe_int (fun _ _ => rfl))) (pe_op op_shr (pv 1) (pe_ix ix_tup (pv 0) pe_int (fun _ _ => rfl)))))))), ?_⟩
    obtain ⟨r, hp⟩ := hk.head
    walk_at "sm"
    refine ix0 hp ⟨rfl, ?_⟩
    cases kd with
    | pr kk => cases h1
    | pick => exact absurd rfl h2
    | same =>
      refine iteN (by decide +kernel) (ix0 hp ⟨rfl, iteP rfl k⟩)
    | sh l n =>
      obtain ⟨hp2, hn⟩ := hk
      refine iteN (by cases l <;> (show ¬ (V.str (shS _) = _)) <;> decide +kernel) (ix0 hp ⟨rfl, iteN (by cases l <;> (show ¬ (V.str (shS _) = _)) <;> decide +kernel) (ix0 hp ⟨rfl, ?_⟩)⟩)
      cases l with
      | true => exact iteP rfl (ix1 hp2 ⟨_, rfl, ⟨by omega, by omega, by omega⟩, k⟩)
      | false => exact iteN (by show ¬ (V.str (shS _) = _); decide +kernel) (ix1 hp2 ⟨_, rfl, by omega, k⟩)
    | tab ns =>
      obtain ⟨t, hp2, ht, hg, hb⟩ := hk
      have hl : 0 < ns.length := by omega
      have e0 := Int.emod_nonneg x (show (ns.length : Int) ≠ 0 by omega)
      have e1 := Int.emod_lt_of_pos x (show (0 : Int) < ns.length by omega)
      refine iteP rfl (ix1 hp2 (ix1 hp2 ⟨t, rfl, _, .inr (SqT.of ht), by rw [List.length_map]; omega, ?_⟩))
      rw [List.length_map]
      have k2 : Q (.int ((ns[(x % ns.length).toNat]?).getD 0)) H := k
      obtain ⟨j, hj⟩ : ∃ j : Nat, x % (ns.length : Int) = (j : Int) := ⟨(x % ns.length).toNat, by omega⟩
      rw [hj] at k2 e1 ⊢
      rw [Int.toNat_natCast] at k2
      have hj2 : j < ns.length := by omega
      rw [List.getElem?_eq_getElem hj2] at k2
      exact ixt ht (atI_nat (by rw [List.getElem?_map, List.getElem?_eq_getElem hj2]; rfl)) k2
def spStep : Sp := fun vs H Q _ => ∃ (p t : Addr) (k : Kd) (ws : List Int) (w : Nat), vs = [.ref p, .ref t, .int w] ∧ KdAt H p k ∧ H t = some (.tup (ws.map V.int)) ∧ ws.length = k.many ∧ (∀ x ∈ ws, 0 ≤ x ∧ x < 4096) ∧ w ≤ 12 ∧ Q (.int (k.word ws w)) H
theorem ok_step_word (T : Txt K mg a) : FnOk P w K mg base CX0 2 a.f_step_word a.d_step_word ["kind", "words", "width"] spStep := by
  refine T.F_step_word.ok sc_step_word (fun vs H Q E h => ?_) (fun cdv A outer s H vs Q E hr h => ?_)
  · obtain ⟨_, _, _, _, _, rfl, _⟩ := h
    rfl
  · obtain ⟨p, t, kd, ws, wd, rfl, hk, ht, hl, hb, hw, k⟩ := h
    refine ⟨_, (pss_cons (ps_set (i := 3) sc_step_word.nd rfl (by first | exact Or.inl rfl | exact Or.inr rfl) (pe_op op_sub (pe_op op_shl pe_int (pv 2)) pe_int))
  (pss_cons (ps_if (pt_cmpR op_eq (pe_ix ix_tup (pv 0) pe_int (fun _ _ => rfl)) pe_str (nomark _)) (pss_one (ps_ret (pe_ifExp (pt_truth (pe_ix ix_tup (pv 1) pe_int (fun _ _ => rfl)) (by intro _; rfl)) (pe_ix ix_tup (pv 1) pe_int (fun _ _ => rfl)) (pe_ix ix_tup (pv 1) pe_int (fun _ _ => rfl)))))
    pss_nil)
  (pss_cons (ps_if (pt_cmpR op_in_seq (pe_ix ix_tup (pv 0) pe_int (fun _ _ => rfl)) (pe_glob rfl T.g_PAIR_SIGNS.choose_spec.1 T.g_PAIR_SIGNS.choose_spec.2) (by rfl)) (pss_one (ps_ret (pe_op op_andM (pe_call (ok_pair_word T) (hr.mono (by decide)) rfl T.m_pair_word T.F_pair_word.kp T.b_pair_word .nil pass0 (pa_cons (pe_ix ix_tup (pv 0) pe_int (fun _ _ => rfl)) (pa_cons (pe_ix ix_tup (pv 1) pe_int (fun _ _ => rfl)) (pa_cons (pe_ix ix_tup (pv 1) pe_int (fun _ _ => rfl)) pa_nil)))) (pv 3))))
    pss_nil)
  (pss_one (ps_ret (pe_op op_andM (pe_call (ok_single_word T) (hr.mono (by decide)) rfl T.m_single_word T.F_single_word.kp T.b_single_word .nil pass0 (pa_cons (pv 0) (pa_cons (pe_ix ix_tup (pv 1) pe_int (fun _ _ => rfl)) pa_nil))) (pv 3))))))), ?_⟩
    obtain ⟨r, hp⟩ := hk.head
    walk_at "sm"
    refine ⟨⟨by omega, by omega, by decide⟩, ix0 hp ⟨rfl, ite2 (fun e => ?_) fun e => ix0 hp (in_tup (T.t_PAIR_SIGNS H) rfl (by decide +kernel) ⟨_, rfl, ?_⟩)⟩⟩
    · have e2 := (sg_pick kd).mp (by simpa using e)
      subst e2
      obtain ⟨x, y, z, rfl⟩ : ∃ x y z, ws = [x, y, z] := match ws, hl with
        | [_, _, _], _ => ⟨_, _, _, rfl⟩
      have k2 : Q (.int (if x = 0 then z else y)) H := k
      refine ix0 ht ⟨x != 0, rfl, ?_⟩
      by_cases hx : x = 0
      · subst hx
        exact iteF (ix2 ht (by rw [if_pos rfl] at k2; exact k2))
      · rw [if_neg hx] at k2
        exact iteP (by simpa using hx) (ix1 ht k2)
    · have e' : ¬ kd = .pick := fun q => e (by rw [q]; rfl)
      have := sg_pr kd
      unfold prL at this
      rw [this]
      have em : (1 : Int) * 2 ^ (wd : Int).toNat - 1 = 2 ^ wd - 1 := by rw [Int.toNat_natCast, Int.one_mul]
      cases kd with
      | pick => exact absurd rfl e'
      | pr kk =>
        obtain ⟨x, y, rfl⟩ : ∃ x y, ws = [x, y] := match ws, hl with
          | [_, _], _ => ⟨_, _, rfl⟩
        have hx := hb x List.mem_cons_self
        exact iteT (ix0 hk (ix0 ht (ix1 ht ⟨kk, x, y, rfl, ⟨by omega, by omega⟩, _, rfl, wd, em, k⟩)))
      | same =>
        obtain ⟨x, rfl⟩ : ∃ x, ws = [x] := match ws, hl with
          | [_], _ => ⟨_, rfl⟩
        have hx := hb x List.mem_cons_self
        exact iteF (ix0 ht ⟨p, .same, x, rfl, hk, rfl, (fun q => by cases q), hx.1, hx.2, _, rfl, wd, em, k⟩)
      | sh l n =>
        obtain ⟨x, rfl⟩ : ∃ x, ws = [x] := match ws, hl with
          | [_], _ => ⟨_, rfl⟩
        have hx := hb x List.mem_cons_self
        exact iteF (ix0 ht ⟨p, .sh l n, x, rfl, hk, rfl, (fun q => by cases q), hx.1, hx.2, _, rfl, wd, em, k⟩)
      | tab ns =>
        obtain ⟨x, rfl⟩ : ∃ x, ws = [x] := match ws, hl with
          | [_], _ => ⟨_, rfl⟩
        have hx := hb x List.mem_cons_self
        exact iteF (ix0 ht ⟨p, .tab ns, x, rfl, hk, rfl, (fun q => by cases q), hx.1, hx.2, _, rfl, wd, em, k⟩)
end


/-! ### bit by bit -/
def Pk.nat (k : Pk) (x y : Nat) : Nat := match k with
  | .band => x &&& y | .bor => x ||| y | _ => x ^^^ y
def onB (k : Pk) (a b : Nat) : Bool := match k with
  | .band => decide (a + b = 2) | .bor => decide (0 < a + b) | _ => decide (a + b = 1)
def Pk.isBit (k : Pk) : Prop := k = .band ∨ k = .bor ∨ k = .bxor
theorem bit_step {k : Pk} (hk : k.isBit) (x y i : Nat) : k.nat x y / 2 ^ i % 2 = if onB k (x / 2 ^ i % 2) (y / 2 ^ i % 2) = true then 1 else 0 := by
  have a := Nat.testBit_eq_decide_div_mod_eq (x := x) (i := i)
  have b := Nat.testBit_eq_decide_div_mod_eq (x := y) (i := i)
  have hx := Nat.mod_lt (x / 2 ^ i) (show 0 < 2 by decide)
  have hy := Nat.mod_lt (y / 2 ^ i) (show 0 < 2 by decide)
  have c := Nat.testBit_eq_decide_div_mod_eq (x := k.nat x y) (i := i)
  have hc := Nat.mod_lt (k.nat x y / 2 ^ i) (show 0 < 2 by decide)
  have e : (k.nat x y).testBit i = onB k (x / 2 ^ i % 2) (y / 2 ^ i % 2) := by
    generalize x / 2 ^ i % 2 = p at *
    generalize y / 2 ^ i % 2 = q at *
    rcases hk with rfl | rfl | rfl
    · show (x &&& y).testBit i = decide (p + q = 2)
      rw [Nat.testBit_and, a, b]
      rcases (show p = 0 ∨ p = 1 by omega) with rfl | rfl <;> rcases (show q = 0 ∨ q = 1 by omega) with rfl | rfl <;> rfl
    · show (x ||| y).testBit i = decide (0 < p + q)
      rw [Nat.testBit_or, a, b]
      rcases (show p = 0 ∨ p = 1 by omega) with rfl | rfl <;> rcases (show q = 0 ∨ q = 1 by omega) with rfl | rfl <;> rfl
    · show (x ^^^ y).testBit i = decide (p + q = 1)
      rw [Nat.testBit_xor, a, b]
      rcases (show p = 0 ∨ p = 1 by omega) with rfl | rfl <;> rcases (show q = 0 ∨ q = 1 by omega) with rfl | rfl <;> rfl
  rw [← e, c]
  by_cases h : k.nat x y / 2 ^ i % 2 = 1
  · rw [h]; rfl
  · rw [decide_eq_false h, if_neg (by decide)]
    omega
theorem nat_lt {k : Pk} (hk : k.isBit) {x y n : Nat} (hx : x < 2 ^ n) (hy : y < 2 ^ n) : k.nat x y < 2 ^ n := by
  rcases hk with rfl | rfl | rfl
  · exact Nat.and_lt_two_pow x hy
  · exact Nat.or_lt_two_pow hx hy
  · exact Nat.xor_lt_two_pow hx hy
theorem val_nat {k : Pk} (hk : k.isBit) {x y : Int} (hx : 0 ≤ x) (hy : 0 ≤ y) : k.val x y = ((k.nat x.toNat y.toNat : Nat) : Int) := by
  rcases hk with rfl | rfl | rfl
  · exact bitAnd_pp hx hy
  · exact Bits.bitOr_pp hx hy
  · exact Bits.bitXor_pp hx hy
theorem mod_next (n i : Nat) : n % 2 ^ (i + 1) = n % 2 ^ i + 2 ^ i * (n / 2 ^ i % 2) := Nat.mod_pow_succ
section
variable {P : Program} {w : World} {K : PySem.W.Frag} {mg : Str → Option Value} {base : Heap} {a : Ad}
def spOps : Sp := fun vs H Q _ => ∃ (p : Addr) (k : Kd), vs = [.ref p] ∧ KdAt H p k ∧ ∀ H', Evl.Ex H H' → Q (.int k.many) H'
theorem sg_one (k : Kd) : inV (.str k.sg) [.str "<<", .str ">>", .str "table", .str "same"] = (!k.isPr && decide (k.sg ≠ ("pick" : Str))) := by
  cases k with
  | pr k => cases k <;> decide +kernel
  | pick => decide +kernel
  | same => decide +kernel
  | sh l n => cases l <;> (show inV (.str (shS _)) _ = (!false && decide (shS _ ≠ _))) <;> decide +kernel
  | tab ns => show inV (.str "table") _ = (!false && decide (("table" : Str) ≠ _)); decide +kernel
theorem in_lst {K : PySem.W.Frag} {H : Hp} {p : Addr} {xs : List V} {x : V} {Q : VK} (h : H p = some (.lst xs)) (fx : flatV x = true) (fxs : xs.all flatV = true) (q : Q (.bl (inV x xs)) H) : rIn K false x (.ref p) H Q := ⟨p, xs, rfl, .inl (SqL.of h), fx, fxs, q⟩
theorem ok_law_operands (T : Txt K mg a) : FnOk P w K mg base CX0 1 a.f_law_operands a.d_law_operands ["_law_kind_here"] spOps := by
  refine T.F_law_operands.ok sc_law_operands (fun vs H Q E h => ?_) (fun cdv A outer s H vs Q E hr h => ?_)
  · obtain ⟨_, _, rfl, _⟩ := h
    rfl
  · obtain ⟨p, kd, rfl, hk, k⟩ := h
    refine ⟨_, (pss_cons (ps_if (pt_cmpR op_eq (pe_ix ix_tup (pv 0) pe_int (fun _ _ => rfl)) pe_str (nomark _)) (pss_one (ps_ret pe_int))
    pss_nil)
  (pss_one (ps_ret (pe_ifExp (pt_cmpR op_in_seq (pe_ix ix_tup (pv 0) pe_int (fun _ _ => rfl)) (pe_lst (pa_cons pe_str (pa_cons pe_str (pa_cons pe_str (pa_cons pe_str pa_nil))))) (by rfl)) pe_int pe_int)))), ?_⟩
    obtain ⟨r, hp⟩ := hk.head
    walk_at "sm"
    refine ix0 hp ⟨rfl, ite2 (fun e => ?_) fun e => ix0 hp ⟨sz (by decide), fun l hl => in_lst upd_same rfl (by decide +kernel) ⟨_, rfl, ?_⟩⟩⟩
    · have e2 := (sg_pick kd).mp (by simpa using e)
      subst e2
      exact k _ (Evl.Ex.refl _)
    · have e' : kd.sg ≠ ("pick" : Str) := by simpa using e
      rw [sg_one, decide_eq_true e']
      have k2 := k _ (Evl.Ex.new (o := .lst [V.str "<<", V.str ">>", V.str "table", V.str "same"]) hl)
      cases kd with
      | pr kk => exact iteF k2
      | pick => exact absurd rfl e'
      | same => exact iteT k2
      | sh l n => exact iteT k2
      | tab ns => exact iteT k2
def spBits : Sp := fun vs H Q _ => ∃ (k : Pk) (x y : Nat), vs = [.int x, .int y, .str k.sg] ∧ k.isBit ∧ x < 4096 ∧ y < 4096 ∧ Q (.int (k.nat x y)) H
def ivBits (k : Pk) (x y : Nat) (H : Hp) : Nat → L2.St → Hp → Prop := fun i σ H' => ∃ v5 v6 v7 v8, σ = [some (.int x), some (.int y), some (.str k.sg), some (.int ((k.nat x y % 2 ^ i : Nat) : Int)), some (.int ((2 ^ i : Nat) : Int)), v5, v6, v7, v8] ∧ H' = H
theorem ok_law_bits (T : Txt K mg a) : FnOk P w K mg base CX0 1 a.f_law_bits a.d_law_bits ["_law_one", "_law_other", "_law_sign"] spBits := by
  refine T.F_law_bits.ok sc_law_bits (fun vs H Q E h => ?_) (fun cdv A outer s H vs Q E hr h => ?_)
  · obtain ⟨_, _, _, rfl, _⟩ := h
    rfl
  · obtain ⟨kd, x, y, rfl, hk, hx, hy, k⟩ := h
    refine ⟨_, (pss_cons (ps_set (i := 3) sc_law_bits.nd rfl (by first | exact Or.inl rfl | exact Or.inr rfl) pe_int)
  (pss_cons (ps_set (i := 4) sc_law_bits.nd rfl (by first | exact Or.inl rfl | exact Or.inr rfl) pe_int)
  (pss_cons (ps_for PassesOwn.never rfl (pi_range1 (by rfl) T.z_range (pa_cons pe_int pa_nil)) (pg_name (i := 5) sc_law_bits.nd rfl (by first | exact Or.inl rfl | exact Or.inr rfl)) (pss_cons (ps_set (i := 6) sc_law_bits.nd rfl (by first | exact Or.inl rfl | exact Or.inr rfl) (pe_op op_mod (pe_op op_fdiv (pe_callTy call_int1 (by rfl) T.z_int (by decide +kernel) (pa_cons (pv 0) pa_nil)) (pv 4)) pe_int))
  (pss_cons (ps_set (i := 7) sc_law_bits.nd rfl (by first | exact Or.inl rfl | exact Or.inr rfl) (pe_op op_mod (pe_op op_fdiv (pe_callTy call_int1 (by rfl) T.z_int (by decide +kernel) (pa_cons (pv 1) pa_nil)) (pv 4)) pe_int))
  (pss_cons (ps_set (i := 8) sc_law_bits.nd rfl (by first | exact Or.inl rfl | exact Or.inr rfl) (pe_ifExp (pt_cmpR op_eq (pv 2) pe_str (nomark _)) (pe_cmpR op_eq (pe_op op_add (pv 6) (pv 7)) pe_int (nomark _)) (pe_ifExp (pt_cmpR op_eq (pv 2) pe_str (nomark _)) (pe_cmpR op_gt (pe_op op_add (pv 6) (pv 7)) pe_int (nomark _)) (pe_cmpR op_eq (pe_op op_add (pv 6) (pv 7)) pe_int (nomark _)))))
  (pss_cons (ps_set (i := 3) sc_law_bits.nd rfl (by first | exact Or.inl rfl | exact Or.inr rfl) (pe_op op_add (pv 3) (pe_ifExp (pt_val (pv 8)) (pv 4) pe_int)))
  (pss_one (ps_set (i := 4) sc_law_bits.nd rfl (by first | exact Or.inl rfl | exact Or.inr rfl) (pe_op op_mul (pv 4) pe_int))))))))
  (pss_one (ps_ret (pv 3)))))), ?_⟩
    walk_at "sm"
    refine ⟨12, rfl, by decide, by decide, ?_⟩
    refine for_range (lo := 0) (n := (12 : Int).toNat) (ivBits kd x y H) ⟨none, none, none, none, by rw [Nat.pow_zero, Nat.mod_one]; rfl, rfl⟩ ?_ ?_
    · rintro i σ H' hi ⟨v5, v6, v7, v8, rfl, rfl⟩
      walk_at "sm"
      have hi2 : i < 12 := hi
      have p0 : 0 < 2 ^ i := Nat.pow_pos (by decide)
      have p1 : 2 ^ i ≤ 4096 := Nat.pow_le_pow_right (show 0 < 2 by decide) (show i ≤ 12 by omega)
      have cd : CDiv (x : Int) ((2 ^ i : Nat) : Int) ∧ CDiv (y : Int) ((2 ^ i : Nat) : Int) := ⟨⟨by omega, by omega⟩, ⟨by omega, by omega⟩⟩
      have cm : CMul ((2 ^ i : Nat) : Int) 2 := .inl ⟨by omega, by omega⟩
      refine ⟨cd.1, by decide, cd.2, by decide, ?_⟩
      have st := bit_step hk x y i
      have nx := mod_next (kd.nat x y) i
      have ea : ((x : Int) / ((2 ^ i : Nat) : Int) % 2) = ((x / 2 ^ i % 2 : Nat) : Int) := by rw [← Int.natCast_ediv]; rfl
      have eb : ((y : Int) / ((2 ^ i : Nat) : Int) % 2) = ((y / 2 ^ i % 2 : Nat) : Int) := by rw [← Int.natCast_ediv]; rfl
      rw [ea, eb]
      have ys : ∀ v5 v6 v7 v8, onB kd (x / 2 ^ i % 2) (y / 2 ^ i % 2) = true → CMul ((2 ^ i : Nat) : Int) 2 ∧ ivBits kd x y H' (i + 1) [some (.int x), some (.int y), some (.str kd.sg), some (.int (((kd.nat x y % 2 ^ i : Nat) : Int) + ((2 ^ i : Nat) : Int))), some (.int (((2 ^ i : Nat) : Int) * 2)), v5, v6, v7, v8] H' := by
        intro v5 v6 v7 v8 h
        rw [if_pos h] at st
        rw [st, Nat.mul_one] at nx
        refine ⟨cm, v5, v6, v7, v8, ?_, rfl⟩
        rw [nx, Nat.pow_succ, Int.natCast_add, Int.natCast_mul]
        rfl
      have no : ∀ v5 v6 v7 v8, ¬ onB kd (x / 2 ^ i % 2) (y / 2 ^ i % 2) = true → CMul ((2 ^ i : Nat) : Int) 2 ∧ ivBits kd x y H' (i + 1) [some (.int x), some (.int y), some (.str kd.sg), some (.int (((kd.nat x y % 2 ^ i : Nat) : Int) + 0)), some (.int (((2 ^ i : Nat) : Int) * 2)), v5, v6, v7, v8] H' := by
        intro v5 v6 v7 v8 h
        rw [if_neg h] at st
        rw [st, Nat.mul_zero] at nx
        refine ⟨cm, v5, v6, v7, v8, ?_, rfl⟩
        rw [nx, Nat.pow_succ, Int.add_zero, Nat.add_zero, Int.natCast_mul]
        rfl
      generalize x / 2 ^ i % 2 = p at *
      generalize y / 2 ^ i % 2 = q at *
      rcases hk with rfl | rfl | rfl
      · refine iteP (by decide +kernel) (ite2 (fun h => ys _ _ _ _ (decide_eq_true (by omega))) fun h => no _ _ _ _ fun z => h (by have := of_decide_eq_true z; omega))
      · refine iteN (by decide +kernel) (iteP (by decide +kernel) (ite2 (fun h => ys _ _ _ _ (decide_eq_true (by omega))) fun h => no _ _ _ _ fun z => h (by have := of_decide_eq_true z; omega)))
      · refine iteN (by decide +kernel) (iteN (by decide +kernel) (ite2 (fun h => ys _ _ _ _ (decide_eq_true (by omega))) fun h => no _ _ _ _ fun z => h (by have := of_decide_eq_true z; omega)))
    · rintro σ H' ⟨v5, v6, v7, v8, rfl, rfl⟩
      walk_at "sm"
      rw [show (12 : Int).toNat = 12 from rfl, Nat.mod_eq_of_lt (nat_lt hk (n := 12) (by omega) (by omega))]
      exact k
/-! ### the law's own word of a step -/
theorem two_le {w : Nat} (h : w ≤ 12) : (0 : Int) < 2 ^ w ∧ (2 : Int) ^ w ≤ 4096 := by
  have p1 : 2 ^ w ≤ 4096 := Nat.pow_le_pow_right (show 0 < 2 by decide) (show w ≤ 12 by omega)
  have p2 : 0 < 2 ^ w := Nat.pow_pos (by decide)
  constructor
  · exact Int.pow_pos (by decide)
  · exact_mod_cast p1
theorem shl_zero {x : Int} {n w : Nat} (h : w ≤ n) : x * 2 ^ n % 2 ^ w = 0 := by
  obtain ⟨d, rfl⟩ : ∃ d, n = w + d := ⟨n - w, by omega⟩
  rw [Int.pow_add, ← Int.mul_assoc, Int.mul_comm (x * 2 ^ w), ← Int.mul_assoc, Int.mul_emod_left]
theorem shr_zero {x : Int} {n w : Nat} (h : w ≤ n) (h0 : 0 ≤ x) (h1 : x < 2 ^ w) : x / 2 ^ n = 0 := by
  refine Int.ediv_eq_zero_of_lt h0 (Int.lt_of_lt_of_le h1 ?_)
  have := Nat.pow_le_pow_right (show 0 < 2 by decide) h
  exact_mod_cast this
theorem shr_lt {x : Int} {n w : Nat} (h0 : 0 ≤ x) (h1 : x < 2 ^ w) : 0 ≤ x / 2 ^ n ∧ x / 2 ^ n < 2 ^ w := by
  have p : (0 : Int) ≤ 2 ^ n := Int.le_of_lt (Int.pow_pos (by decide))
  refine ⟨Int.ediv_nonneg h0 p, Int.lt_of_le_of_lt (Int.ediv_le_self _ h0) h1⟩
theorem bit_mod {k : Pk} (hk : k.isBit) {x y : Int} {w : Nat} (hx : 0 ≤ x) (hy : 0 ≤ y) (gx : x < 2 ^ w) (gy : y < 2 ^ w) : k.val x y % 2 ^ w = ((k.nat x.toNat y.toNat : Nat) : Int) := by
  rw [val_nat hk hx hy]
  have hx2 : x.toNat < 2 ^ w := by
    have : ((x.toNat : Nat) : Int) < ((2 ^ w : Nat) : Int) := by rw [Int.toNat_of_nonneg hx]; exact_mod_cast gx
    exact_mod_cast this
  have hy2 : y.toNat < 2 ^ w := by
    have : ((y.toNat : Nat) : Int) < ((2 ^ w : Nat) : Int) := by rw [Int.toNat_of_nonneg hy]; exact_mod_cast gy
    exact_mod_cast this
  have := nat_lt hk hx2 hy2
  refine Int.emod_eq_of_lt (Int.natCast_nonneg _) ?_
  exact_mod_cast this
theorem one_mod {c : Prop} [Decidable c] {w : Nat} (h : 1 ≤ w) : (if c then (1 : Int) else 0) % 2 ^ w = if c then 1 else 0 := by
  have p : (2 : Int) ≤ 2 ^ w := by
    have := Nat.pow_le_pow_right (show 0 < 2 by decide) h
    exact_mod_cast this
  split
  · exact Int.emod_eq_of_lt (by decide) (by omega)
  · exact Int.zero_emod _
def spLStep : Sp := fun vs H Q _ => ∃ (p t : Addr) (k : Kd) (ws : List Int) (w : Nat), vs = [.ref p, .ref t, .int w] ∧ KdAt H p k ∧ H t = some (.lst (ws.map V.int)) ∧ ws.length = k.many ∧ (∀ x ∈ ws, 0 ≤ x ∧ x < 2 ^ w) ∧ 1 ≤ w ∧ w ≤ 12 ∧ Q (.int (k.word ws w)) H
theorem lx0 {K : PySem.W.Frag} {H : Hp} {p : Addr} {x : V} {r : List V} {Q : VK} (h : H p = some (.lst (x :: r))) (q : Q x H) : rIxL K (.ref p) (.int 0) H Q := ixl (SqL.of h) (atI_nat (j := 0) rfl) q
theorem lx1 {K : PySem.W.Frag} {H : Hp} {p : Addr} {x y : V} {r : List V} {Q : VK} (h : H p = some (.lst (x :: y :: r))) (q : Q y H) : rIxL K (.ref p) (.int 1) H Q := ixl (SqL.of h) (atI_nat (j := 1) rfl) q
theorem lx2 {K : PySem.W.Frag} {H : Hp} {p : Addr} {x y z : V} {r : List V} {Q : VK} (h : H p = some (.lst (x :: y :: z :: r))) (q : Q z H) : rIxL K (.ref p) (.int 2) H Q := ixl (SqL.of h) (atI_nat (j := 2) rfl) q
theorem ok_law_step_word (T : Txt K mg a) : FnOk P w K mg base CX0 2 a.f_law_step_word a.d_law_step_word ["_law_kind_here", "_law_words_here", "_law_width"] spLStep := by
  refine T.F_law_step_word.ok sc_law_step_word (fun vs H Q E h => ?_) (fun cdv A outer s H vs Q E hr h => ?_)
  · obtain ⟨_, _, _, _, _, rfl, _⟩ := h
    rfl
  · obtain ⟨p, t, kd, ws, wd, rfl, hk, ht, hl, hb, hw1, hw, k⟩ := h
    refine ⟨_, (pss_cons (ps_set (i := 3) sc_law_step_word.nd rfl (by first | exact Or.inl rfl | exact Or.inr rfl) (pe_call (ok_law_two T) (hr.mono (by decide)) rfl T.m_law_two T.F_law_two.kp T.b_law_two .nil pass0 (pa_cons (pv 2) pa_nil)))
  (pss_cons (ps_set (i := 4) sc_law_step_word.nd rfl (by first | exact Or.inl rfl | exact Or.inr rfl) (pe_ix ix_tup (pv 0) pe_int (fun _ _ => rfl)))
  (pss_cons (ps_if (pt_cmpR op_eq (pv 4) pe_str (nomark _)) (pss_one (ps_ret (pe_ix ix_list (pv 1) pe_int (fun _ _ => rfl))))
    pss_nil)
  (pss_cons (ps_if (pt_cmpR op_eq (pv 4) pe_str (nomark _)) (pss_one (ps_ret (pe_ifExp (pt_cmpR op_eq (pe_ix ix_list (pv 1) pe_int (fun _ _ => rfl)) pe_int (nomark _)) (pe_ix ix_list (pv 1) pe_int (fun _ _ => rfl)) (pe_ix ix_list (pv 1) pe_int (fun _ _ => rfl)))))
    pss_nil)
  (pss_cons (ps_if (pt_cmpR op_eq (pv 4) pe_str (nomark _)) (pss_one (ps_ret (pe_op op_mod (pe_callTy call_int1 (by rfl) T.z_int (by decide +kernel) (pa_cons (pe_ix ix_tup (pe_ix ix_tup (pv 0) pe_int (fun _ _ => rfl)) (pe_op op_mod (pe_callTy call_int1 (by rfl) T.z_int (by decide +kernel) (pa_cons (pe_ix ix_list (pv 1) pe_int (fun _ _ => rfl)) pa_nil)) (pe_callB call_len_seq (by rfl) T.z_len (by decide +kernel) (pa_cons (pe_ix ix_tup (pv 0) pe_int (fun _ _ => rfl)) pa_nil))) (fun _ _ => rfl)) pa_nil)) (pv 3))))
    pss_nil)
  (pss_cons (ps_if (pt_cmpR op_eq (pv 4) pe_str (nomark _)) (pss_one (ps_ret (pe_ifExp (pt_cmpR op_ge (pe_ix ix_tup (pv 0) pe_int (fun _ _ => rfl)) (pv 2) (nomark _)) pe_int (pe_op op_mod (pe_callTy call_int1 (by rfl) T.z_int (by decide +kernel) (pa_cons (pe_op op_mul (pe_ix ix_list (pv 1) pe_int (fun _ _ => rfl)) (pe_call (ok_law_two T) (hr.mono (by decide)) rfl T.m_law_two T.F_law_two.kp T.b_law_two .nil pass0 (pa_cons (pe_ix ix_tup (pv 0) pe_int (fun _ _ => rfl)) pa_nil))) pa_nil)) (pv 3)))))
    pss_nil)
  (pss_cons (ps_if (pt_cmpR op_eq (pv 4) pe_str (nomark _)) (pss_one (ps_ret (pe_ifExp (pt_cmpR op_ge (pe_ix ix_tup (pv 0) pe_int (fun _ _ => rfl)) (pv 2) (nomark _)) pe_int (pe_op op_fdiv (pe_callTy call_int1 (by rfl) T.z_int (by decide +kernel) (pa_cons (pe_ix ix_list (pv 1) pe_int (fun _ _ => rfl)) pa_nil)) (pe_call (ok_law_two T) (hr.mono (by decide)) rfl T.m_law_two T.F_law_two.kp T.b_law_two .nil pass0 (pa_cons (pe_ix ix_tup (pv 0) pe_int (fun _ _ => rfl)) pa_nil))))))
    pss_nil)
  (pss_cons (ps_if (pt_cmpR op_eq (pv 4) pe_str (nomark _)) (pss_one (ps_ret (pe_op op_mod (pe_callTy call_int1 (by rfl) T.z_int (by decide +kernel) (pa_cons (pe_op op_add (pe_ix ix_list (pv 1) pe_int (fun _ _ => rfl)) (pe_ix ix_list (pv 1) pe_int (fun _ _ => rfl))) pa_nil)) (pv 3))))
    pss_nil)
  (pss_cons (ps_if (pt_cmpR op_eq (pv 4) pe_str (nomark _)) (pss_one (ps_ret (pe_op op_mod (pe_callTy call_int1 (by rfl) T.z_int (by decide +kernel) (pa_cons (pe_op op_sub (pe_op op_add (pe_ix ix_list (pv 1) pe_int (fun _ _ => rfl)) (pv 3)) (pe_ix ix_list (pv 1) pe_int (fun _ _ => rfl))) pa_nil)) (pv 3))))
    pss_nil)
  (pss_cons (ps_if (pt_cmpR op_eq (pv 4) pe_str (nomark _)) (pss_one (ps_ret (pe_op op_mod (pe_callTy call_int1 (by rfl) T.z_int (by decide +kernel) (pa_cons (pe_op op_mul (pe_ix ix_list (pv 1) pe_int (fun _ _ => rfl)) (pe_ix ix_list (pv 1) pe_int (fun _ _ => rfl))) pa_nil)) (pv 3))))
    pss_nil)
  (pss_cons (ps_if (pt_cmpR op_eq (pv 4) pe_str (nomark _)) (pss_one (ps_ret (pe_ifExp (pt_cmpR op_eq (pe_ix ix_list (pv 1) pe_int (fun _ _ => rfl)) (pe_ix ix_list (pv 1) pe_int (fun _ _ => rfl)) (nomark _)) pe_int pe_int)))
    pss_nil)
  (pss_cons (ps_if (pt_cmpR op_eq (pv 4) pe_str (nomark _)) (pss_one (ps_ret (pe_ifExp (pt_cmpR op_lt (pe_ix ix_list (pv 1) pe_int (fun _ _ => rfl)) (pe_ix ix_list (pv 1) pe_int (fun _ _ => rfl)) (nomark _)) pe_int pe_int)))
    pss_nil)
  (pss_one (ps_ret (pe_call (ok_law_bits T) (hr.mono (by decide)) rfl T.m_law_bits T.F_law_bits.kp T.b_law_bits .nil pass0 (pa_cons (pe_ix ix_list (pv 1) pe_int (fun _ _ => rfl)) (pa_cons (pe_ix ix_list (pv 1) pe_int (fun _ _ => rfl)) (pa_cons (pv 4) pa_nil)))))))))))))))))), ?_⟩
    obtain ⟨r, hp⟩ := hk.head
    obtain ⟨t1, t2⟩ := two_le hw
    walk_at "sm"
    refine ⟨wd, rfl, by omega, ix0 hp ?_⟩
    walk_at "sm"
    cases kd with
    | same =>
      obtain ⟨x, rfl⟩ : ∃ x, ws = [x] := match ws, hl with
        | [_], _ => ⟨_, rfl⟩
      have hx := hb x List.mem_cons_self
      have e : Kd.word .same [x] wd = x := Int.emod_eq_of_lt hx.1 hx.2
      rw [e] at k
      exact iteP (by decide +kernel) (lx0 ht k)
    | pick =>
      obtain ⟨x, y, z, rfl⟩ : ∃ x y z, ws = [x, y, z] := match ws, hl with
        | [_, _, _], _ => ⟨_, _, _, rfl⟩
      have k2 : Q (.int (if x = 0 then z else y)) H := k
      refine iteN (by decide +kernel) (iteP (by decide +kernel) (lx0 ht ⟨rfl, ite2 (fun h => ?_) fun h => ?_⟩))
      · rw [if_pos (V.int.inj h)] at k2
        exact lx2 ht k2
      · rw [if_neg fun q => h (by rw [q])] at k2
        exact lx1 ht k2
    | tab ns =>
      obtain ⟨x, rfl⟩ : ∃ x, ws = [x] := match ws, hl with
        | [_], _ => ⟨_, rfl⟩
      obtain ⟨b, hp2, hbt, hg, hbb⟩ := hk
      have hl2 : 0 < ns.length := by omega
      have e0 := Int.emod_nonneg x (show (ns.length : Int) ≠ 0 by omega)
      have e1 := Int.emod_lt_of_pos x (show (0 : Int) < ns.length by omega)
      refine iteN (show ¬ (("table" : Str) = _) by decide +kernel) (iteN (show ¬ (("table" : Str) = _) by decide +kernel) (iteP rfl (ix1 hp2 (lx0 ht (.inl ⟨x, rfl, ix1 hp2 ⟨b, rfl, _, .inr (SqT.of hbt), by rw [List.length_map]; omega, ?_⟩⟩)))))
      rw [List.length_map]
      have k2 : Q (.int (((ns[(x % ns.length).toNat]?).getD 0) % 2 ^ wd)) H := k
      obtain ⟨j, hj⟩ : ∃ j : Nat, x % (ns.length : Int) = (j : Int) := ⟨(x % ns.length).toNat, by omega⟩
      rw [hj] at k2 e1 ⊢
      rw [Int.toNat_natCast] at k2
      have hj2 : j < ns.length := by omega
      rw [List.getElem?_eq_getElem hj2] at k2
      exact ixt hbt (atI_nat (by rw [List.getElem?_map, List.getElem?_eq_getElem hj2]; rfl)) (.inl ⟨_, rfl, t1, k2⟩)
    | sh l n =>
      obtain ⟨x, rfl⟩ : ∃ x, ws = [x] := match ws, hl with
        | [_], _ => ⟨_, rfl⟩
      have hx := hb x List.mem_cons_self
      obtain ⟨hp2, hn⟩ := hk
      cases l with
      | true =>
        have k2 : Q (.int (x * 2 ^ n % 2 ^ wd)) H := k
        refine iteN (show ¬ (shS true = _) by decide +kernel) (iteN (show ¬ (shS true = _) by decide +kernel) (iteN (show ¬ (shS true = _) by decide +kernel) (iteP rfl (ix1 hp2 ⟨_, rfl, ite2 (fun h => ?_) fun h => ?_⟩))))
        · rw [shl_zero (by omega)] at k2
          exact k2
        · exact lx0 ht (ix1 hp2 ⟨n, rfl, by omega, x, rfl, _, rfl, .inl ⟨by omega, by omega⟩, t1, k2⟩)
      | false =>
        have k2 : Q (.int (x / 2 ^ n % 2 ^ wd)) H := k
        refine iteN (show ¬ (shS false = _) by decide +kernel) (iteN (show ¬ (shS false = _) by decide +kernel) (iteN (show ¬ (shS false = _) by decide +kernel) (iteN (show ¬ (shS false = _) by decide +kernel) (iteP rfl (ix1 hp2 ⟨_, rfl, ite2 (fun h => ?_) fun h => ?_⟩)))))
        · rw [shr_zero (w := wd) (by omega) hx.1 hx.2, Int.zero_emod] at k2
          exact k2
        · have hs := shr_lt (n := n) hx.1 hx.2
          rw [Int.emod_eq_of_lt hs.1 hs.2] at k2
          obtain ⟨n1, n2⟩ := two_le (show n ≤ 12 by omega)
          exact lx0 ht (.inl ⟨x, rfl, ix1 hp2 ⟨n, rfl, by omega, _, rfl, ⟨n1, by omega⟩, k2⟩⟩)
    | pr kk =>
      obtain ⟨x, y, rfl⟩ : ∃ x y, ws = [x, y] := match ws, hl with
        | [_, _], _ => ⟨_, _, rfl⟩
      have hx := hb x List.mem_cons_self
      have hy := hb y (List.mem_cons_of_mem _ List.mem_cons_self)
      have bits : kk.isBit → spBits [V.int x, V.int y, V.str kk.sg] H Q E0 := fun hk2 => by
        have k2 : Q (.int (kk.val x y % 2 ^ wd)) H := k
        rw [bit_mod hk2 hx.1 hy.1 hx.2 hy.2] at k2
        exact ⟨kk, x.toNat, y.toNat, by rw [Int.toNat_of_nonneg hx.1, Int.toNat_of_nonneg hy.1], hk2, by omega, by omega, k2⟩
      cases kk with
      | add =>
        repeat (refine iteN (by decide +kernel) ?_)
        exact iteP (by decide +kernel) (lx0 ht (lx1 ht ⟨x, rfl, y, rfl, t1, k⟩))
      | sub =>
        repeat (refine iteN (by decide +kernel) ?_)
        have k2 : Q (.int ((x - y) % 2 ^ wd)) H := k
        have e : (x + 2 ^ wd - y) % 2 ^ wd = (x - y) % 2 ^ wd := by
          rw [show x + 2 ^ wd - y = (x - y) + 2 ^ wd by omega, Int.add_emod_right]
        exact iteP (by decide +kernel) (lx0 ht ⟨x, rfl, lx1 ht ⟨y, rfl, t1, by rw [e]; exact k2⟩⟩)
      | mul =>
        repeat (refine iteN (by decide +kernel) ?_)
        exact iteP (by decide +kernel) (lx0 ht (lx1 ht ⟨x, rfl, y, rfl, .inl ⟨by omega, by omega⟩, t1, k⟩))
      | eq =>
        repeat (refine iteN (by decide +kernel) ?_)
        have k2 : Q (.int ((if x = y then (1 : Int) else 0) % 2 ^ wd)) H := k
        rw [one_mod hw1] at k2
        refine iteP (by decide +kernel) (lx0 ht (lx1 ht ⟨rfl, ite2 (fun h => ?_) fun h => ?_⟩))
        · rw [if_pos (V.int.inj h)] at k2; exact k2
        · rw [if_neg fun q => h (by rw [q])] at k2; exact k2
      | lt =>
        repeat (refine iteN (by decide +kernel) ?_)
        have k2 : Q (.int ((if x < y then (1 : Int) else 0) % 2 ^ wd)) H := k
        rw [one_mod hw1] at k2
        refine iteP (by decide +kernel) (lx0 ht (lx1 ht ⟨x, rfl, y, rfl, ite2 (fun h => ?_) fun h => ?_⟩))
        · rw [if_pos h] at k2; exact k2
        · rw [if_neg h] at k2; exact k2
      | band =>
        repeat (refine iteN (by decide +kernel) ?_)
        exact lx0 ht (lx1 ht (bits (.inl rfl)))
      | bor =>
        repeat (refine iteN (by decide +kernel) ?_)
        exact lx0 ht (lx1 ht (bits (.inr (.inl rfl))))
      | bxor =>
        repeat (refine iteN (by decide +kernel) ?_)
        exact lx0 ht (lx1 ht (bits (.inr (.inr rfl))))
end


theorem lcg_tup {K : PySem.W.Frag} {a : Addr} {xs : List V} {g : TG} {tt : TT} {te : TE} {vs : List Nat} {σ : L2.St} {H1 : Hp} {Q : VK} (Pv : Addr → Nat → Hp → Prop) (h0 : ∀ D, H1 D = none → Pv D 0 (upd H1 D (.lst []))) (hl : ∀ D i H, H1 D = none → i ≤ xs.length → Pv D i H → SqT K H a xs)
    (hs : ∀ D i x H, H1 D = none → xs[i]? = some x → Pv D i H → g x (wipe σ vs) H fun σ2 H2 => wipe σ2 vs = wipe σ vs ∧ tt σ2 H2 fun b H3 =>
      if b = true then te σ2 H3 fun y H4 => ∃ acc, H4 D = some (.lst acc) ∧ acc.length < sizeLine ∧ Pv D (i + 1) (upd H4 D (.lst (acc ++ [y]))) else Pv D (i + 1) H3) (hd : ∀ D H, H1 D = none → Pv D xs.length H → Q (.ref D) H) : LcG (Itt K a) g tt te vs σ Q H1 :=
  fun D hD => lc_tup (Qd := fun H => Q (.ref D) H) (Pv D) (h0 D hD) (fun i H hi h => hl D i H hD hi h) (fun i x H hi h => hs D i x H hD hi h) fun H h => hd D H hD h
/-! ### tables and kinds that are checked -/
def SqAt (H : Hp) (p : Addr) (xs : List V) : Prop := H p = some (.tup xs) ∨ H p = some (.lst xs)
theorem SqAt.go {H H' : Hp} {p : Addr} {xs : List V} (e : Evl.Ex H H') (h : SqAt H p xs) : SqAt H' p xs := h.imp (e _ _) (e _ _)
theorem SqAt.plain {H : Hp} {p : Addr} {xs : List V} (h : SqAt H p xs) : PlainV H (.ref p) := h.elim (fun q => .inr (.inr (.inr (.inr (.inl ⟨p, xs, rfl, q⟩))))) fun q => .inr (.inr (.inr (.inr (.inr ⟨p, xs, rfl, q⟩))))
theorem SqAt.sq {K : PySem.W.Frag} {H : Hp} {p : Addr} {xs : List V} (h : SqAt H p xs) : SqL K H p xs ∨ SqT K H p xs := h.elim (fun q => .inr (SqT.of q)) fun q => .inl (SqL.of q)
def okN (y : V) : Bool := wiB y 0 4095
def tabB (xs : List V) : Bool := inV (.int xs.length) [.int 1, .int 2, .int 4, .int 8, .int 16] && xs.all okN
def ivTab (H : Hp) (xs : List V) (D : Addr) (i : Nat) (H' : Hp) : Prop := Evl.Ex H H' ∧ H' D = some (.lst ((xs.take i).map fun y => .bl (okN y)))
section
variable {P : Program} {w : World} {K : PySem.W.Frag} {mg : Str → Option Value} {base : Heap} {a : Ad}
def spTab : Sp := fun vs H Q _ => ∃ x, vs = [x] ∧ PlainV H x ∧ ((sqV x = false ∧ ∀ H', Evl.Ex H H' → Q (.bl false) H') ∨
  ∃ p xs, x = .ref p ∧ SqAt H p xs ∧ (∀ y ∈ xs, PlainV H y) ∧ xs.length ≤ 100 ∧ ∀ H', Evl.Ex H H' → Q (.bl (tabB xs)) H')
theorem ok_is_table (T : Txt K mg a) : FnOk P w K mg base CX0 4 a.f_is_table a.d_is_table ["numbers"] spTab := by
  refine T.F_is_table.ok sc_is_table (fun vs H Q E h => ?_) (fun cdv A outer s H vs Q E hr h => ?_)
  · obtain ⟨_, rfl, _⟩ := h
    rfl
  · obtain ⟨x, rfl, hx, k⟩ := h
    refine ⟨_, (pss_one (ps_ret (pe_and (pe_call (ok_is_sequence T) (hr.mono (by decide)) rfl T.m_is_sequence T.F_is_sequence.kp T.b_is_sequence .nil pass0 (pa_cons (pv 0) pa_nil)) (pe_and (pe_cmpR op_in_seq (pe_callB call_len_seq (by rfl) T.z_len (by decide +kernel) (pa_cons (pv 0) pa_nil)) (pe_glob rfl T.g_TABLE_SIZES.choose_spec.1 T.g_TABLE_SIZES.choose_spec.2) (by rfl)) (pe_one (pe_callB (cr_all rfl) (by rfl) T.z_all (by decide +kernel) (pa_cons (pe_lc (own := [("n", 1)]) (g := gName 1) (tt := tYes) rfl sc_is_table.nd (pi_or (pi_list (pv 0)) (pi_tup (pv 0))) (blkOk_by (own := [("n", 1)]) (N := ["numbers", "n"]) (sc := defScope s_is_table) (by decide +kernel)) (fun _ _ _ _ _ => pg_name (i := 1) sc_is_table.nd rfl (Or.inl rfl)) (fun _ _ _ _ _ => pts_nil) (fun _ _ _ _ _ => (pe_call (ok_is_number T) (hr.mono (by decide)) rfl T.m_is_number T.F_is_number.kp T.b_is_number .nil pass0 (pa_cons (pv 1) pa_nil)))) pa_nil))))))), ?_⟩
    walk_at "sm"
    refine ⟨x, rfl, hx, fun H1 e1 => ⟨_, rfl, ?_⟩⟩
    rcases k with ⟨hs, k⟩ | ⟨p, xs, rfl, hp, hpl, hl, k⟩
    · rw [hs]
      exact iteF (k _ e1)
    · refine iteT ⟨p, rfl, xs, (hp.go e1).sq, in_tup (T.t_TABLE_SIZES H1) rfl (by decide +kernel) ⟨_, rfl, ?_⟩⟩
      cases hb : inV (.int (xs.length : Nat)) [.int 1, .int 2, .int 4, .int 8, .int 16] with
      | false =>
        have e : tabB xs = false := by unfold tabB; rw [hb]; rfl
        rw [e] at k
        exact iteF (k _ e1)
      | true =>
        have e : tabB xs = xs.all okN := by unfold tabB; rw [hb]; rfl
        rw [e] at k
        refine iteT ?_
        have go : ∀ D i y HX, H1 D = none → xs[i]? = some y → ivTab H1 xs D i HX → gName 1 y (wipe [some (V.ref p), none] [1]) HX fun σ2 H2 => wipe σ2 [1] = wipe [some (V.ref p), none] [1] ∧ tYes σ2 H2 fun b H3 =>
            if b = true then tCall spNum [] E0 (tCons (tVar 1) tNil) σ2 H3 fun y H4 => ∃ acc, H4 D = some (.lst acc) ∧ acc.length < sizeLine ∧ ivTab H1 xs D (i + 1) (upd H4 D (.lst (acc ++ [y]))) else ivTab H1 xs D (i + 1) H3 := by
          rintro D i y HX hD hi ⟨f1, f2⟩
          walk_at "sm"
          have hm := List.mem_of_getElem? hi
          refine ⟨y, rfl, ((hpl y hm).go e1).go f1, _, f2, Nat.lt_of_le_of_lt (show _ ≤ 100 by rw [List.length_map, List.length_take]; omega) (by decide), f1.mut hD, ?_⟩
          rw [upd_same, List.take_add_one, hi, List.map_append]
          rfl
        have fin : ∀ D HX, H1 D = none → ivTab H1 xs D xs.length HX → rAll K [.ref D] HX Q := by
          rintro D HX hD ⟨f1, f2⟩
          rw [List.take_length] at f2
          refine ⟨D, xs.map okN, rfl, SqL.of (by rw [f2, List.map_map]; rfl), ?_⟩
          rw [List.all_map]
          exact k _ (e1.trans f1)
        rcases hp.go e1 with q | q
        · exact .inr ⟨p, rfl, ⟨_, SqT.of q⟩, lcg_tup (K := K) (a := p) (xs := xs) (ivTab H1 xs) (fun D hD => ⟨Evl.Ex.new hD, upd_same⟩) (fun D i HX hD hi ⟨f1, _⟩ => SqT.of (f1 _ _ q)) (fun D i y HX hD hi h => go D i y HX hD hi h) fin⟩
        · exact .inl ⟨p, rfl, ⟨_, SqL.of q⟩, lcg_list (K := K) (a := p) (xs := xs) (ivTab H1 xs) (fun D hD => ⟨Evl.Ex.new hD, upd_same⟩) (fun D i HX hD hi ⟨f1, _⟩ => SqL.of (f1 _ _ q)) (fun D i y HX hD hi h => go D i y HX hD hi h) fin⟩
end


/-! ### what stands in a kind, as data -/
def itD (H : Hp) (y : V) (d : PyData) : Prop := (okF y = true ∧ d = dV y) ∨ ∃ q zs, y = .ref q ∧ zs.all okF = true ∧ ((H q = some (.tup zs) ∧ d = .tuple (zs.map dV)) ∨ (H q = some (.lst zs) ∧ d = .list (zs.map dV)))
theorem itD.go {H H' : Hp} {y : V} {d : PyData} (e : Evl.Ex H H') (h : itD H y d) : itD H' y d := by
  rcases h with h | ⟨q, zs, h1, h2, ⟨h3, h4⟩ | ⟨h3, h4⟩⟩
  · exact .inl h
  · exact .inr ⟨q, zs, h1, h2, .inl ⟨e _ _ h3, h4⟩⟩
  · exact .inr ⟨q, zs, h1, h2, .inr ⟨e _ _ h3, h4⟩⟩
theorem itD.dp {K : PySem.W.Frag} {H : Hp} {y : V} {d : PyData} (h : itD H y d) : Dp K H y d := by
  rcases h with ⟨h, rfl⟩ | ⟨q, zs, rfl, h2, ⟨h3, rfl⟩ | ⟨h3, rfl⟩⟩
  · exact dp_flat h
  · exact .tup (SqT.of h3) (dp_flats h2)
  · exact .lst (SqL.of h3) (dp_flats h2)
theorem lay_flats {zs : List V} (h : zs.all okF = true) : ∀ d ∈ zs.map dV, d.canLay0 = true ∧ d.depth ≤ 1 := fun d hd => by
  obtain ⟨x, hx, rfl⟩ := List.mem_map.mp hd
  exact lay_flat (List.all_eq_true.mp h x hx)
theorem itD.lay {H : Hp} {y : V} {d : PyData} (h : itD H y d) : d.canLay0 = true ∧ d.depth ≤ 2 := by
  rcases h with ⟨h, rfl⟩ | ⟨q, zs, rfl, h2, ⟨h3, rfl⟩ | ⟨h3, rfl⟩⟩
  · exact ⟨(lay_flat h).1, Nat.le_trans (lay_flat h).2 (by decide)⟩
  · exact lay_tup (lay_flats h2)
  · exact lay_lst (lay_flats h2)
def itsD (H : Hp) : List V → List PyData → Prop := Paired (itD H)
theorem itsD.dp {K : PySem.W.Frag} {H : Hp} : ∀ {xs : List V} {ds : List PyData}, itsD H xs ds → DpAll K H xs ds
  | _, _, .nil => .nil
  | _, _, .cons h t => .cons h.dp (itsD.dp t)
theorem itsD.lay {H : Hp} : ∀ {xs : List V} {ds : List PyData}, itsD H xs ds → ∀ d ∈ ds, d.canLay0 = true ∧ d.depth ≤ 2
  | _, _, .nil, d, hd => by cases hd
  | _, _, .cons h t, d, hd => by
    rcases List.mem_cons.mp hd with rfl | q
    · exact h.lay
    · exact itsD.lay t d q
theorem itsD.go {H H' : Hp} {xs : List V} {ds : List PyData} (e : Evl.Ex H H') (h : itsD H xs ds) : itsD H' xs ds := Paired.mapP h fun _ _ q => q.go e
theorem eq_empty {K : PySem.W.Frag} {H : Hp} {p e : Addr} {xs : List V} {ds : List PyData} {Q : VK} (hp : H p = some (.tup xs)) (hd : itsD H xs ds) (he : H e = some (.tup [])) (q : Q (.bl xs.isEmpty) H) : rEqD K (.ref p) (.ref e) H Q := by
  refine ⟨.tuple ds, .tuple [], .tup (SqT.of hp) hd.dp, .tup (SqT.of he) .nil, shaped_of (lay_tup hd.lay) (by decide), by decide, ?_⟩
  have e2 : PyData.eqv (.tuple ds) (.tuple []) = xs.isEmpty := by
    cases hd with
    | nil => decide
    | cons h t => rfl
  rw [e2]
  exact q
/-- a kind as it is handed in: a tuple's numbers may stand in a list -/
def GdAt (H : Hp) (p : Addr) (k : Kd) : Prop := KdAt H p k ∨ ∃ ns l, k = .tab ns ∧ H p = some (.tup [.str "table", .ref l]) ∧ H l = some (.lst (ns.map V.int)) ∧ goodTab ns
theorem ints_flat (ns : List Int) : (ns.map V.int).all okF = true := by
  rw [List.all_map]
  exact List.all_eq_true.mpr fun _ _ => rfl
theorem sg_ok (k : Kd) : PyData.strOk k.sg = true := by
  cases k with
  | pr k => cases k <;> decide +kernel
  | pick => decide +kernel
  | same => decide +kernel
  | sh l n => cases l <;> (show PyData.strOk (shS _) = true) <;> decide +kernel
  | tab ns => show PyData.strOk ("table" : Str) = true; decide +kernel
theorem GdAt.its {H : Hp} {p : Addr} {k : Kd} (h : GdAt H p k) : ∃ x r ds, H p = some (.tup (x :: r)) ∧ itsD H (x :: r) ds := by
  rcases h with h | ⟨ns, l, rfl, h1, h2, h3⟩
  · cases k with
    | pr kk => exact ⟨_, _, _, h, .cons (.inl ⟨sg_ok (.pr kk), rfl⟩) .nil⟩
    | pick => exact ⟨_, _, _, h, .cons (.inl ⟨sg_ok .pick, rfl⟩) .nil⟩
    | same => exact ⟨_, _, _, h, .cons (.inl ⟨sg_ok .same, rfl⟩) .nil⟩
    | sh l n => exact ⟨_, _, _, h.1, .cons (.inl ⟨sg_ok (.sh l n), rfl⟩) (.cons (.inl ⟨rfl, rfl⟩) .nil)⟩
    | tab ns => obtain ⟨t, h1, h2, h3⟩ := h; exact ⟨_, _, _, h1, .cons (.inl ⟨sg_ok (.tab []), rfl⟩) (.cons (.inr ⟨t, _, rfl, ints_flat ns, .inl ⟨h2, rfl⟩⟩) .nil)⟩
  · exact ⟨_, _, _, h1, .cons (.inl ⟨sg_ok (.tab []), rfl⟩) (.cons (.inr ⟨l, _, rfl, ints_flat ns, .inr ⟨h2, rfl⟩⟩) .nil)⟩
def onL : List V := [.str "pick", .str "same"]
def shL : List V := [.str "<<", .str ">>"]
/-- two things that are no kind -/
def bad2 (H : Hp) (s : Str) (y : V) : Prop := (inV (.str s) shL = true → okN y = false) ∧ PlainV H y ∧
  (s = ("table" : Str) → sqV y = false ∨ ∃ p zs, y = .ref p ∧ SqAt H p zs ∧ (∀ z ∈ zs, PlainV H z) ∧ zs.length ≤ 100 ∧ tabB zs = false)
/-- what check_kind refuses -/
def BadKd (H : Hp) (x : V) : Prop := (x = .non ∨ (∃ s, x = .str s) ∨ ∃ p xs, x = .ref p ∧ H p = some (.lst xs)) ∨ ∃ p xs ds, x = .ref p ∧ H p = some (.tup xs) ∧ itsD H xs ds ∧
  (xs = [] ∨ (∃ s, xs = [.str s] ∧ inV (.str s) prL = false ∧ inV (.str s) onL = false) ∨ (∃ n, xs = [.int n]) ∨ (∃ s y, xs = [.str s, y] ∧ bad2 H s y) ∨ ∃ x y z, xs = [x, y, z])
theorem ints_plain {H : Hp} (ns : List Int) : ∀ z ∈ ns.map V.int, PlainV H z := fun z hz => by
  obtain ⟨n, _, rfl⟩ := List.mem_map.mp hz
  exact plain_int
theorem tab_len {ns : List Int} (h : goodTab ns) : (ns.map V.int).length ≤ 100 := by
  rw [List.length_map]
  have := h.1
  omega
theorem tab_good {ns : List Int} (h : goodTab ns) : tabB (ns.map V.int) = true := by
  unfold tabB
  rw [List.length_map, Bool.and_eq_true]
  constructor
  · rcases h.1 with e | e | e | e | e <;> rw [e] <;> decide +kernel
  · rw [List.all_map]
    refine List.all_eq_true.mpr fun n hn => ?_
    have hb := h.2 n hn
    show (decide _ && decide _) = true
    rw [decide_eq_true hb.1, decide_eq_true hb.2]
    rfl
section
variable {P : Program} {w : World} {K : PySem.W.Frag} {mg : Str → Option Value} {base : Heap} {a : Ad}
def spCK (C : Addr) : Sp := fun vs H Q E => (∃ x, vs = [x] ∧ BadKd H x ∧ ∀ H', Evl.Ex H H' → E (.ref C) none H') ∨ ∃ p k, vs = [.ref p] ∧ GdAt H p k ∧ ∀ r H', Evl.Ex H H' → KdAt H' r k → Q (.ref r) H'
theorem ok_check_kind (T : Txt K mg a) : FnOk P w K mg base (L2.CX P w) 5 a.f_check_kind a.d_check_kind ["kind"] (spCK a.c_BadKind) := by
  refine T.F_check_kind.okX sc_check_kind (fun vs H Q E h => ?_) (fun cdv A outer s H vs Q E hr h => ?_)
  · obtain ⟨_, rfl, _⟩ | ⟨_, _, rfl, _⟩ := h <;> rfl
  · refine ⟨_, (pss_cons (ps_if (PW.pt (pw_or (pt_not (pt_val (pe_callB call_isi (by rfl) T.z_isinstance (by decide +kernel) (pa_cons (pv 0) (pa_cons (pe_bltn (v := .ty "tuple") (by rfl) T.z_tuple (by decide +kernel) rfl) pa_nil))))) (pw_or1 (pt_cmpR (op_eqD hr.units) (pv 0) (pe_tup pa_nil) (nomark _))))) (pss_one (ps_raise rfl (takes_of rfl rfl rfl rfl) (pmk_own0 PySem.F.excBase_ValueError T.q_BadKind T.m_BadKind T.k_BadKind (raises_own T.sb_BadKind T.ty_BadKind) rfl)))
    pss_nil)
  (pss_cons (ps_if (PW.pt (pw_and (pt_cmpR op_eq (pe_callB call_len_seq (by rfl) T.z_len (by decide +kernel) (pa_cons (pv 0) pa_nil)) pe_int (nomark _)) (pw_and1 (PW.pt (pw_or (pt_cmpR op_in_seq (pe_ix ix_tup (pv 0) pe_int (fun _ _ => rfl)) (pe_glob rfl T.g_PAIR_SIGNS.choose_spec.1 T.g_PAIR_SIGNS.choose_spec.2) (by rfl)) (pw_or1 (pt_cmpR op_in_seq (pe_ix ix_tup (pv 0) pe_int (fun _ _ => rfl)) (pe_tup (pa_cons pe_str (pa_cons pe_str pa_nil))) (by rfl)))))))) (pss_one (ps_ret (pv 0)))
    pss_nil)
  (pss_cons (ps_if (PW.pt (pw_and (pt_cmpR op_eq (pe_callB call_len_seq (by rfl) T.z_len (by decide +kernel) (pa_cons (pv 0) pa_nil)) pe_int (nomark _)) (pw_and (pt_cmpR op_in_seq (pe_ix ix_tup (pv 0) pe_int (fun _ _ => rfl)) (pe_glob rfl T.g_SHIFT_SIGNS.choose_spec.1 T.g_SHIFT_SIGNS.choose_spec.2) (by rfl)) (pw_and1 (pt_val (pe_call (ok_is_number T) (hr.mono (by decide)) rfl T.m_is_number T.F_is_number.kp T.b_is_number .nil pass0 (pa_cons (pe_ix ix_tup (pv 0) pe_int (fun _ _ => rfl)) pa_nil))))))) (pss_one (ps_ret (pv 0)))
    pss_nil)
  (pss_cons (ps_if (PW.pt (pw_and (pt_cmpR op_eq (pe_callB call_len_seq (by rfl) T.z_len (by decide +kernel) (pa_cons (pv 0) pa_nil)) pe_int (nomark _)) (pw_and (pt_cmpR op_eq (pe_ix ix_tup (pv 0) pe_int (fun _ _ => rfl)) pe_str (nomark _)) (pw_and1 (pt_val (pe_call (ok_is_table T) (hr.mono (by decide)) rfl T.m_is_table T.F_is_table.kp T.b_is_table .nil pass0 (pa_cons (pe_ix ix_tup (pv 0) pe_int (fun _ _ => rfl)) pa_nil))))))) (pss_one (ps_ret (pe_tup (pa_cons pe_str (pa_cons (pe_callTy call_tuple_of (by rfl) T.z_tuple (by decide +kernel) (pa_cons (pe_ix ix_tup (pv 0) pe_int (fun _ _ => rfl)) pa_nil)) pa_nil)))))
    pss_nil)
  (pss_one (ps_raise rfl (takes_of rfl rfl rfl rfl) (pmk_own0 PySem.F.excBase_ValueError T.q_BadKind T.m_BadKind T.k_BadKind (raises_own T.sb_BadKind T.ty_BadKind) rfl))))))), ?_⟩
    rcases h with ⟨x, rfl, (hx | ⟨p, xs, ds, rfl, hp, hd, hx⟩), k⟩ | ⟨p, kd, rfl, hg, k⟩
    · walk_at "sm"
      rcases hx with rfl | ⟨s, rfl⟩ | ⟨p, xs, rfl, hp⟩
      · exact isi_ty (t := "NoneType") (b := false) (.base .non) (by decide +kernel) ⟨_, rfl, iteT (k _ (Evl.Ex.refl _))⟩
      · exact isi_ty (t := "str") (b := false) (.base (.str _)) (by decide +kernel) ⟨_, rfl, iteT (k _ (Evl.Ex.refl _))⟩
      · exact isi_ty (t := "list") (b := false) (.base (.lst hp)) (by decide +kernel) ⟨_, rfl, iteT (k _ (Evl.Ex.refl _))⟩
    · walk_at "sm"
      refine isi_ty (t := "tuple") (b := true) (.base (.tup hp)) (by decide +kernel) ⟨_, rfl, iteF ⟨sz (by decide), fun e he => ?_⟩⟩
      have eE := Evl.Ex.new (o := .tup []) he
      refine eq_empty (eE _ _ hp) (hd.go eE) upd_same ⟨_, rfl, ?_⟩
      rcases hx with rfl | ⟨s, rfl, h1, h2⟩ | ⟨n, rfl⟩ | ⟨s, y, rfl, hb⟩ | ⟨x, y, z, rfl⟩
      · exact iteT (k _ eE)
      · have hp1 := eE _ _ hp
        refine iteF ⟨_, .inr (SqT.of hp1), iteP rfl (ix0 hp1 (in_tup (T.t_PAIR_SIGNS _) rfl (by decide +kernel) ⟨_, rfl, ?_⟩))⟩
        show if inV (V.str s) prL = true then _ else _
        rw [h1]
        refine iteF (ix0 hp1 ⟨sz (by decide), fun l hl => in_tup (SqT.of upd_same) rfl (by decide +kernel) ⟨_, rfl, ?_⟩⟩)
        show if inV (V.str s) onL = true then _ else _
        rw [h2]
        have eL := Evl.Ex.new (o := .tup [V.str "pick", V.str "same"]) hl
        exact iteF ⟨_, .inr (SqT.of (eL _ _ hp1)), iteN (by simp) ⟨_, .inr (SqT.of (eL _ _ hp1)), iteN (by simp) (k _ (eE.trans eL))⟩⟩
      · have hp1 := eE _ _ hp
        refine iteF ⟨_, .inr (SqT.of hp1), iteP rfl (ix0 hp1 (in_tup (T.t_PAIR_SIGNS _) rfl (by decide +kernel) ⟨_, rfl, ?_⟩))⟩
        rw [show inV (V.int n) [V.str "+", V.str "-", V.str "*", V.str "&", V.str "|", V.str "^", V.str "==", V.str "<"] = false from rfl]
        refine iteF (ix0 hp1 ⟨sz (by decide), fun l hl => in_tup (SqT.of upd_same) rfl (by decide +kernel) ⟨_, rfl, ?_⟩⟩)
        rw [show inV (V.int n) [V.str "pick", V.str "same"] = false from rfl]
        have eL := Evl.Ex.new (o := .tup [V.str "pick", V.str "same"]) hl
        exact iteF ⟨_, .inr (SqT.of (eL _ _ hp1)), iteN (by simp) ⟨_, .inr (SqT.of (eL _ _ hp1)), iteN (by simp) (k _ (eE.trans eL))⟩⟩
      · have hp1 := eE _ _ hp
        obtain ⟨b1, b2, b3⟩ := hb
        refine iteF ⟨_, .inr (SqT.of hp1), iteN (by simp) ⟨_, .inr (SqT.of hp1), iteP rfl (ix0 hp1 (in_tup (T.t_SHIFT_SIGNS _) rfl (by decide +kernel) ⟨_, rfl, ?_⟩))⟩⟩
        show if inV (V.str s) shL = true then _ else _
        cases hS : inV (V.str s) shL with
        | true =>
          refine iteT (ix1 hp1 ⟨y, rfl, b2.go eE, _, rfl, ?_⟩)
          have b4 := b1 hS
          unfold okN at b4
          rw [b4]
          refine iteF ⟨_, .inr (SqT.of hp1), iteP rfl (ix0 hp1 ⟨rfl, ite2 (fun hs => ix1 hp1 ⟨y, rfl, b2.go eE, ?_⟩) fun _ => k _ eE⟩)⟩
          rcases b3 (V.str.inj hs) with hq | ⟨q, zs, rfl, h1, h2, h3, h4⟩
          · exact .inl ⟨hq, fun H' e' => ⟨_, rfl, iteF (k _ (eE.trans e'))⟩⟩
          · exact .inr ⟨q, zs, rfl, h1.go eE, fun z hz => (h2 z hz).go eE, h3, fun H' e' => ⟨_, rfl, by rw [h4]; exact iteF (k _ (eE.trans e'))⟩⟩
        | false =>
          refine iteF ⟨_, .inr (SqT.of hp1), iteP rfl (ix0 hp1 ⟨rfl, ite2 (fun hs => ix1 hp1 ⟨y, rfl, b2.go eE, ?_⟩) fun _ => k _ eE⟩)⟩
          rcases b3 (V.str.inj hs) with hq | ⟨q, zs, rfl, h1, h2, h3, h4⟩
          · exact .inl ⟨hq, fun H' e' => ⟨_, rfl, iteF (k _ (eE.trans e'))⟩⟩
          · exact .inr ⟨q, zs, rfl, h1.go eE, fun z hz => (h2 z hz).go eE, h3, fun H' e' => ⟨_, rfl, by rw [h4]; exact iteF (k _ (eE.trans e'))⟩⟩
      · have hp1 := eE _ _ hp
        exact iteF ⟨_, .inr (SqT.of hp1), iteN (by simp) ⟨_, .inr (SqT.of hp1), iteN (by simp) ⟨_, .inr (SqT.of hp1), iteN (by simp) (k _ eE)⟩⟩⟩
    · obtain ⟨x, r, ds, hp, hd⟩ := hg.its
      walk_at "sm"
      refine isi_ty (t := "tuple") (b := true) (.base (.tup hp)) (by decide +kernel) ⟨_, rfl, iteF ⟨sz (by decide), fun e he => ?_⟩⟩
      have eE := Evl.Ex.new (o := .tup []) he
      refine eq_empty (eE _ _ hp) (hd.go eE) upd_same ⟨_, rfl, iteF ?_⟩
      rcases hg with hg | ⟨ns, l, rfl, h1, h2, h3⟩
      · cases kd with
        | pr kk =>
          have hp1 := eE _ _ hg
          refine ⟨_, .inr (SqT.of hp1), iteP rfl (ix0 hp1 (in_tup (T.t_PAIR_SIGNS _) rfl (by decide +kernel) ⟨_, rfl, ?_⟩))⟩
          show if inV (V.str (Kd.pr kk).sg) prL = true then _ else _
          rw [sg_pr]
          exact iteT (k _ _ eE hp1)
        | pick =>
          have hp1 := eE _ _ hg
          refine ⟨_, .inr (SqT.of hp1), iteP rfl (ix0 hp1 (in_tup (T.t_PAIR_SIGNS _) rfl (by decide +kernel) ⟨_, rfl, iteN (by decide +kernel) (ix0 hp1 ⟨sz (by decide), fun l hl => in_tup (SqT.of upd_same) rfl (by decide +kernel) ⟨_, rfl, iteP (by decide +kernel) ?_⟩⟩)⟩))⟩
          have eL := Evl.Ex.new (o := .tup [V.str "pick", V.str "same"]) hl
          exact k _ _ (eE.trans eL) (eL _ _ hp1)
        | same =>
          have hp1 := eE _ _ hg
          refine ⟨_, .inr (SqT.of hp1), iteP rfl (ix0 hp1 (in_tup (T.t_PAIR_SIGNS _) rfl (by decide +kernel) ⟨_, rfl, iteN (by decide +kernel) (ix0 hp1 ⟨sz (by decide), fun l hl => in_tup (SqT.of upd_same) rfl (by decide +kernel) ⟨_, rfl, iteP (by decide +kernel) ?_⟩⟩)⟩))⟩
          have eL := Evl.Ex.new (o := .tup [V.str "pick", V.str "same"]) hl
          exact k _ _ (eE.trans eL) (eL _ _ hp1)
        | sh l n =>
          have hp1 := eE _ _ hg.1
          refine ⟨_, .inr (SqT.of hp1), iteN (by simp) ⟨_, .inr (SqT.of hp1), iteP rfl (ix0 hp1 (in_tup (T.t_SHIFT_SIGNS _) rfl (by decide +kernel) ⟨_, rfl, iteP (by cases l <;> decide +kernel) (ix1 hp1 ⟨_, rfl, plain_int, _, rfl, iteP ?_ (k _ _ eE ⟨hp1, hg.2⟩)⟩)⟩))⟩⟩
          have := hg.2
          show (decide ((0 : Int) ≤ (n : Int)) && decide ((n : Int) ≤ 4095)) = true
          rw [decide_eq_true (show (0 : Int) ≤ n by omega), decide_eq_true (show (n : Int) ≤ 4095 by omega)]
          rfl
        | tab ns =>
          obtain ⟨t, h1, h2, h3⟩ := hg
          have hp1 := eE _ _ h1
          refine ⟨_, .inr (SqT.of hp1), iteN (by simp) ⟨_, .inr (SqT.of hp1), iteP rfl (ix0 hp1 (in_tup (T.t_SHIFT_SIGNS _) rfl (by decide +kernel) ⟨_, rfl, iteN (by decide +kernel) ⟨_, .inr (SqT.of hp1), iteP rfl (ix0 hp1 ⟨rfl, iteP rfl (ix1 hp1 ⟨_, rfl, (SqAt.plain (.inl (eE _ _ h2))), .inr ⟨t, _, rfl, .inl (eE _ _ h2), ints_plain ns, tab_len h3, fun H' e' => ⟨_, rfl, iteP (tab_good h3) (ix1 (e' _ _ hp1) ?_)⟩⟩⟩)⟩)⟩⟩))⟩⟩
          exact ⟨t, rfl, _, .inr ⟨SqT.of (e' _ _ (eE _ _ h2)), sz (by decide), fun q hq => k _ _ ((eE.trans e').trans (Evl.Ex.new hq)) ⟨t, upd_same, Evl.Ex.new hq _ _ (e' _ _ (eE _ _ h2)), h3⟩⟩⟩
      · have hp1 := eE _ _ h1
        refine ⟨_, .inr (SqT.of hp1), iteN (by simp) ⟨_, .inr (SqT.of hp1), iteP rfl (ix0 hp1 (in_tup (T.t_SHIFT_SIGNS _) rfl (by decide +kernel) ⟨_, rfl, iteN (by decide +kernel) ⟨_, .inr (SqT.of hp1), iteP rfl (ix0 hp1 ⟨rfl, iteP rfl (ix1 hp1 ⟨_, rfl, (SqAt.plain (.inr (eE _ _ h2))), .inr ⟨l, _, rfl, .inr (eE _ _ h2), ints_plain ns, tab_len h3, fun H' e' => ⟨_, rfl, iteP (tab_good h3) (ix1 (e' _ _ hp1) ?_)⟩⟩⟩)⟩)⟩⟩))⟩⟩
        exact ⟨l, rfl, _, .inl ⟨SqL.of (e' _ _ (eE _ _ h2)), fun m hm => ⟨sz (by decide), fun q hq => k _ _ (((eE.trans e').trans (Evl.Ex.new hm)).trans (Evl.Ex.new hq)) ⟨m, upd_same, Evl.Ex.new hq _ _ upd_same, h3⟩⟩⟩⟩
end


/-! ### the law's drawn kinds -/
theorem pickI {K : PySem.W.Frag} {H : Hp} {l : Addr} {L : List Str} {r : Int} {Q : VK} (hl : H l = some (.lst (L.map V.str))) (h0 : 0 ≤ r) (h1 : r < (L.length : Int)) (k : ∀ z, L[r.toNat]? = some z → Q (.str z) H) : rIxL K (.ref l) (.int r) H Q := by
  obtain ⟨j, rfl⟩ : ∃ j : Nat, r = (j : Int) := ⟨r.toNat, by omega⟩
  have hj : j < L.length := by omega
  rw [Int.toNat_natCast] at k
  exact ixl (SqL.of hl) (atI_nat (by rw [List.getElem?_map, List.getElem?_eq_getElem hj]; rfl)) (k _ (List.getElem?_eq_getElem hj))
def pkL : List Str := ["+", "-", "*", "&", "|", "^", "==", "<"]
theorem pk_at {j : Nat} {z : Str} (h : pkL[j]? = some z) : ∃ k : Pk, z = k.sg := by
  have hm := List.mem_of_getElem? h
  have : ∀ s ∈ pkL, ∃ k : Pk, s = k.sg := by
    intro s hs
    unfold pkL at hs
    simp only [List.mem_cons, List.not_mem_nil, or_false] at hs
    rcases hs with h | h | h | h | h | h | h | h
    · exact ⟨.add, h⟩
    · exact ⟨.sub, h⟩
    · exact ⟨.mul, h⟩
    · exact ⟨.band, h⟩
    · exact ⟨.bor, h⟩
    · exact ⟨.bxor, h⟩
    · exact ⟨.eq, h⟩
    · exact ⟨.lt, h⟩
  exact this z hm
theorem sh_at {j : Nat} {z : Str} (h : (["<<", ">>"] : List Str)[j]? = some z) : ∃ l, z = shS l := by
  have hm := List.mem_of_getElem? h
  simp only [List.mem_cons, List.not_mem_nil, or_false] at hm
  rcases hm with h | h
  · exact ⟨true, h⟩
  · exact ⟨false, h⟩
def ivK (H5 : Hp) (p c : Addr) (D : Addr) (i : Nat) (H' : Hp) : Prop := ∃ ns : List Int, H' D = some (.lst (ns.map V.int)) ∧ ns.length = i ∧ (∀ y ∈ ns, 0 ≤ y ∧ y ≤ 4095) ∧ Fr p H5 H' ∧ HandAt H' p c
section
variable {P : Program} {w : World} {K : PySem.W.Frag} {mg : Str → Option Value} {base : Heap} {a : Ad}
def spKind : Sp := fun vs H Q _ => ∃ p c : Addr, vs = [.ref p] ∧ HandAt H p c ∧ ∀ r kd H', Fr p H H' → HandAt H' p c → KdAt H' r kd → Q (.ref r) H'
theorem ok_law_kind (T : Txt K mg a) : FnOk P w K mg base CX0 3 a.f_law_kind a.d_law_kind ["_law_hand_here"] spKind := by
  refine T.F_law_kind.ok sc_law_kind (fun vs H Q E h => ?_) (fun cdv A outer s H vs Q E hr h => ?_)
  · obtain ⟨_, _, rfl, _⟩ := h
    rfl
  · obtain ⟨p, c, rfl, hh, k⟩ := h
    refine ⟨_, (pss_cons (ps_set (i := 1) sc_law_kind.nd rfl (by first | exact Or.inl rfl | exact Or.inr rfl) (pe_call (ok_law_take T) (hr.mono (by decide)) rfl T.m_law_take T.F_law_take.kp T.b_law_take .nil pass0 (pa_cons (pv 0) (pa_cons pe_int pa_nil))))
  (pss_cons (ps_if (pt_cmpR op_lt (pv 1) pe_int (nomark _)) (pss_one (ps_ret (pe_tup (pa_cons (pe_ix ix_list (pe_lst (pa_cons pe_str (pa_cons pe_str (pa_cons pe_str (pa_cons pe_str (pa_cons pe_str (pa_cons pe_str (pa_cons pe_str (pa_cons pe_str pa_nil))))))))) (pv 1) (fun _ _ => rfl)) pa_nil))))
    pss_nil)
  (pss_cons (ps_if (pt_cmpR op_lt (pv 1) pe_int (nomark _)) (pss_one (ps_ret (pe_tup (pa_cons (pe_ix ix_list (pe_lst (pa_cons pe_str (pa_cons pe_str pa_nil))) (pe_op op_sub (pv 1) pe_int) (fun _ _ => rfl)) (pa_cons (pe_ifExp (pt_cmpR op_gt (pe_call (ok_law_take T) (hr.mono (by decide)) rfl T.m_law_take T.F_law_take.kp T.b_law_take .nil pass0 (pa_cons (pv 0) (pa_cons pe_int pa_nil))) pe_int (nomark _)) (pe_call (ok_law_take T) (hr.mono (by decide)) rfl T.m_law_take T.F_law_take.kp T.b_law_take .nil pass0 (pa_cons (pv 0) (pa_cons pe_int pa_nil))) (pe_call (ok_law_take T) (hr.mono (by decide)) rfl T.m_law_take T.F_law_take.kp T.b_law_take .nil pass0 (pa_cons (pv 0) (pa_cons pe_int pa_nil)))) pa_nil)))))
    pss_nil)
  (pss_cons (ps_if (pt_cmpR op_lt (pv 1) pe_int (nomark _)) (pss_one (ps_ret (pe_tup (pa_cons pe_str pa_nil))))
    pss_nil)
  (pss_one (ps_ret (pe_tup (pa_cons pe_str (pa_cons (pe_callTy call_tuple_of (by rfl) T.z_tuple (by decide +kernel) (pa_cons (pe_lc (own := [("_law_k", 2)]) (g := gName 2) (tt := tYes) rfl sc_law_kind.nd (pi_range1 (by rfl) T.z_range (pa_cons (pe_call (ok_law_two T) (hr.mono (by decide)) rfl T.m_law_two T.F_law_two.kp T.b_law_two .nil pass0 (pa_cons (pe_call (ok_law_take T) (hr.mono (by decide)) rfl T.m_law_take T.F_law_take.kp T.b_law_take .nil pass0 (pa_cons (pv 0) (pa_cons pe_int pa_nil))) pa_nil)) pa_nil)) (blkOk_by (own := [("_law_k", 2)]) (N := ["_law_hand_here", "_law_at", "_law_k"]) (sc := defScope s_law_kind) (by decide +kernel)) (fun _ _ _ _ _ => pg_name (i := 2) sc_law_kind.nd rfl (Or.inl rfl)) (fun _ _ _ _ _ => pts_nil) (fun _ _ _ _ _ => (pe_ifExp (pt_cmpR op_eq (pe_call (ok_law_take T) (hr.mono (by decide)) rfl T.m_law_take T.F_law_take.kp T.b_law_take .nil pass0 (pa_cons (pv 0) (pa_cons pe_int pa_nil))) pe_int (nomark _)) (pe_call (ok_law_take T) (hr.mono (by decide)) rfl T.m_law_take T.F_law_take.kp T.b_law_take .nil pass0 (pa_cons (pv 0) (pa_cons pe_int pa_nil))) (pe_call (ok_law_take T) (hr.mono (by decide)) rfl T.m_law_take T.F_law_take.kp T.b_law_take .nil pass0 (pa_cons (pv 0) (pa_cons pe_int pa_nil)))))) pa_nil)) pa_nil))))))))), ?_⟩
    walk_at "sm"
    refine tk hh (by decide) (by decide) fun at1 H1 a0 a1 f1 hh1 => ?_
    walk_at "sm"
    refine ite2 (fun h8 => ⟨sz (by decide), fun l hl => pickI (L := pkL) upd_same a0 (by exact h8) fun z hz => ⟨sz (by decide), fun q hq => ?_⟩⟩) fun h8 => ite2 (fun h10 => ?_) fun h10 => ite2 (fun h12 => ⟨sz (by decide), fun q hq => ?_⟩) fun h12 => ?_
    · obtain ⟨kk, rfl⟩ := pk_at hz
      have eL := (Evl.Ex.new (o := .lst (pkL.map V.str)) hl).trans (Evl.Ex.new (o := .tup [.str kk.sg]) hq)
      exact k q (.pr kk) _ (f1.trans (Fr.of eL)) (hh1.go eL) upd_same
    · refine ⟨sz (by decide), fun l hl => pickI (L := ["<<", ">>"]) upd_same (by omega) (by show _ < (2 : Int); omega) fun z hz => ?_⟩
      obtain ⟨lr, rfl⟩ := sh_at hz
      have eL := Evl.Ex.new (o := .lst ((["<<", ">>"] : List Str).map V.str)) hl
      refine tk (hh1.go eL) (by decide) (by decide) fun r2 H2 b0 b1 f2 hh2 => ?_
      walk_at "sm"
      have go : ∀ m : Int, 0 < m → m ≤ 4096 → spTake [V.ref p, V.int m] H2 (fun x H1 => 0 + 1 + 1 ≤ sizeLine ∧ ∀ (p : Addr), H1 p = none → Q (V.ref p) (upd H1 p (HO.tup [V.str (shS lr), x]))) E0 := fun m m0 m1 => tk hh2 m0 (by omega) fun r3 H3 c0 c1 f3 hh3 => ⟨sz (by decide), fun q hq => by
        obtain ⟨n, rfl⟩ : ∃ n : Nat, r3 = (n : Int) := ⟨r3.toNat, by omega⟩
        have eQ := Evl.Ex.new (o := .tup [.str (shS lr), .int n]) hq
        exact k q (.sh lr n) _ ((((f1.trans (Fr.of eL)).trans f2).trans f3).trans (Fr.of eQ)) (hh3.go eQ) ⟨upd_same, by omega⟩⟩
      exact ite2 (fun _ => go 15 (by decide) (by decide)) fun _ => go 4096 (by decide) (by decide)
    · have eQ := Evl.Ex.new (o := .tup [.str "pick"]) hq
      exact k q .pick _ (f1.trans (Fr.of eQ)) (hh1.go eQ) upd_same
    · refine tk hh1 (by decide) (by decide) fun r2 H2 b0 b1 f2 hh2 => ?_
      walk_at "sm"
      obtain ⟨n, rfl⟩ : ∃ n : Nat, r2 = (n : Int) := ⟨r2.toNat, by omega⟩
      obtain ⟨t1, t2⟩ := two_le (show n ≤ 12 by omega)
      refine ⟨n, rfl, by omega, _, rfl, by omega, by omega, ?_⟩
      refine lcg_range (ivK H2 p c) (fun D hD => ⟨[], upd_same, rfl, (by intro y hy; cases hy), (Fr.refl H2).mut hD, hh2.upd (hh2.lt hD) (hh2.lc hD)⟩) (fun D i H6 hD hi ⟨ns, h1, h2, h3, f6, hh6⟩ => ?_) (fun lp H6 hlp ⟨ns, h1, h2, h3, f6, hh6⟩ => ?_)
      · walk_at "sm"
        have nDp := hh2.lt hD
        refine tk hh6 (by decide) (by decide) fun r3 H7 c0 c1 f7 hh7 => ?_
        walk_at "sm"
        have fin : ∀ m : Int, 0 < m → m ≤ 4096 → spTake [V.ref p, V.int m] H7 (fun y H4 => ∃ acc, H4 D = some (HO.lst acc) ∧ acc.length < sizeLine ∧ ivK H2 p c D (i + 1) (upd H4 D (HO.lst (acc ++ [y])))) E0 := fun m m0 m1 => tk hh7 m0 (by omega) fun r4 H8 d0 d1 f8 hh8 => by
          refine ⟨_, f8 _ _ nDp (f7 _ _ nDp h1), Nat.lt_of_le_of_lt (show (ns.map V.int).length ≤ 5000 by rw [List.length_map]; omega) (by decide), ns ++ [r4], by rw [upd_same, List.map_append]; rfl, by rw [List.length_append, h2]; rfl, ?_, ((f6.trans f7).trans f8).mut hD, hh8.upd nDp (hh2.lc hD)⟩
          intro y hy
          rcases List.mem_append.mp hy with q | q
          · exact h3 y q
          · rw [List.mem_singleton] at q
            rw [q]; omega
        exact ite2 (fun _ => fin 4096 (by decide) (by decide)) fun _ => fin 16 (by decide) (by decide)
      · have gt : goodTab ns := by
          refine ⟨?_, h3⟩
          rw [h2]
          have hn : n < 5 := by omega
          rcases (show n = 0 ∨ n = 1 ∨ n = 2 ∨ n = 3 ∨ n = 4 by omega) with rfl | rfl | rfl | rfl | rfl
          · exact .inl rfl
          · exact .inr (.inl rfl)
          · exact .inr (.inr (.inl rfl))
          · exact .inr (.inr (.inr (.inl rfl)))
          · exact .inr (.inr (.inr (.inr rfl)))
        refine ⟨lp, rfl, _, .inl ⟨SqL.of h1, fun m hm => ⟨sz (by decide), fun q hq => ?_⟩⟩⟩
        have eQ := (Evl.Ex.new (o := .tup (ns.map V.int)) hm).trans (Evl.Ex.new (o := .tup [.str "table", .ref m]) hq)
        exact k q (.tab ns) _ (((f1.trans f2).trans f6).trans (Fr.of eQ)) (hh6.go eQ) ⟨m, upd_same, Evl.Ex.new hq _ _ upd_same, gt⟩
end


/-! ### the odd kinds -/
theorem bad2.go {H H' : Hp} {s : Str} {y : V} (e : Evl.Ex H H') (h : bad2 H s y) : bad2 H' s y :=
  ⟨h.1, h.2.1.go e, fun q => (h.2.2 q).imp id fun ⟨p, zs, h1, h2, h3, h4⟩ => ⟨p, zs, h1, h2.go e, fun z hz => (h3 z hz).go e, h4⟩⟩
theorem BadKd.go {H H' : Hp} {x : V} (e : Evl.Ex H H') (h : BadKd H x) : BadKd H' x := by
  rcases h with (h | h | ⟨p, xs, h1, h2⟩) | ⟨p, xs, ds, h1, h2, h3, h4⟩
  · exact .inl (.inl h)
  · exact .inl (.inr (.inl h))
  · exact .inl (.inr (.inr ⟨p, xs, h1, e _ _ h2⟩))
  · refine .inr ⟨p, xs, ds, h1, e _ _ h2, h3.go e, ?_⟩
    rcases h4 with h | h | h | ⟨s, y, h5, h6⟩ | h
    · exact .inl h
    · exact .inr (.inl h)
    · exact .inr (.inr (.inl h))
    · exact .inr (.inr (.inr (.inl ⟨s, y, h5, h6.go e⟩)))
    · exact .inr (.inr (.inr (.inr h)))
theorem bad_one {H : Hp} {q : Addr} {s : Str} (h : H q = some (.tup [.str s])) (hs : PyData.strOk s = true) (h1 : inV (.str s) prL = false) (h2 : inV (.str s) onL = false) : BadKd H (.ref q) :=
  .inr ⟨q, _, _, rfl, h, .cons (.inl ⟨hs, rfl⟩) .nil, .inr (.inl ⟨s, rfl, h1, h2⟩)⟩
theorem bad_two {H : Hp} {q : Addr} {s : Str} {y : V} {d : PyData} (h : H q = some (.tup [.str s, y])) (hs : PyData.strOk s = true) (hy : itD H y d) (h1 : inV (.str s) shL = true → okN y = false) (h2 : PlainV H y)
    (h3 : s = ("table" : Str) → sqV y = false ∨ ∃ p zs, y = .ref p ∧ SqAt H p zs ∧ (∀ z ∈ zs, PlainV H z) ∧ zs.length ≤ 100 ∧ tabB zs = false) : BadKd H (.ref q) :=
  .inr ⟨q, _, _, rfl, h, .cons (.inl ⟨hs, rfl⟩) (.cons hy .nil), .inr (.inr (.inr (.inl ⟨s, y, rfl, h1, h2, h3⟩)))⟩
theorem bad_tab {H : Hp} {q t : Addr} {zs : List V} (h : H q = some (.tup [.str "table", .ref t])) (ht : H t = some (.tup zs)) (hf : zs.all okF = true) (hp : ∀ z ∈ zs, PlainV H z) (hl : zs.length ≤ 100) (hb : tabB zs = false) : BadKd H (.ref q) :=
  bad_two h (by decide +kernel) (.inr ⟨t, zs, rfl, hf, .inl ⟨ht, rfl⟩⟩) (fun q => absurd q (by decide +kernel)) (SqAt.plain (.inl ht)) fun _ => .inr ⟨t, zs, rfl, .inl ht, hp, hl, hb⟩
theorem atI_mem {xs : List V} {i : Int} (h0 : 0 ≤ i) (h1 : i < (xs.length : Int)) : ∃ z, z ∈ xs ∧ atI xs i = some z := by
  obtain ⟨k, rfl⟩ : ∃ k : Nat, i = (k : Int) := ⟨i.toNat, by omega⟩
  have hk : k < xs.length := by omega
  exact ⟨xs[k], List.getElem_mem hk, atI_nat (List.getElem?_eq_getElem hk)⟩
theorem okN_big {n : Int} (h : 0 ≤ n) : okN (.int (4096 + n)) = false := by
  show (decide ((0 : Int) ≤ 4096 + n) && decide (4096 + n ≤ 4095)) = false
  rw [decide_eq_false (show ¬ (4096 + n ≤ 4095) by omega), Bool.and_false]
theorem okN_neg {n : Int} (h : 0 ≤ n) : okN (.int (-1 - n)) = false := by
  show (decide ((0 : Int) ≤ -1 - n) && decide (-1 - n ≤ 4095)) = false
  rw [decide_eq_false (show ¬ (0 ≤ -1 - n) by omega), Bool.false_and]
theorem mem_c {P : V → Prop} {x : V} {l : List V} (h : P x) (t : ∀ y ∈ l, P y) : ∀ y ∈ x :: l, P y := List.forall_mem_cons.mpr ⟨h, t⟩
theorem mem_n {P : V → Prop} : ∀ y ∈ ([] : List V), P y := fun _ h => by cases h
theorem plain_bl {H : Hp} {b : Bool} : PlainV H (.bl b) := .inr (.inl ⟨b, rfl⟩)
section
variable {P : Program} {w : World} {K : PySem.W.Frag} {mg : Str → Option Value} {base : Heap} {a : Ad}
def spOdd : Sp := fun vs H Q _ => ∃ (p c : Addr) (i : Int), vs = [.ref p, .int i] ∧ HandAt H p c ∧ 0 ≤ i ∧ i < 20 ∧ ∀ x H', Fr p H H' → HandAt H' p c → BadKd H' x → Q x H'
theorem ok_law_odd_kind (T : Txt K mg a) : FnOk P w K mg base CX0 3 a.f_law_odd_kind a.d_law_odd_kind ["_law_hand_here", "_law_at"] spOdd := by
  refine T.F_law_odd_kind.ok sc_law_odd_kind (fun vs H Q E h => ?_) (fun cdv A outer s H vs Q E hr h => ?_)
  · obtain ⟨_, _, _, rfl, _⟩ := h
    rfl
  · obtain ⟨p, c, i, rfl, hh, i0, i1, k⟩ := h
    refine ⟨_, (pss_cons (ps_set (i := 2) sc_law_odd_kind.nd rfl (by first | exact Or.inl rfl | exact Or.inr rfl) (pe_call (ok_law_take T) (hr.mono (by decide)) rfl T.m_law_take T.F_law_take.kp T.b_law_take .nil pass0 (pa_cons (pv 0) (pa_cons pe_int pa_nil))))
  (pss_cons (ps_set (i := 3) sc_law_odd_kind.nd rfl (by first | exact Or.inl rfl | exact Or.inr rfl) (pe_lst (pa_cons (pe_tup (pa_cons pe_str (pa_cons (pv 2) pa_nil))) (pa_cons (pe_tup (pa_cons pe_str pa_nil)) (pa_cons (pe_tup (pa_cons pe_str (pa_cons (pe_op op_add pe_int (pv 2)) pa_nil))) (pa_cons (pe_tup (pa_cons pe_str (pa_cons (pe_op op_sub (pe_un un_neg pe_int) (pv 2)) pa_nil))) (pa_cons (pe_tup (pa_cons pe_str (pa_cons pe_bl pa_nil))) (pa_cons (pe_tup (pa_cons pe_str (pa_cons (pe_tup pa_nil) pa_nil))) (pa_cons (pe_tup (pa_cons pe_str (pa_cons (pe_tup (pa_cons (pv 2) (pa_cons (pv 2) (pa_cons (pv 2) pa_nil)))) pa_nil))) (pa_cons (pe_tup (pa_cons pe_str (pa_cons (pe_tup (pa_cons (pv 2) (pa_cons (pe_op op_add pe_int (pv 2)) pa_nil))) pa_nil))) pa_nil))))))))))
  (pss_cons (ps_set (i := 3) sc_law_odd_kind.nd rfl (by first | exact Or.inl rfl | exact Or.inr rfl) (pe_op op_cat (pv 3) (pe_lst (pa_cons pe_str (pa_cons (pe_lst (pa_cons pe_str pa_nil)) (pa_cons (pe_tup pa_nil) (pa_cons (pe_tup (pa_cons pe_str (pa_cons (pv 2) pa_nil))) (pa_cons (pe_tup (pa_cons pe_str pa_nil)) (pa_cons (pe_tup (pa_cons pe_str pa_nil)) (pa_cons (pe_tup (pa_cons pe_str (pa_cons (pv 2) pa_nil))) (pa_cons (pe_tup (pa_cons pe_str (pa_cons (pv 2) (pa_cons (pv 2) pa_nil)))) (pa_cons (pe_tup (pa_cons (pv 2) pa_nil)) (pa_cons pe_non (pa_cons (pe_tup (pa_cons pe_str (pa_cons (pe_tup (pa_cons (pv 2) (pa_cons pe_bl pa_nil))) pa_nil))) (pa_cons (pe_tup (pa_cons pe_str (pa_cons (pe_op op_repT (pe_tup (pa_cons pe_int pa_nil)) pe_int) pa_nil))) pa_nil)))))))))))))))
  (pss_one (ps_ret (pe_ix ix_list (pv 3) (pv 1) (fun _ _ => rfl))))))), ?_⟩
    walk_at "sm"
    refine tk hh (by decide) (by decide) fun n G0 n0 n1 f1 hh1 => ?_
    walk_at "sm"
    refine ⟨sz (by decide), fun q1 hq1 => ?_⟩
    have e1 := Evl.Ex.new (o := .tup [.str "+", .int n]) hq1
    have h1 : (upd G0 q1 (.tup [.str "+", .int n])) q1 = some (.tup [.str "+", .int n]) := upd_same
    generalize upd G0 q1 (.tup [.str "+", .int n]) = G1 at *
    refine ⟨sz (by decide), fun q2 hq2 => ?_⟩
    have e2 := Evl.Ex.new (o := .tup [.str "<<"]) hq2
    have h2 : (upd G1 q2 (.tup [.str "<<"])) q2 = some (.tup [.str "<<"]) := upd_same
    generalize upd G1 q2 (.tup [.str "<<"]) = G2 at *
    refine ⟨sz (by decide), fun q3 hq3 => ?_⟩
    have e3 := Evl.Ex.new (o := .tup [.str "<<", .int (4096 + n)]) hq3
    have h3 : (upd G2 q3 (.tup [.str "<<", .int (4096 + n)])) q3 = some (.tup [.str "<<", .int (4096 + n)]) := upd_same
    generalize upd G2 q3 (.tup [.str "<<", .int (4096 + n)]) = G3 at *
    refine ⟨sz (by decide), fun q4 hq4 => ?_⟩
    have e4 := Evl.Ex.new (o := .tup [.str ">>", .int (-1 - n)]) hq4
    have h4 : (upd G3 q4 (.tup [.str ">>", .int (-1 - n)])) q4 = some (.tup [.str ">>", .int (-1 - n)]) := upd_same
    generalize upd G3 q4 (.tup [.str ">>", .int (-1 - n)]) = G4 at *
    refine ⟨sz (by decide), fun q5 hq5 => ?_⟩
    have e5 := Evl.Ex.new (o := .tup [.str "<<", .bl true]) hq5
    have h5 : (upd G4 q5 (.tup [.str "<<", .bl true])) q5 = some (.tup [.str "<<", .bl true]) := upd_same
    generalize upd G4 q5 (.tup [.str "<<", .bl true]) = G5 at *
    refine ⟨sz (by decide), fun q6 hq6 => ?_⟩
    have e6 := Evl.Ex.new (o := .tup []) hq6
    have h6 : (upd G5 q6 (.tup [])) q6 = some (.tup []) := upd_same
    generalize upd G5 q6 (.tup []) = G6 at *
    refine ⟨sz (by decide), fun q7 hq7 => ?_⟩
    have e7 := Evl.Ex.new (o := .tup [.str "table", .ref q6]) hq7
    have h7 : (upd G6 q7 (.tup [.str "table", .ref q6])) q7 = some (.tup [.str "table", .ref q6]) := upd_same
    generalize upd G6 q7 (.tup [.str "table", .ref q6]) = G7 at *
    refine ⟨sz (by decide), fun q8 hq8 => ?_⟩
    have e8 := Evl.Ex.new (o := .tup [.int n, .int n, .int n]) hq8
    have h8 : (upd G7 q8 (.tup [.int n, .int n, .int n])) q8 = some (.tup [.int n, .int n, .int n]) := upd_same
    generalize upd G7 q8 (.tup [.int n, .int n, .int n]) = G8 at *
    refine ⟨sz (by decide), fun q9 hq9 => ?_⟩
    have e9 := Evl.Ex.new (o := .tup [.str "table", .ref q8]) hq9
    have h9 : (upd G8 q9 (.tup [.str "table", .ref q8])) q9 = some (.tup [.str "table", .ref q8]) := upd_same
    generalize upd G8 q9 (.tup [.str "table", .ref q8]) = G9 at *
    refine ⟨sz (by decide), fun q10 hq10 => ?_⟩
    have e10 := Evl.Ex.new (o := .tup [.int n, .int (4096 + n)]) hq10
    have h10 : (upd G9 q10 (.tup [.int n, .int (4096 + n)])) q10 = some (.tup [.int n, .int (4096 + n)]) := upd_same
    generalize upd G9 q10 (.tup [.int n, .int (4096 + n)]) = G10 at *
    refine ⟨sz (by decide), fun q11 hq11 => ?_⟩
    have e11 := Evl.Ex.new (o := .tup [.str "table", .ref q10]) hq11
    have h11 : (upd G10 q11 (.tup [.str "table", .ref q10])) q11 = some (.tup [.str "table", .ref q10]) := upd_same
    generalize upd G10 q11 (.tup [.str "table", .ref q10]) = G11 at *
    refine ⟨sz (by decide), fun q12 hq12 => ?_⟩
    have e12 := Evl.Ex.new (o := .lst [.ref q1, .ref q2, .ref q3, .ref q4, .ref q5, .ref q7, .ref q9, .ref q11]) hq12
    have h12 : (upd G11 q12 (.lst [.ref q1, .ref q2, .ref q3, .ref q4, .ref q5, .ref q7, .ref q9, .ref q11])) q12 = some (.lst [.ref q1, .ref q2, .ref q3, .ref q4, .ref q5, .ref q7, .ref q9, .ref q11]) := upd_same
    generalize upd G11 q12 (.lst [.ref q1, .ref q2, .ref q3, .ref q4, .ref q5, .ref q7, .ref q9, .ref q11]) = G12 at *
    refine ⟨sz (by decide), fun q13 hq13 => ?_⟩
    have e13 := Evl.Ex.new (o := .lst [.str "+"]) hq13
    have h13 : (upd G12 q13 (.lst [.str "+"])) q13 = some (.lst [.str "+"]) := upd_same
    generalize upd G12 q13 (.lst [.str "+"]) = G13 at *
    refine ⟨sz (by decide), fun q14 hq14 => ?_⟩
    have e14 := Evl.Ex.new (o := .tup []) hq14
    have h14 : (upd G13 q14 (.tup [])) q14 = some (.tup []) := upd_same
    generalize upd G13 q14 (.tup []) = G14 at *
    refine ⟨sz (by decide), fun q15 hq15 => ?_⟩
    have e15 := Evl.Ex.new (o := .tup [.str "same", .int n]) hq15
    have h15 : (upd G14 q15 (.tup [.str "same", .int n])) q15 = some (.tup [.str "same", .int n]) := upd_same
    generalize upd G14 q15 (.tup [.str "same", .int n]) = G15 at *
    refine ⟨sz (by decide), fun q16 hq16 => ?_⟩
    have e16 := Evl.Ex.new (o := .tup [.str "plus"]) hq16
    have h16 : (upd G15 q16 (.tup [.str "plus"])) q16 = some (.tup [.str "plus"]) := upd_same
    generalize upd G15 q16 (.tup [.str "plus"]) = G16 at *
    refine ⟨sz (by decide), fun q17 hq17 => ?_⟩
    have e17 := Evl.Ex.new (o := .tup [.str "table"]) hq17
    have h17 : (upd G16 q17 (.tup [.str "table"])) q17 = some (.tup [.str "table"]) := upd_same
    generalize upd G16 q17 (.tup [.str "table"]) = G17 at *
    refine ⟨sz (by decide), fun q18 hq18 => ?_⟩
    have e18 := Evl.Ex.new (o := .tup [.str "table", .int n]) hq18
    have h18 : (upd G17 q18 (.tup [.str "table", .int n])) q18 = some (.tup [.str "table", .int n]) := upd_same
    generalize upd G17 q18 (.tup [.str "table", .int n]) = G18 at *
    refine ⟨sz (by decide), fun q19 hq19 => ?_⟩
    have e19 := Evl.Ex.new (o := .tup [.str "pick", .int n, .int n]) hq19
    have h19 : (upd G18 q19 (.tup [.str "pick", .int n, .int n])) q19 = some (.tup [.str "pick", .int n, .int n]) := upd_same
    generalize upd G18 q19 (.tup [.str "pick", .int n, .int n]) = G19 at *
    refine ⟨sz (by decide), fun q20 hq20 => ?_⟩
    have e20 := Evl.Ex.new (o := .tup [.int n]) hq20
    have h20 : (upd G19 q20 (.tup [.int n])) q20 = some (.tup [.int n]) := upd_same
    generalize upd G19 q20 (.tup [.int n]) = G20 at *
    refine ⟨sz (by decide), fun q21 hq21 => ?_⟩
    have e21 := Evl.Ex.new (o := .tup [.int n, .bl false]) hq21
    have h21 : (upd G20 q21 (.tup [.int n, .bl false])) q21 = some (.tup [.int n, .bl false]) := upd_same
    generalize upd G20 q21 (.tup [.int n, .bl false]) = G21 at *
    refine ⟨sz (by decide), fun q22 hq22 => ?_⟩
    have e22 := Evl.Ex.new (o := .tup [.str "table", .ref q21]) hq22
    have h22 : (upd G21 q22 (.tup [.str "table", .ref q21])) q22 = some (.tup [.str "table", .ref q21]) := upd_same
    generalize upd G21 q22 (.tup [.str "table", .ref q21]) = G22 at *
    refine ⟨sz (by decide), fun q23 hq23 => ?_⟩
    have e23 := Evl.Ex.new (o := .tup [.int 0]) hq23
    have h23 : (upd G22 q23 (.tup [.int 0])) q23 = some (.tup [.int 0]) := upd_same
    generalize upd G22 q23 (.tup [.int 0]) = G23 at *
    refine ⟨q23, 17, _, rfl, rfl, SqT.of h23, by simp, by decide, by decide, by decide, fun q24 hq24 => ?_⟩
    have e24 := Evl.Ex.new (o := .tup (List.replicate (17 : Int).toNat [V.int 0]).flatten) hq24
    have h24 : (upd G23 q24 (.tup (List.replicate (17 : Int).toNat [V.int 0]).flatten)) q24 = some (.tup (List.replicate (17 : Int).toNat [V.int 0]).flatten) := upd_same
    generalize upd G23 q24 (.tup (List.replicate (17 : Int).toNat [V.int 0]).flatten) = G24 at *
    refine ⟨sz (by decide), fun q25 hq25 => ?_⟩
    have e25 := Evl.Ex.new (o := .tup [.str "table", .ref q24]) hq25
    have h25 : (upd G24 q25 (.tup [.str "table", .ref q24])) q25 = some (.tup [.str "table", .ref q24]) := upd_same
    generalize upd G24 q25 (.tup [.str "table", .ref q24]) = G25 at *
    refine ⟨sz (by decide), fun q26 hq26 => ?_⟩
    have e26 := Evl.Ex.new (o := .lst [.str "+", .ref q13, .ref q14, .ref q15, .ref q16, .ref q17, .ref q18, .ref q19, .ref q20, .non, .ref q22, .ref q25]) hq26
    have h26 : (upd G25 q26 (.lst [.str "+", .ref q13, .ref q14, .ref q15, .ref q16, .ref q17, .ref q18, .ref q19, .ref q20, .non, .ref q22, .ref q25])) q26 = some (.lst [.str "+", .ref q13, .ref q14, .ref q15, .ref q16, .ref q17, .ref q18, .ref q19, .ref q20, .non, .ref q22, .ref q25]) := upd_same
    generalize upd G25 q26 (.lst [.str "+", .ref q13, .ref q14, .ref q15, .ref q16, .ref q17, .ref q18, .ref q19, .ref q20, .non, .ref q22, .ref q25]) = G26 at *
    have x26 : Evl.Ex G26 G26 := Evl.Ex.refl _
    have x25 : Evl.Ex G25 G26 := e26.trans x26
    have x24 : Evl.Ex G24 G26 := e25.trans x25
    have x23 : Evl.Ex G23 G26 := e24.trans x24
    have x22 : Evl.Ex G22 G26 := e23.trans x23
    have x21 : Evl.Ex G21 G26 := e22.trans x22
    have x20 : Evl.Ex G20 G26 := e21.trans x21
    have x19 : Evl.Ex G19 G26 := e20.trans x20
    have x18 : Evl.Ex G18 G26 := e19.trans x19
    have x17 : Evl.Ex G17 G26 := e18.trans x18
    have x16 : Evl.Ex G16 G26 := e17.trans x17
    have x15 : Evl.Ex G15 G26 := e16.trans x16
    have x14 : Evl.Ex G14 G26 := e15.trans x15
    have x13 : Evl.Ex G13 G26 := e14.trans x14
    have x12 : Evl.Ex G12 G26 := e13.trans x13
    have x11 : Evl.Ex G11 G26 := e12.trans x12
    have x10 : Evl.Ex G10 G26 := e11.trans x11
    have x9 : Evl.Ex G9 G26 := e10.trans x10
    have x8 : Evl.Ex G8 G26 := e9.trans x9
    have x7 : Evl.Ex G7 G26 := e8.trans x8
    have x6 : Evl.Ex G6 G26 := e7.trans x7
    have x5 : Evl.Ex G5 G26 := e6.trans x6
    have x4 : Evl.Ex G4 G26 := e5.trans x5
    have x3 : Evl.Ex G3 G26 := e4.trans x4
    have x2 : Evl.Ex G2 G26 := e3.trans x3
    have x1 : Evl.Ex G1 G26 := e2.trans x2
    have x0 : Evl.Ex G0 G26 := e1.trans x1
    refine ⟨q12, q26, _, _, rfl, rfl, x12 _ _ h12, h26, sz (by simp), fun q27 hq27 => ?_⟩
    have e27 := Evl.Ex.new (o := .lst ([.ref q1, .ref q2, .ref q3, .ref q4, .ref q5, .ref q7, .ref q9, .ref q11] ++ [.str "+", .ref q13, .ref q14, .ref q15, .ref q16, .ref q17, .ref q18, .ref q19, .ref q20, .non, .ref q22, .ref q25])) hq27
    have all : ∀ y ∈ [.ref q1, .ref q2, .ref q3, .ref q4, .ref q5, .ref q7, .ref q9, .ref q11, .str "+", .ref q13, .ref q14, .ref q15, .ref q16, .ref q17, .ref q18, .ref q19, .ref q20, .non, .ref q22, .ref q25], BadKd G26 y := mem_c (BadKd.go x1 (bad_two h1 (by decide +kernel) (.inl ⟨rfl, rfl⟩) (fun q => absurd q (by decide +kernel)) plain_int (fun q => absurd q (by decide +kernel)))) (mem_c (BadKd.go x2 (bad_one h2 (by decide +kernel) (by decide +kernel) (by decide +kernel))) (mem_c (BadKd.go x3 (bad_two h3 (by decide +kernel) (.inl ⟨rfl, rfl⟩) (fun _ => okN_big n0) plain_int (fun q => absurd q (by decide +kernel)))) (mem_c (BadKd.go x4 (bad_two h4 (by decide +kernel) (.inl ⟨rfl, rfl⟩) (fun _ => okN_neg n0) plain_int (fun q => absurd q (by decide +kernel)))) (mem_c (BadKd.go x5 (bad_two h5 (by decide +kernel) (.inl ⟨rfl, rfl⟩) (fun _ => rfl) plain_bl (fun q => absurd q (by decide +kernel)))) (mem_c (BadKd.go x7 (bad_tab h7 (e7 _ _ h6) (by simp [okF]) (mem_n) (by simp) (by decide +kernel))) (mem_c (BadKd.go x9 (bad_tab h9 (e9 _ _ h8) (by simp [okF]) (mem_c plain_int (mem_c plain_int (mem_c plain_int mem_n))) (by simp) (by show (inV (.int ((3 : Nat) : Int)) _ && _) = false; rw [show inV (.int ((3 : Nat) : Int)) [.int 1, .int 2, .int 4, .int 8, .int 16] = false by decide +kernel]; rfl))) (mem_c (BadKd.go x11 (bad_tab h11 (e11 _ _ h10) (by simp [okF]) (mem_c plain_int (mem_c plain_int mem_n)) (by simp) (by unfold tabB; rw [List.all_cons, List.all_cons, okN_big n0, Bool.false_and, Bool.and_false, Bool.and_false]))) (mem_c (.inl (.inr (.inl ⟨_, rfl⟩))) (mem_c (BadKd.go x13 (.inl (.inr (.inr ⟨_, _, rfl, h13⟩)))) (mem_c (BadKd.go x14 (.inr ⟨_, _, _, rfl, h14, .nil, .inl rfl⟩)) (mem_c (BadKd.go x15 (bad_two h15 (by decide +kernel) (.inl ⟨rfl, rfl⟩) (fun q => absurd q (by decide +kernel)) plain_int (fun q => absurd q (by decide +kernel)))) (mem_c (BadKd.go x16 (bad_one h16 (by decide +kernel) (by decide +kernel) (by decide +kernel))) (mem_c (BadKd.go x17 (bad_one h17 (by decide +kernel) (by decide +kernel) (by decide +kernel))) (mem_c (BadKd.go x18 (bad_two h18 (by decide +kernel) (.inl ⟨rfl, rfl⟩) (fun q => absurd q (by decide +kernel)) plain_int (fun _ => .inl rfl))) (mem_c (BadKd.go x19 (.inr ⟨_, _, _, rfl, h19, .cons (.inl ⟨by decide +kernel, rfl⟩) (.cons (.inl ⟨rfl, rfl⟩) (.cons (.inl ⟨rfl, rfl⟩) .nil)), .inr (.inr (.inr (.inr ⟨_, _, _, rfl⟩)))⟩)) (mem_c (BadKd.go x20 (.inr ⟨_, _, _, rfl, h20, .cons (.inl ⟨rfl, rfl⟩) .nil, .inr (.inr (.inl ⟨n, rfl⟩))⟩)) (mem_c (.inl (.inl rfl)) (mem_c (BadKd.go x22 (bad_tab h22 (e22 _ _ h21) (by simp [okF]) (mem_c plain_int (mem_c plain_bl mem_n)) (by simp) (by unfold tabB; rw [List.all_cons, List.all_cons, show okN (.bl false) = false from rfl, Bool.false_and, Bool.and_false, Bool.and_false]))) (mem_c (BadKd.go x25 (bad_tab h25 (e25 _ _ h24) (by decide +kernel) (fun z hz => by obtain ⟨l, hl, hz⟩ := List.mem_flatten.mp hz; rw [List.mem_replicate] at hl; rw [hl.2, List.mem_singleton] at hz; rw [hz]; exact plain_int) (by decide +kernel) (by decide +kernel))) (mem_n))))))))))))))))))))
    obtain ⟨z, hz, ez⟩ := atI_mem (xs := [.ref q1, .ref q2, .ref q3, .ref q4, .ref q5, .ref q7, .ref q9, .ref q11, .str "+", .ref q13, .ref q14, .ref q15, .ref q16, .ref q17, .ref q18, .ref q19, .ref q20, .non, .ref q22, .ref q25]) i0 i1
    refine ixl (SqL.of upd_same) ez (k _ _ ((f1.trans (Fr.of x0)).trans (Fr.of e27)) ((hh1.go x0).go e27) ((all z hz).go e27))
end


/-! ### rows of words -/
def RowN (H : Hp) (D : Addr) (n : Nat) (e : Int) (r : V) : Prop := ∃ (q : Addr) (ns : List Int), r = .ref q ∧ q ≠ D ∧ H q = some (.lst (ns.map V.int)) ∧ ns.length = n ∧ ∀ x ∈ ns, 0 ≤ x ∧ x < e
theorem RowN.go {H H' : Hp} {D : Addr} {n : Nat} {e : Int} {r : V} (x : Evl.Ex H H') (h : RowN H D n e r) : RowN H' D n e r := by
  obtain ⟨q, ns, h1, h2, h3, h4⟩ := h
  exact ⟨q, ns, h1, h2, x _ _ h3, h4⟩
theorem RowN.upd {H : Hp} {D : Addr} {n : Nat} {e : Int} {r : V} {o : HO} (h : RowN H D n e r) : RowN (L2.upd H D o) D n e r := by
  obtain ⟨q, ns, h1, h2, h3, h4⟩ := h
  exact ⟨q, ns, h1, h2, by rw [upd_ne h2]; exact h3, h4⟩
theorem RowN.fr {H H' : Hp} {p D : Addr} {n : Nat} {e : Int} {r : V} (f : Fr p H H') (c : Addr) (hh : HandAt H p c) (h : RowN H D n e r) : RowN H' D n e r := by
  obtain ⟨q, ns, h1, h2, h3, h4⟩ := h
  refine ⟨q, ns, h1, h2, f _ _ (fun z => ?_) h3, h4⟩
  obtain ⟨cells, i, g, t, hp, _⟩ := hh
  rw [← z, h3] at hp
  cases ns with
  | nil => cases hp
  | cons a b => cases hp
def RowsAt (H : Hp) (l : Addr) (n m : Nat) (e : Int) : Prop := ∃ rs : List V, H l = some (.lst rs) ∧ rs.length ≤ m ∧ ∀ r ∈ rs, RowN H l n e r
def ivLo (H0 : Hp) (D l : Addr) (n en k : Nat) : Nat → L2.St → Hp → Prop := fun j σ H' => ∃ (acc : List V) (v3 v4 : Option V), σ = [some (.ref l), some (.int en), some (.ref D), v3, v4] ∧ H' D = some (.lst acc) ∧ acc.length = k * en + j ∧ (∀ r ∈ acc, RowN H' D (n + 1) en r) ∧ Evl.Ex H0 H'
def ivLi (H0 : Hp) (D l : Addr) (n en k : Nat) (r : V) : Nat → L2.St → Hp → Prop := fun j σ H' => ∃ (acc : List V) (v4 : Option V), σ = [some (.ref l), some (.int en), some (.ref D), some r, v4] ∧ H' D = some (.lst acc) ∧ acc.length = k * en + j ∧ (∀ r ∈ acc, RowN H' D (n + 1) en r) ∧ Evl.Ex H0 H'
def RowQ (H : Hp) (n : Nat) (e : Int) (r : V) : Prop := ∃ (q : Addr) (ns : List Int), r = .ref q ∧ H q = some (.lst (ns.map V.int)) ∧ ns.length = n ∧ ∀ x ∈ ns, 0 ≤ x ∧ x < e
theorem RowN.q {H : Hp} {D : Addr} {n : Nat} {e : Int} {r : V} (h : RowN H D n e r) : RowQ H n e r := by
  obtain ⟨q, ns, h1, h2, h3, h4⟩ := h
  exact ⟨q, ns, h1, h3, h4⟩
theorem RowQ.go {H H' : Hp} {n : Nat} {e : Int} {r : V} (x : Evl.Ex H H') (h : RowQ H n e r) : RowQ H' n e r := by
  obtain ⟨q, ns, h1, h3, h4⟩ := h
  exact ⟨q, ns, h1, x _ _ h3, h4⟩
theorem RowQ.new {H : Hp} {D : Addr} {o : HO} {n : Nat} {e : Int} {r : V} (hD : H D = none) (h : RowQ H n e r) : RowN (L2.upd H D o) D n e r := by
  obtain ⟨q, ns, h1, h3, h4⟩ := h
  have nq := ne_of_none h3 hD
  exact ⟨q, ns, h1, nq, by rw [upd_ne nq]; exact h3, h4⟩
theorem RowsAt.mono {H : Hp} {l : Addr} {n m m2 : Nat} {e : Int} (h : RowsAt H l n m e) (hm : m ≤ m2) : RowsAt H l n m2 e := by
  obtain ⟨rs, h1, h2, h3⟩ := h
  exact ⟨rs, h1, Nat.le_trans h2 hm, h3⟩
theorem rep_flat (a : Int) : ∀ n : Nat, (List.replicate n [V.int a]).flatten = (List.replicate n a).map V.int
  | 0 => rfl
  | n + 1 => by rw [List.replicate_succ, List.flatten_cons, rep_flat a n, List.replicate_succ, List.map_cons]; rfl
theorem rep1 {H : Hp} {l : Addr} {a : Int} {n : Nat} {Q : VK} (h : H l = some (.lst [.int a])) (hn : n ≤ 10) (k : ∀ q H', Evl.Ex H H' → H' q = some (.lst ((List.replicate n a).map V.int)) → Q (.ref q) H') : rRep (.ref l) (.int n) H Q :=
  ⟨l, n, _, rfl, rfl, h, by omega, by omega, by rw [Int.toNat_natCast]; exact sz (by show 1 * n ≤ _; omega), fun q hq => k q _ (Evl.Ex.new hq) (by rw [upd_same, Int.toNat_natCast, rep_flat])⟩
theorem rowq_rep {H : Hp} {q : Addr} {n : Nat} {a e : Int} (h : H q = some (.lst ((List.replicate n a).map V.int))) (h0 : 0 ≤ a) (h1 : a < e) : RowQ H n e (.ref q) := ⟨q, _, rfl, h, List.length_replicate, fun x hx => by rw [List.mem_replicate] at hx; rw [hx.2]; exact ⟨h0, h1⟩⟩
def ivRo (H : Hp) (p : Addr) (m wd : Nat) : Nat → L2.St → Hp → Prop := fun i σ H' => ∃ l v5, σ = [some (.ref p), some (.int m), some (.int wd), some (.int (2 ^ wd)), some (.ref l), v5] ∧ RowsAt H' l i (4 ^ i) ((2 : Int) ^ wd) ∧ Evl.Ex H H'
def ivWR (H5 : Hp) (p c : Addr) (m : Nat) (e : Int) (D : Addr) (i : Nat) (H' : Hp) : Prop := ∃ rs : List V, H' D = some (.lst rs) ∧ rs.length = i ∧ (∀ r ∈ rs, RowN H' D m e r) ∧ Fr p H5 H' ∧ HandAt H' p c
section
variable {P : Program} {w : World} {K : PySem.W.Frag} {mg : Str → Option Value} {base : Heap} {a : Ad}
def spLonger : Sp := fun vs H Q _ => ∃ (l : Addr) (n m en : Nat), vs = [.ref l, .int en] ∧ RowsAt H l n m en ∧ m ≤ 64 ∧ n ≤ 10 ∧ en ≤ 4 ∧ ∀ l2 H', Evl.Ex H H' → RowsAt H' l2 (n + 1) (m * en) en → Q (.ref l2) H'
theorem ok_law_longer (T : Txt K mg a) : FnOk P w K mg base CX0 1 a.f_law_longer a.d_law_longer ["_law_rows", "_law_end"] spLonger := by
  refine T.F_law_longer.ok sc_law_longer (fun vs H Q E h => ?_) (fun cdv A outer s H vs Q E hr h => ?_)
  · obtain ⟨_, _, _, _, rfl, _⟩ := h
    rfl
  · obtain ⟨l, n, m, en, rfl, ⟨rs, hl, hm, hrs⟩, m1, n1, e1, k⟩ := h
    refine ⟨_, (pss_cons (ps_set (i := 2) sc_law_longer.nd rfl (by first | exact Or.inl rfl | exact Or.inr rfl) (pe_lst pa_nil))
  (pss_cons (ps_for PassesOwn.never rfl (pi_list (pv 0)) (pg_name (i := 3) sc_law_longer.nd rfl (by first | exact Or.inl rfl | exact Or.inr rfl)) (pss_one (ps_for PassesOwn.never rfl (pi_range1 (by rfl) T.z_range (pa_cons (pv 1) pa_nil)) (pg_name (i := 4) sc_law_longer.nd rfl (by first | exact Or.inl rfl | exact Or.inr rfl)) (pss_one (ps_expr (pe_bm PySem.F.plainAttrs_list PySem.F.slot_list_append PySem.F.type_list_append mt_append (pv 2) (pa_cons (pe_op op_cat (pv 3) (pe_lst (pa_cons (pv 4) pa_nil))) pa_nil)))))))
  (pss_one (ps_ret (pv 2))))), ?_⟩
    walk_at "sm"
    refine ⟨sz (by decide), fun D hD => ?_⟩
    have eD := Evl.Ex.new (o := .lst []) hD
    refine ⟨_, rfl, l, rfl, ⟨_, SqL.of (eD _ _ hl)⟩, for_list (K := K) (a := l) (xs := rs) (fun i => ivLo H D l n en i 0) ⟨[], none, none, rfl, upd_same, by simp, mem_n, eD⟩ (fun i σ H' _ ⟨_, _, _, _, _, _, _, e⟩ => SqL.of (e _ _ hl)) ?_ ?_⟩
    · rintro i r σ H1 hi ⟨acc, v3, v4, rfl, h1, h2, h3, x1⟩
      have hi2 := (List.getElem?_eq_some_iff.mp hi).1
      walk_at "sm"
      refine ⟨_, rfl, (en : Int), rfl, by omega, by omega, ?_⟩
      refine for_range (lo := 0) (n := (en : Int).toNat) (ivLi H D l n en i r) ⟨acc, v4, rfl, h1, h2, h3, x1⟩ ?_ ?_
      · rintro j σ H2 hj ⟨acc, v4, rfl, h1, h2, h3, x1⟩
        walk_at "sm"
        obtain ⟨q, ns, rfl, nq, hq, ln, bn⟩ := hrs r (List.mem_of_getElem? hi)
        have hj2 : j < en := by omega
        have bd : i * en ≤ 64 * 4 := Nat.mul_le_mul (by omega) e1
        refine ⟨.inl ⟨rfl, _, SqL.of h1⟩, sz (by decide), fun u hu => ?_⟩
        have eU := Evl.Ex.new (o := .lst [V.int (0 + (j : Int))]) hu
        have hU : (L2.upd H2 u (.lst [V.int (0 + (j : Int))])) u = some (.lst [V.int (0 + (j : Int))]) := upd_same
        generalize L2.upd H2 u (.lst [V.int (0 + (j : Int))]) = H3 at *
        refine ⟨q, u, _, _, rfl, rfl, eU _ _ (x1 _ _ hq), hU, sz (by rw [List.length_map]; show ns.length + 1 ≤ _; omega), fun v hv => ?_⟩
        have eV := Evl.Ex.new (o := .lst (ns.map V.int ++ [V.int (0 + (j : Int))])) hv
        have hV : (L2.upd H3 v (.lst (ns.map V.int ++ [V.int (0 + (j : Int))]))) v = some (.lst ((ns ++ [(j : Int)]).map V.int)) := by rw [upd_same, List.map_append, Int.zero_add]; rfl
        have hD3 : H3 D = some (.lst acc) := eU _ _ h1
        have nv : v ≠ D := Ne.symm (ne_of_none hD3 hv)
        generalize L2.upd H3 v (.lst (ns.map V.int ++ [V.int (0 + (j : Int))])) = H4 at *
        refine ⟨D, _, _, rfl, rfl, eV _ _ hD3, Nat.lt_of_le_of_lt (show acc.length ≤ 1000 by omega) (by decide), ?_⟩
        refine ⟨acc ++ [.ref v], _, rfl, upd_same, by rw [List.length_append, h2]; rfl, fun z hz => ?_, (x1.trans (eU.trans eV)).mut hD⟩
        rcases List.mem_append.mp hz with z1 | z1
        · exact ((h3 z z1).go (eU.trans eV)).upd
        · rw [List.mem_singleton] at z1
          subst z1
          refine ⟨v, ns ++ [(j : Int)], rfl, nv, by rw [upd_ne nv]; exact hV, by rw [List.length_append, ln]; rfl, fun x hx => ?_⟩
          rcases List.mem_append.mp hx with z2 | z2
          · exact bn x z2
          · rw [List.mem_singleton] at z2
            omega
      · rintro σ H2 ⟨acc, v4, rfl, h1, h2, h3, x1⟩
        refine ⟨acc, some r, v4, rfl, h1, ?_, h3, x1⟩
        rw [h2, Int.toNat_natCast, Nat.succ_mul]; rfl
    · rintro σ H1 ⟨acc, v3, v4, rfl, h1, h2, h3, x1⟩
      walk_at "sm"
      refine k D _ x1 ⟨acc, h1, ?_, h3⟩
      rw [h2]
      exact Nat.mul_le_mul_right _ hm
def ivW (H5 : Hp) (p c : Addr) (e : Int) (D : Addr) (i : Nat) (H' : Hp) : Prop := ∃ ns : List Int, H' D = some (.lst (ns.map V.int)) ∧ ns.length = i ∧ (∀ y ∈ ns, 0 ≤ y ∧ y < e) ∧ Fr p H5 H' ∧ HandAt H' p c
def spWords : Sp := fun vs H Q _ => ∃ (p c : Addr) (m wd : Nat), vs = [.ref p, .int m, .int wd] ∧ HandAt H p c ∧ m ≤ 10 ∧ wd ≤ 12 ∧ ∀ (l : Addr) (ns : List Int) (H' : Hp), H l = none → Fr p H H' → HandAt H' p c → H' l = some (.lst (ns.map V.int)) → ns.length = m → (∀ x ∈ ns, 0 ≤ x ∧ x < (2 : Int) ^ wd) → Q (.ref l) H'
theorem ok_law_words (T : Txt K mg a) : FnOk P w K mg base CX0 3 a.f_law_words a.d_law_words ["_law_hand_here", "_law_many", "_law_width"] spWords := by
  refine T.F_law_words.ok sc_law_words (fun vs H Q E h => ?_) (fun cdv A outer s H vs Q E hr h => ?_)
  · obtain ⟨_, _, _, _, rfl, _⟩ := h
    rfl
  · obtain ⟨p, c, m, wd, rfl, hh, hm, hw, k⟩ := h
    refine ⟨_, (pss_one (ps_ret (pe_lc (own := [("_law_k", 3)]) (g := gName 3) (tt := tYes) rfl sc_law_words.nd (pi_range1 (by rfl) T.z_range (pa_cons (pv 1) pa_nil)) (blkOk_by (own := [("_law_k", 3)]) (N := ["_law_hand_here", "_law_many", "_law_width", "_law_k"]) (sc := defScope s_law_words) (by decide +kernel)) (fun _ _ _ _ _ => pg_name (i := 3) sc_law_words.nd rfl (Or.inl rfl)) (fun _ _ _ _ _ => pts_nil) (fun _ _ _ _ _ => (pe_call (ok_law_take T) (hr.mono (by decide)) rfl T.m_law_take T.F_law_take.kp T.b_law_take .nil pass0 (pa_cons (pv 0) (pa_cons (pe_call (ok_law_two T) (hr.mono (by decide)) rfl T.m_law_two T.F_law_two.kp T.b_law_two .nil pass0 (pa_cons (pv 2) pa_nil)) pa_nil))))))), ?_⟩
    obtain ⟨t1, t2⟩ := two_le hw
    walk_at "sm"
    refine ⟨by omega, by omega, ?_⟩
    refine lcg_range (ivW H p c (2 ^ wd)) (fun D hD => ⟨[], upd_same, rfl, (by intro y hy; cases hy), (Fr.refl H).mut hD, hh.upd (hh.lt hD) (hh.lc hD)⟩) (fun D i H6 hD hi ⟨ns, h1, h2, h3, f6, hh6⟩ => ?_) (fun lp H6 hlp ⟨ns, h1, h2, h3, f6, hh6⟩ => ?_)
    · walk_at "sm"
      have nDp := hh.lt hD
      refine ⟨wd, rfl, by omega, ?_⟩
      refine tk hh6 t1 (by omega) fun r3 H7 c0 c1 f7 hh7 => ?_
      refine ⟨_, f7 _ _ nDp h1, Nat.lt_of_le_of_lt (show (ns.map V.int).length ≤ 5000 by rw [List.length_map]; omega) (by decide), ns ++ [r3], by rw [upd_same, List.map_append]; rfl, by rw [List.length_append, h2]; rfl, ?_, (f6.trans f7).mut hD, hh7.upd nDp (hh.lc hD)⟩
      intro y hy
      rcases List.mem_append.mp hy with q | q
      · exact h3 y q
      · rw [List.mem_singleton] at q
        rw [q]; exact ⟨c0, c1⟩
    · exact k lp ns _ hlp f6 hh6 h1 (by rw [h2, Int.toNat_natCast]) h3
def spRows : Sp := fun vs H Q _ => ∃ (p c : Addr) (m wd : Nat), vs = [.ref p, .int m, .int wd] ∧ HandAt H p c ∧ 1 ≤ m ∧ m ≤ 3 ∧ 1 ≤ wd ∧ wd ≤ 12 ∧ ∀ l H', Fr p H H' → HandAt H' p c → RowsAt H' l m 64 ((2 : Int) ^ wd) → Q (.ref l) H'
theorem ok_law_rows_of (T : Txt K mg a) : FnOk P w K mg base CX0 4 a.f_law_rows_of a.d_law_rows_of ["_law_hand_here", "_law_many", "_law_width"] spRows := by
  refine T.F_law_rows_of.ok sc_law_rows_of (fun vs H Q E h => ?_) (fun cdv A outer s H vs Q E hr h => ?_)
  · obtain ⟨_, _, _, _, rfl, _⟩ := h
    rfl
  · obtain ⟨p, c, m, wd, rfl, hh, hm1, hm, hw1, hw, k⟩ := h
    refine ⟨_, (pss_cons (ps_set (i := 3) sc_law_rows_of.nd rfl (by first | exact Or.inl rfl | exact Or.inr rfl) (pe_call (ok_law_two T) (hr.mono (by decide)) rfl T.m_law_two T.F_law_two.kp T.b_law_two .nil pass0 (pa_cons (pv 2) pa_nil)))
  (pss_cons (ps_if (pt_cmpR op_le (pv 2) pe_int (nomark _)) (pss_cons (ps_set (i := 4) sc_law_rows_of.nd rfl (by first | exact Or.inl rfl | exact Or.inr rfl) (pe_lst (pa_cons (pe_lst pa_nil) pa_nil)))
  (pss_cons (ps_for PassesOwn.never rfl (pi_range1 (by rfl) T.z_range (pa_cons (pv 1) pa_nil)) (pg_name (i := 5) sc_law_rows_of.nd rfl (by first | exact Or.inl rfl | exact Or.inr rfl)) (pss_one (ps_set (i := 4) sc_law_rows_of.nd rfl (by first | exact Or.inl rfl | exact Or.inr rfl) (pe_call (ok_law_longer T) (hr.mono (by decide)) rfl T.m_law_longer T.F_law_longer.kp T.b_law_longer .nil pass0 (pa_cons (pv 4) (pa_cons (pv 3) pa_nil))))))
  (pss_one (ps_ret (pv 4)))))
    pss_nil)
  (pss_cons (ps_setLc (i := 4) (own := [("_law_k", 5)]) (g := gName 5) (tt := tYes) rfl sc_law_rows_of.nd rfl rfl (sw_true rfl rfl rfl (by decide +kernel)) (pi_range1 (by rfl) T.z_range (pa_cons pe_int pa_nil)) (blkOk_by (own := [("_law_k", 5)]) (N := ["_law_hand_here", "_law_many", "_law_width", "_law_end", "_law_told", "_law_k"]) (sc := defScope s_law_rows_of) (by decide +kernel)) (fun _ _ _ _ _ => pg_name (i := 5) sc_law_rows_of.nd rfl (Or.inl rfl)) (fun _ _ _ _ _ => pts_nil) (fun _ _ _ _ _ => (pe_call (ok_law_words T) (hr.mono (by decide)) rfl T.m_law_words T.F_law_words.kp T.b_law_words .nil pass0 (pa_cons (pv 0) (pa_cons (pv 1) (pa_cons (pv 2) pa_nil))))))
  (pss_one (ps_ret (pe_op op_cat (pv 4) (pe_lst (pa_cons (pe_op op_rep (pe_lst (pa_cons pe_int pa_nil)) (pv 1)) (pa_cons (pe_op op_rep (pe_lst (pa_cons (pe_op op_sub (pv 3) pe_int) pa_nil)) (pv 1)) (pa_cons (pe_op op_rep (pe_lst (pa_cons pe_int pa_nil)) (pv 1)) (pa_cons (pe_op op_rep (pe_lst (pa_cons (pe_op op_fdiv (pv 3) pe_int) pa_nil)) (pv 1)) (pa_cons (pe_op op_cat (pe_lst (pa_cons (pe_op op_sub (pv 3) pe_int) pa_nil)) (pe_op op_rep (pe_lst (pa_cons pe_int pa_nil)) (pe_op op_sub (pv 1) pe_int))) pa_nil)))))))))))), ?_⟩
    obtain ⟨t1, t2⟩ := two_le hw
    walk_at "sm"
    refine ⟨wd, rfl, by omega, ?_⟩
    walk_at "sm"
    refine ite2 (fun h2 => ⟨sz (by decide), fun q0 hq0 => ⟨sz (by decide), fun l0 hl0 => ⟨_, rfl, (m : Int), rfl, by omega, by omega, ?_⟩⟩⟩) (fun h2 => ⟨by decide, by decide, ?_⟩)
    · have e0 := Evl.Ex.new (o := .lst []) hq0
      have e1 := Evl.Ex.new (o := .lst [.ref q0]) hl0
      have en : (2 : Int) ^ wd = ((2 ^ wd : Nat) : Int) := by rw [Int.natCast_pow]; rfl
      have en4 : 2 ^ wd ≤ 4 := Nat.pow_le_pow_right (show 0 < 2 by decide) (show wd ≤ 2 by omega)
      refine for_range (lo := 0) (n := (m : Int).toNat) (ivRo H p m wd) ⟨l0, none, rfl, ⟨_, upd_same, Nat.le_refl _, mem_c (RowQ.new hl0 ⟨q0, [], rfl, upd_same, rfl, fun x hx => by cases hx⟩) mem_n⟩, e0.trans e1⟩ ?_ ?_
      · rintro i σ H1 hi ⟨l, v5, rfl, hR, x1⟩
        walk_at "sm"
        have hi2 : i < 3 := by omega
        have b4 : 4 ^ i ≤ 16 := Nat.pow_le_pow_right (show 0 < 4 by decide) (show i ≤ 2 by omega)
        refine ⟨l, i, 4 ^ i, 2 ^ wd, by rw [en], by rw [← en]; exact hR, by omega, by omega, en4, fun l2 H2 x2 hR2 => ?_⟩
        refine ⟨l2, _, rfl, ?_, x1.trans x2⟩
        rw [← en] at hR2
        exact hR2.mono (by rw [Nat.pow_succ]; exact Nat.mul_le_mul_left _ en4)
      · rintro σ H1 ⟨l, v5, rfl, hR, x1⟩
        walk_at "sm"
        rw [Int.toNat_natCast] at hR
        refine k l _ (Fr.of x1) (hh.go x1) (hR.mono ?_)
        exact Nat.pow_le_pow_right (show 0 < 4 by decide) hm
    · refine lcg_range (ivWR H p c m (2 ^ wd)) (fun D hD => ⟨[], upd_same, rfl, mem_n, (Fr.refl H).mut hD, hh.upd (hh.lt hD) (hh.lc hD)⟩) (fun D i H6 hD hi ⟨rs, h1, h2, h3, f6, hh6⟩ => ?_) (fun D H6 hD ⟨rs, h1, h2, h3, f6, hh6⟩ => ?_)
      · walk_at "sm"
        have nDp := hh.lt hD
        refine ⟨p, c, m, wd, rfl, hh6, by omega, hw, fun l ns H7 hl f7 hh7 hl7 ln bn => ?_⟩
        have nl : l ≠ D := Ne.symm (ne_of_none h1 hl)
        refine ⟨_, f7 _ _ nDp h1, Nat.lt_of_le_of_lt (show rs.length ≤ 5000 by omega) (by decide), rs ++ [.ref l], upd_same, by rw [List.length_append, h2]; rfl, fun r hr => ?_, (f6.trans f7).mut hD, hh7.upd nDp (hh.lc hD)⟩
        rcases List.mem_append.mp hr with q | q
        · exact ((h3 r q).fr f7 c hh6).upd
        · rw [List.mem_singleton] at q
          subst q
          exact ⟨l, ns, rfl, nl, by rw [upd_ne nl]; exact hl7, ln, bn⟩
      · walk_at "sm"
        have p2 : (2 : Int) ≤ 2 ^ wd := by
          have := Nat.pow_le_pow_right (show 0 < 2 by decide) hw1
          exact_mod_cast this
        have rq : ∀ r ∈ rs, RowQ H6 m (2 ^ wd) r := fun r hr => (h3 r hr).q
        refine ⟨sz (by decide), fun a1 ha1 => rep1 upd_same (by omega) fun q1 G1 x1 g1 => ?_⟩
        have y1 := (Evl.Ex.new (o := .lst [.int 0]) ha1).trans x1
        refine ⟨sz (by decide), fun a2 ha2 => rep1 upd_same (by omega) fun q2 G2 x2 g2 => ?_⟩
        have y2 := (Evl.Ex.new (o := .lst [.int (2 ^ wd - 1)]) ha2).trans x2
        refine ⟨sz (by decide), fun a3 ha3 => rep1 upd_same (by omega) fun q3 G3 x3 g3 => ?_⟩
        have y3 := (Evl.Ex.new (o := .lst [.int 1]) ha3).trans x3
        refine ⟨⟨by decide, by decide⟩, sz (by decide), fun a4 ha4 => rep1 upd_same (by omega) fun q4 G4 x4 g4 => ?_⟩
        have y4 := (Evl.Ex.new (o := .lst [.int (2 ^ wd / 2)]) ha4).trans x4
        refine ⟨sz (by decide), fun a5 ha5 => ⟨sz (by decide), fun a6 ha6 => ?_⟩⟩
        have z5 := Evl.Ex.new (o := .lst [.int (2 ^ wd - 1)]) ha5
        have z6 := Evl.Ex.new (o := .lst [.int 1]) ha6
        obtain ⟨m', rfl⟩ : ∃ m', m = m' + 1 := ⟨m - 1, by omega⟩
        rw [show ((m' + 1 : Nat) : Int) - 1 = (m' : Int) by omega]
        refine rep1 upd_same (by omega) fun q6 G6 x6 g6 => ?_
        have g5 : G6 a5 = some (.lst [.int (2 ^ wd - 1)]) := x6 _ _ (z6 _ _ upd_same)
        refine ⟨a5, q6, _, _, rfl, rfl, g5, g6, sz (by rw [List.length_map, List.length_replicate]; show 1 + m' ≤ _; omega), fun q7 hq7 => ?_⟩
        have z7 := Evl.Ex.new (o := .lst ([V.int (2 ^ wd - 1)] ++ (List.replicate m' 1).map V.int)) hq7
        have y7 := ((z5.trans z6).trans x6).trans z7
        refine ⟨sz (by decide), fun q8 hq8 => ?_⟩
        have z8 := Evl.Ex.new (o := .lst [V.ref q1, V.ref q2, V.ref q3, V.ref q4, V.ref q7]) hq8
        have t8 := y7.trans z8
        have hD8 := t8 _ _ (y4 _ _ (y3 _ _ (y2 _ _ (y1 _ _ h1))))
        refine ⟨D, q8, _, _, rfl, rfl, hD8, upd_same, sz (by rw [h2]; show 12 + 5 ≤ 100000; decide), fun q9 hq9 => ?_⟩
        have z9 := Evl.Ex.new (o := .lst (rs ++ [V.ref q1, V.ref q2, V.ref q3, V.ref q4, V.ref q7])) hq9
        have xx := ((((y1.trans y2).trans y3).trans y4).trans t8).trans z9
        have r1 : RowQ G1 (m' + 1) (2 ^ wd) (.ref q1) := rowq_rep g1 (by decide) t1
        have r2 : RowQ G2 (m' + 1) (2 ^ wd) (.ref q2) := rowq_rep g2 (by omega) (by omega)
        have r3 : RowQ G3 (m' + 1) (2 ^ wd) (.ref q3) := rowq_rep g3 (by decide) (by omega)
        have r4 : RowQ G4 (m' + 1) (2 ^ wd) (.ref q4) := rowq_rep g4 (by omega) (by omega)
        have r5 : RowQ (upd G6 q7 (.lst ([V.int (2 ^ wd - 1)] ++ (List.replicate m' 1).map V.int))) (m' + 1) (2 ^ wd) (.ref q7) := ⟨q7, (2 ^ wd - 1) :: List.replicate m' 1, rfl, by rw [upd_same]; rfl, by rw [List.length_cons, List.length_replicate], fun x hx => by
          rcases List.mem_cons.mp hx with h | h
          · rw [h]; exact ⟨by omega, by omega⟩
          · rw [List.mem_replicate] at h; rw [h.2]; exact ⟨by decide, by omega⟩⟩
        refine k q9 _ (f6.trans (Fr.of xx)) (hh6.go xx) ⟨_, upd_same, by rw [List.length_append, h2]; show 12 + 5 ≤ 64; decide, fun r hr => ?_⟩
        rcases List.mem_append.mp hr with h | h
        · exact RowQ.new hq9 ((rq r h).go ((((y1.trans y2).trans y3).trans y4).trans t8))
        · exact mem_c (P := fun r => RowN (upd (upd (upd G6 q7 (.lst ([V.int (2 ^ wd - 1)] ++ (List.replicate m' 1).map V.int))) q8 (.lst [V.ref q1, V.ref q2, V.ref q3, V.ref q4, V.ref q7])) q9 (.lst (rs ++ [V.ref q1, V.ref q2, V.ref q3, V.ref q4, V.ref q7]))) q9 (m' + 1) (2 ^ wd) r) (RowQ.new hq9 (r1.go (((y2.trans y3).trans y4).trans t8))) (mem_c (RowQ.new hq9 (r2.go ((y3.trans y4).trans t8))) (mem_c (RowQ.new hq9 (r3.go (y4.trans t8))) (mem_c (RowQ.new hq9 (r4.go t8)) (mem_c (RowQ.new hq9 (r5.go z8)) mem_n)))) r h
end


/-! ### enumerate(t), t a tuple -/
set_option maxHeartbeats 4000000 in
theorem newEnum1 {v : Value} {o : Obj} {J : Heap → Prop} (B : Begins v o J) :
    Meets (Builtin.«enumerate.__new__» ⟨[.type "enumerate", v], []⟩) (fun _ R s => J s.heap ∧
      R (.ok (.ret (.ref (s.heap.push o).objs.size))) { s with heap := (s.heap.push o).push { cls := .type "enumerate", data := .fields #[.none, .bool false, .ref s.heap.objs.size, rawInt 0, .none, .none] } }) :=
  .of_wp fun prog w A R s h => by
    obtain ⟨hp, g, d, tk, os⟩ := s
    obtain ⟨h1, h⟩ := h
    have hsub := sub_enumerate
    have go : ∀ {A1 : Around} {E1 : Value → Shared → Prop} {Q1 : Value → Shared → Prop}, Q1 (.ref hp.objs.size) ⟨hp.push o, g, d, tk, os⟩ → wpAny (model prog w) A1 (pyIter v) Q1 E1 ⟨hp, g, d, tk, os⟩ := fun q => B.iter prog w _ _ ⟨hp, g, d, tk, os⟩ _ h1 q
    wp_walk using go
    refine wpAny_stack_any fun st => wpAny_pure ?_
    split
    · rename_i c _ _ _ _ _
      cases (c == Value.type "enumerate") <;> (wp_walk using go; exact ⟨_, rfl, h⟩)
    · wp_walk using go
      exact ⟨_, rfl, h⟩
theorem callEnum1 {prog : Program} {w : World} {A : Around} {E : Value → Shared → Prop} {s : Shared} {v : Value} {o : Obj} {J : Heap → Prop} {Q : Value → Shared → Prop} (B : Begins v o J) (h1 : J s.heap)
    (h : ∀ h2, IsEnum h2 (s.heap.objs.size + 1) s.heap.objs.size 0 .none → h2.get? s.heap.objs.size = some o → (∀ b u, s.heap.get? b = some u → h2.get? b = some u) → Q (.ref (s.heap.objs.size + 1)) { s with heap := h2 }) :
    wpAny (model prog w) A (call (.type "enumerate") [v]) Q E s := by
  refine callType_new F.called_enumerate (by decide) (F.typeCall_enumerate_1 _) (F.newCall_enumerate_1 _) (fun obj => F.args_object_init_2 obj _) F.entry_enumerate_new (newEnum1 B) ⟨h1, ?_⟩
  have hz : (s.heap.push o).objs.size = s.heap.objs.size + 1 := Heap.size_push ..
  have he := Heap.get?_push_size (s.heap.push o) (o := { cls := .type "enumerate", data := .fields #[.none, .bool false, .ref s.heap.objs.size, rawInt 0, .none, .none] }) rfl
  show _ ∧ _
  rw [hz] at he ⊢
  exact ⟨⟨_, he, rfl⟩, h _ he (Heap.get?_push_of_some _ (Heap.get?_push_size _ B.free)) fun b u x => Heap.get?_push_of_some _ (Heap.get?_push_of_some _ x)⟩
def ItT (K : PySem.W.Frag) (a : Addr) : It where
  go i H := ∃ (xs : List V) (x : V), SqT K H a xs ∧ xs[i]? = some x
  yld i H v H' := ∃ T x, v = .ref T ∧ H T = none ∧ H' = upd H T (.tup [.int (i : Nat), x]) ∧ ∀ xs, SqT K H a xs → xs[i]? = some x
  stop i H := ∃ xs : List V, SqT K H a xs ∧ xs.length = i
theorem tup_ne {h : Heap} {a it : Addr} {i : Nat} {its : Array Value} (p : IsTup h a its) (q : h.IsTupleIter it a i) : a ≠ it := fun z => by
  subst z
  obtain ⟨o, e1, c1, _⟩ := p
  obtain ⟨o2, e2, c2, _⟩ := q
  rw [e1] at e2
  cases e2
  rw [c1] at c2
  injection c2 with c3
  exact absurd c3 (by decide)
theorem turn_enumT {P : Program} {w : World} {K : PySem.W.Frag} {elts : List Expr} {kk : Nat} {tpos : Pos} (a e it : Addr) :
    Turn P w K (.Tuple elts kk tpos) (ItT K a) [e, it] e (fun i h => (∃ old, IsEnum h e it ((i : Nat) : Int) old) ∧ h.IsTupleIter it a i ∧ e ≠ it) where
  mem := List.mem_cons_self
  obj := fun i h z b hb => by
    obtain ⟨⟨old, he⟩, ⟨o, ho, hc, hd⟩, _⟩ := z
    rcases List.mem_cons.mp hb with rfl | hb
    · exact ⟨_, he, fun v q => by cases q⟩
    · rw [List.mem_singleton.mp hb]; exact ⟨o, ho, fun v q => by rw [hd] at q; cases q⟩
  keep := fun i h h2 z k => by
    obtain ⟨⟨old, he⟩, hi, hne⟩ := z
    exact ⟨⟨old, k e (by simp) _ he⟩, hi.at fun o q => k it (by simp) o q, hne⟩
  item := by
    rintro X rfl rfl rfl hc i pins s σ H E I hf z ⟨xs, x, hq, hx⟩
    obtain ⟨⟨old, he⟩, hit, hne⟩ := z
    obtain ⟨its, rv, p, hz⟩ := I.tuple hq
    obtain ⟨u, hu, ru⟩ := rv.get hx
    have hil : i < its.toArray.size := by rw [List.size_toArray]; exact (List.getElem?_eq_some_iff.mp hu).1
    have hai := tup_ne p hit
    have D := Draws.tuple (prog := X.prog) (w := X.w) (A := X.A.in1) (I.ok.hd hc) it a hai its.toArray
    have hea : e ≠ a := fun q => by
      obtain ⟨o, e1, c1, _⟩ := p
      rw [← q, show s.heap.get? e = _ from he] at e1
      cases e1
      injection c1 with c3
      exact absurd c3 (by decide)
    refine wpAny_pyNext_enum_itemC D he ⟨hit, p⟩ hil hne (by simp [hne, hea]) fun y h2 tk hP ho hst hT hsz hk => ?_
    have ey : y = u := by
      have hP2 : its.toArray[i]? = some y := hP
      rw [List.getElem?_toArray, hu] at hP2
      exact (Option.some.inj hP2).symm
    subst ey
    have hel : e < s.heap.objs.size := Heap.lt_size he
    have hil2 : it < s.heap.objs.size := by obtain ⟨_, q, _⟩ := hit; exact Heap.lt_size q
    refine ⟨_, rfl, wpAny_letOwnedTupleGo_enum (s := { s with heap := h2, toks := tk + 1 }) ho fun h3 he3 sb => ?_⟩
    have hT2 := (sb.2 _ (Nat.ne_of_gt hel)).trans hT
    have nw : ObjOk X.prog X.w (upd H s.heap.objs.size (.tup [.int (i : Nat), x])) h3 s.heap.objs.size (.tup [.int (i : Nat), x]) := ⟨by show 2 ≤ sizeLine; decide, [.int i tk, y], .cons ⟨_, rfl⟩ (.cons ru .nil), ⟨_, hT2, rfl, _, rfl⟩⟩
    have I1 : Inv X pins σ (upd H s.heap.objs.size (.tup [.int (i : Nat), x])) { s with heap := h3, toks := tk + 1 } :=
      I.turnedNew (ch := [e, it]) (fun b ob hb q => (sb.2 b fun z => hb (by simp [z])).trans (hk b ob (fun z => hb (by simp [z])) (fun z => hb (by simp [z])) q)) hf (Nat.le_refl _) nw
    refine ⟨.ref s.heap.objs.size, _, I1, rfl, ⟨_, x, rfl, I.hok.fresh (Nat.le_refl _), rfl, fun ys hy => by rw [I.tuple_inj hy hq]; exact hx⟩, ⟨⟨y, ?_⟩, hst.1.at fun o q => (sb.2 it (Ne.symm hne)).trans q, hne⟩, fun b hb => ?_⟩
    · rw [show ((i + 1 : Nat) : Int) = (i : Int) + 1 by omega]
      exact he3
    · have hb2 : b < s.heap.objs.size := by
        rcases List.mem_cons.mp hb with rfl | hb1
        · exact hel
        · rw [List.mem_singleton.mp hb1]; exact hil2
      rw [upd_ne (Nat.ne_of_lt hb2)]
      exact (hf b hb).1
  done := by
    rintro X rfl rfl rfl hc i pins s σ H E I hf z ⟨xs, hq, hx⟩
    obtain ⟨⟨old, he⟩, hit, hne⟩ := z
    obtain ⟨its, rv, p, hz⟩ := I.tuple hq
    obtain ⟨f0, f1, f2, f3, f4, f5⟩ := hf it (by simp)
    have hl := rv.length
    have hn : its.toArray.size = i := by rw [List.size_toArray, ← hl]; exact hx
    have D := Draws.tuple (prog := X.prog) (w := X.w) (A := X.A.in1) (I.ok.hd hc) it a (tup_ne p hit) its.toArray
    exact wpAny_pyNext_enum_endD D he (by rw [hn]; exact ⟨hit, p⟩) fun h2 kx => ⟨rfl, I.turned (t' := s.toks) (fun b o hb q => kx b o hb q) f0 f1 f3 f4 f5⟩
  self := fun A i s Q E z h => wpAny_pyIter_enum z.1.choose_spec h
def iEnumT (K : PySem.W.Frag) (ta : TA) : TI := fun σ H R => ta σ H fun vs H1 => ∃ a xs, vs = [.ref a] ∧ SqT K H1 a xs ∧ R (ItT K a) H1
theorem pi_enumT {X : Cx} {e : Expr} {ta : TA} {p pos tpos : Pos} {elts : List Expr} {kk : Nat} (hg : Gl X "enumerate") (hm : X.mg "enumerate" = none) (ha : PA X [e] ta) (hs : starEach [e] X.env = [(false, eval e X.env)] := by rfl) :
    PI X (.Tuple elts kk tpos) (.Call (.Name "enumerate" p) [e] [] pos) (iEnumT X.K ta) := by
  refine ⟨fun pins s σ H R I h => Call_ (ld_blt I hg hm boot_enumerate (PyProof.Rows.callWith_type1 (thn (ha.run pos pins s σ H _ I h) fun us s1 ⟨vs, H1, I1, r1, a, xs, ex, hq, q⟩ => ?_) hs rfl))⟩
  subst ex
  cases r1 with
  | cons r rr =>
    cases rr
    cases r
    obtain ⟨its, rv, p2, hz⟩ := I1.tuple hq
    refine callEnum1 (begins_tuple a its.toArray) p2 fun h2 he hit hk => wpAny_pyIter_enum he ?_
    have I2 : Inv X pins σ H1 { s1 with heap := h2 } := I1.kept (t' := s1.toks) hk
    refine ⟨s1.heap.objs.size + 1, [s1.heap.objs.size + 1, s1.heap.objs.size], _, _, H1, rfl, I2, turn_enumT a (s1.heap.objs.size + 1) s1.heap.objs.size, ⟨⟨.none, he⟩, ⟨_, hit, rfl, rfl⟩, Nat.succ_ne_self _⟩, fun b hb => ?_, q⟩
    have hle : s1.heap.objs.size ≤ b := by
      rcases List.mem_cons.mp hb with rfl | hb1
      · exact Nat.le_add_right _ _
      · rw [List.mem_singleton.mp hb1]; exact Nat.le_refl _
    exact I1.fpOk hle (I1.hok.fresh hle)
theorem for_en {J : It} {n : Nat} {g : TG} {tb : TS} {D : Ends} {σ : L2.St} {H : Hp} (Pv : Nat → L2.St → Hp → Prop) (h0 : Pv 0 σ H) (hgo : ∀ i σ H, i < n → Pv i σ H → J.go i H) (hstop : ∀ σ H, Pv n σ H → J.stop n H)
    (hs : ∀ i σ H x H1, i < n → Pv i σ H → J.yld i H x H1 → g x σ H1 fun σ2 H2 => tb { D with nx := Pv (i + 1), ct := Pv (i + 1), bk := D.nx } σ2 H2) (hd : ∀ σ H, Pv n σ H → D.nx σ H) :
    ∃ W : Nat → Nat → L2.St → Hp → Prop, (∃ m, W 0 m σ H) ∧ ∀ i m σ H, W i m σ H →
      (J.stop i H ∧ D.nx σ H) ∨ (J.go i H ∧ ∃ N : L2.St → Hp → Prop, (∀ σ1 H1, N σ1 H1 → ∃ m1, m1 < m ∧ W (i + 1) m1 σ1 H1) ∧ ∀ x H1, J.yld i H x H1 → g x σ H1 fun σ2 H2 => tb { D with nx := N, ct := N, bk := D.nx } σ2 H2) := by
  refine ⟨fun i m σ H => m = n - i ∧ i ≤ n ∧ Pv i σ H, ⟨n, rfl, Nat.zero_le _, h0⟩, ?_⟩
  rintro i m σ H ⟨rfl, hi, pv⟩
  rcases Nat.lt_or_eq_of_le hi with hl | rfl
  · exact .inr ⟨hgo i σ H hl pv, Pv (i + 1), fun σ1 H1 q => ⟨n - (i + 1), by omega, rfl, hl, q⟩, fun x H1 y => hs i σ H x H1 hl pv y⟩
  · exact .inl ⟨hstop σ H pv, hd σ H pv⟩
/-! ### the inputs that are checked -/
def RzI (C : Addr) (H : Hp) (E : XK) (i : Int) (w : Str) : Prop := ∀ (d : Addr) (H' : Hp), Evl.Ex H H' → H' d = some (.xd [("what", .str w), ("index", .int i)]) → E (.ref C) (some d) H'
theorem RzI.go {C : Addr} {H H1 : Hp} {E : XK} {i : Int} {w : Str} (h : RzI C H E i w) (e : Evl.Ex H H1) : RzI C H1 E i w := fun d H' e' q => h d H' (e.trans e') q
def ivCI (H : Hp) (xs : List V) (m wd : Nat) (x : V) (good : V → Bool) : Nat → L2.St → Hp → Prop := fun i σ H' => ∃ v3 v4, σ = [some x, some (.int m), some (.int wd), v3, v4] ∧ Evl.Ex H H' ∧ ∀ (j : Nat) (y : V), j < i → xs[j]? = some y → good y = true
section
variable {P : Program} {w : World} {K : PySem.W.Frag} {mg : Str → Option Value} {base : Heap} {a : Ad}
def okW (wd : Nat) (y : V) : Bool := wiB y 0 (2 ^ wd - 1)
def spCI (C : Addr) : Sp := fun vs H Q E => ∃ (x : V) (m wd : Nat), vs = [x, .int m, .int wd] ∧ wd ≤ 12 ∧ PlainV H x ∧ ((sqV x = false ∧ RzI C H E (-1) "many") ∨ ∃ p xs, x = .ref p ∧ SqAt H p xs ∧ xs.length ≤ 100 ∧ (∀ y ∈ xs, PlainV H y) ∧
  (xs.length ≠ m → RzI C H E (-1) "many") ∧ (xs.length = m → (∀ (i : Nat) (y : V), xs[i]? = some y → (∀ (j : Nat) (z : V), j < i → xs[j]? = some z → okW wd z = true) → okW wd y = false → RzI C H E i "word") ∧
    (xs.all (okW wd) = true → ∀ q H', Evl.Ex H H' → H' q = some (.tup xs) → Q (.ref q) H')))
theorem ok_check_inputs (T : Txt K mg a) : FnOk P w K mg base (L2.CX P w) 3 a.f_check_inputs a.d_check_inputs ["inputs", "many", "width"] (spCI a.c_BadInputs) := by
  refine T.F_check_inputs.okX sc_check_inputs (fun vs H Q E h => ?_) (fun cdv A outer s H vs Q E hr h => ?_)
  · obtain ⟨_, _, _, rfl, _⟩ := h
    rfl
  · obtain ⟨x, m, wd, rfl, hw, hx, k⟩ := h
    refine ⟨_, (pss_cons (ps_if (PW.pt (pw_or (pt_not (pt_val (pe_call (ok_is_sequence T) (hr.mono (by decide)) rfl T.m_is_sequence T.F_is_sequence.kp T.b_is_sequence .nil pass0 (pa_cons (pv 0) pa_nil)))) (pw_or1 (pt_cmpR op_ne (pe_callB call_len_seq (by rfl) T.z_len (by decide +kernel) (pa_cons (pv 0) pa_nil)) (pv 1) (nomark _))))) (pss_one (ps_raise rfl (takes_of rfl rfl rfl rfl) (pmk_oex T.x_BadInputs T.xi_BadInputs T.xt_BadInputs (ok_BadInputs_init T) (hr.mono (by decide)) T.b_BadInputs___init__ .nil pass0 rfl T.m_BadInputs (pa_cons (pe_un un_neg pe_int) (pa_cons pe_str pa_nil)))))
    pss_nil)
  (pss_cons (ps_for (passes_of rfl) rfl (pi_or (pi_enum (by rfl) T.z_enumerate (pa_cons (pv 0) pa_nil)) (pi_enumT (by rfl) T.z_enumerate (pa_cons (pv 0) pa_nil))) (pg_tup rfl (pgs_cons (pg_name (i := 3) sc_check_inputs.nd rfl (by first | exact Or.inl rfl | exact Or.inr rfl)) (pgs_cons (pg_name (i := 4) sc_check_inputs.nd rfl (by first | exact Or.inl rfl | exact Or.inr rfl)) pgs_nil))) (pss_one (ps_if (pt_not (pt_val (pe_call (ok_is_within T) (hr.mono (by decide)) rfl T.m_is_within T.F_is_within.kp T.b_is_within .nil pass0 (pa_cons (pv 4) (pa_cons pe_int (pa_cons (pe_op op_sub (pe_op op_shl pe_int (pv 2)) pe_int) pa_nil)))))) (pss_one (ps_raise rfl (takes_of rfl rfl rfl rfl) (pmk_oex T.x_BadInputs T.xi_BadInputs T.xt_BadInputs (ok_BadInputs_init T) (hr.mono (by decide)) T.b_BadInputs___init__ .nil pass0 rfl T.m_BadInputs (pa_cons (pv 3) (pa_cons pe_str pa_nil)))))
    pss_nil)))
  (pss_one (ps_ret (pe_callTy call_tuple_of (by rfl) T.z_tuple (by decide +kernel) (pa_cons (pv 0) pa_nil)))))), ?_⟩
    walk_at "sm"
    refine ⟨x, rfl, hx, fun H1 e1 => ⟨_, rfl, ?_⟩⟩
    rcases k with ⟨hs, k⟩ | ⟨p, xs, rfl, hp, hl, hpl, k1, k2⟩
    · rw [hs]
      exact iteT (mk2 fun d H' e' q => k d H' (e1.trans e') q)
    · refine iteF ⟨p, rfl, xs, (hp.go e1).sq, ?_⟩
      refine ite2 (fun hne => mk2 fun d H' e' q => k1 (fun z => by rw [z] at hne; simp at hne) d H' (e1.trans e') q) fun heq => ?_
      have heq2 : xs.length = m := by
        have : ¬ (decide ((xs.length : Int) = (m : Int)) = false) := fun z => heq (by rw [z]; rfl)
        have h3 : decide ((xs.length : Int) = (m : Int)) = true := by cases h : decide ((xs.length : Int) = (m : Int)) with
          | true => rfl
          | false => exact absurd h this
        have := of_decide_eq_true h3
        omega
      obtain ⟨kb, kg⟩ := k2 heq2
      obtain ⟨t1, t2⟩ := two_le hw
      have turn : ∀ i HX Tt y v3 v4, i < xs.length → ivCI H1 xs m wd (.ref p) (okW wd) i [some (.ref p), some (.int m), some (.int wd), v3, v4] HX → HX Tt = none → xs[i]? = some y →
          ∃ x, SqT K (upd HX Tt (.tup [.int (i : Nat), y])) Tt x ∧ x.length = 2 ∧ ∃ v r, x = v :: r ∧ ∃ v1 r1, r = v1 :: r1 ∧ r1 = [] ∧ CPow 1 (wd : Int) ∧ spWithin [v1, .int 0, .int (1 * 2 ^ (wd : Int).toNat - 1)] (upd HX Tt (.tup [.int (i : Nat), y]))
            (fun x H2 => ∃ c, x = V.bl c ∧ if (!c) = true then mkO a.c_BadInputs (spInit2 a.c_BadInputs "index" "what") [] [v, .str "word"] H2 fun cls d H' => E cls d H'
              else ivCI H1 xs m wd (.ref p) (okW wd) (i + 1) [some (.ref p), some (.int m), some (.int wd), some v, some v1] H2) E0 := by
        rintro i HX Tt y v3 v4 hi ⟨_, _, _, x1, hg⟩ hT hy
        have eT := Evl.Ex.new (o := .tup [.int (i : Nat), y]) hT
        refine ⟨_, SqT.of upd_same, rfl, _, _, rfl, _, _, rfl, rfl, ⟨by omega, by omega, by decide⟩, y, 0, _, rfl, (hpl y (List.mem_of_getElem? hy)).go (e1.trans (x1.trans eT)), _, rfl, ?_⟩
        have ew : wiB y 0 (1 * 2 ^ (wd : Int).toNat - 1) = okW wd y := by rw [Int.toNat_natCast, Int.one_mul]; rfl
        rw [ew]
        cases hw2 : okW wd y with
        | false => exact iteT (mk2 fun d H' e' q => kb i y hy hg hw2 d H' (((e1.trans x1).trans eT).trans e') q)
        | true =>
          refine iteF ⟨_, _, rfl, x1.trans eT, fun j z hj hz => ?_⟩
          rcases Nat.lt_or_eq_of_le (Nat.le_of_lt_succ hj) with h | rfl
          · exact hg j z h hz
          · rw [hy] at hz; cases hz; exact hw2
      have fin : ∀ HX, Evl.Ex H1 HX → (∀ (j : Nat) (y : V), j < xs.length → xs[j]? = some y → okW wd y = true) → ∃ x, (SqL K HX p x ∧ ∀ (l : Addr), HX l = none → Q (V.ref l) (upd HX l (HO.tup x))) ∨ SqT K HX p x ∧ Q (V.ref p) HX := by
        intro HX x1 hg
        have hall : xs.all (okW wd) = true := List.all_eq_true.mpr fun y hy => by
          obtain ⟨j, hj⟩ := List.mem_iff_getElem?.mp hy
          exact hg j y (List.getElem?_eq_some_iff.mp hj).1 hj
        rcases hp.go (e1.trans x1) with q | q
        · exact ⟨xs, .inr ⟨SqT.of q, kg hall p HX (e1.trans x1) q⟩⟩
        · exact ⟨xs, .inl ⟨SqL.of q, fun l hl => kg hall l _ ((e1.trans x1).trans (Evl.Ex.new hl)) upd_same⟩⟩
      rcases hp.go e1 with q | q
      · refine .inr ⟨_, rfl, p, xs, rfl, SqT.of q, for_en (n := xs.length) (ivCI H1 xs m wd (.ref p) (okW wd)) ⟨none, none, rfl, Evl.Ex.refl _, fun j y hj => absurd hj (Nat.not_lt_zero _)⟩ (fun i σ HX hi ⟨_, _, _, x1, _⟩ => ⟨xs, xs[i], SqT.of (x1 _ _ q), List.getElem?_eq_getElem hi⟩) (fun σ HX ⟨_, _, _, x1, _⟩ => ⟨xs, SqT.of (x1 _ _ q), rfl⟩) ?_ ?_⟩
        · rintro i σ HX x HY hi ⟨v3, v4, rfl, x1, hg⟩ ⟨Tt, y, rfl, hT, rfl, hy⟩
          walk_at "sm"
          exact turn i HX Tt y v3 v4 hi ⟨_, _, rfl, x1, hg⟩ hT (hy xs (SqT.of (x1 _ _ q)))
        · rintro σ HX ⟨v3, v4, rfl, x1, hg⟩
          walk_at "sm"
          exact fin HX x1 hg
      · refine .inl ⟨_, rfl, p, xs, rfl, SqL.of q, for_en (n := xs.length) (ivCI H1 xs m wd (.ref p) (okW wd)) ⟨none, none, rfl, Evl.Ex.refl _, fun j y hj => absurd hj (Nat.not_lt_zero _)⟩ (fun i σ HX hi ⟨_, _, _, x1, _⟩ => ⟨xs, xs[i], SqL.of (x1 _ _ q), List.getElem?_eq_getElem hi⟩) (fun σ HX ⟨_, _, _, x1, _⟩ => ⟨xs, SqL.of (x1 _ _ q), Nat.le_refl _⟩) ?_ ?_⟩
        · rintro i σ HX x HY hi ⟨v3, v4, rfl, x1, hg⟩ ⟨Tt, y, rfl, hT, rfl, hy⟩
          walk_at "sm"
          exact turn i HX Tt y v3 v4 hi ⟨_, _, rfl, x1, hg⟩ hT (hy xs (SqL.of (x1 _ _ q)))
        · rintro σ HX ⟨v3, v4, rfl, x1, hg⟩
          walk_at "sm"
          exact fin HX x1 hg
end


/-! ### what the law's own tries tell -/
def stay (σ0 : L2.St) (H : Hp) : L2.St → Hp → Prop := fun σ H' => σ = σ0 ∧ Evl.Ex H H'
theorem only_true {K : PySem.W.Frag} {C : Addr} {ts : Addr → Value → Option Addr → TS} {Wout : WX} {D : Ends} {d : Option Addr} {σ : L2.St} {H : Hp} (he : PySem.W.exmOne K (.ref C) (.ref C) = some true)
    (h : ∀ a, H a = none → ts a (.ref C) d D σ H) : wOnly K (.ref C) ts Wout D (.ref C) d σ H := ⟨true, he, fun _ => h, fun q => nomatch q⟩
section
variable {P : Program} {w : World} {K : PySem.W.Frag} {mg : Str → Option Value} {base : Heap} {a : Ad}
def spRK : Sp := fun vs H Q _ => ∃ x, vs = [x] ∧ BadKd H x ∧ ∀ H', Evl.Ex H H' → Q (.bl true) H'
theorem ok_law_refused_kind (T : Txt K mg a) : FnOk P w K mg base CX0 6 a.f_law_refused_kind a.d_law_refused_kind ["_law_kind_here"] spRK := by
  refine T.F_law_refused_kind.ok sc_law_refused_kind (fun vs H Q E h => ?_) (fun cdv A outer s H vs Q E hr h => ?_)
  · obtain ⟨_, rfl, _⟩ := h
    rfl
  · obtain ⟨x, rfl, hx, k⟩ := h
    refine ⟨_, (pss_cons (ps_try_only rfl rfl ⟨rfl, by decide, Or.inl T.m_BadKind⟩ takes0 (fun W pn xe tk _ => (pss_one (ps_expr (pe_callS (ok_check_kind T) (hr.mono (by decide)) rfl T.m_check_kind T.F_check_kind.kp T.b_check_kind (fun σ => passAt tk σ) (pa_cons (pv 0) pa_nil))))) (fun a oe cls d pn _ _ => (pss_one (ps_ret pe_bl))))
  (pss_one (ps_ret pe_bl))), ?_⟩
    walk_at "sm"
    refine .inl ⟨x, rfl, hx, fun H' e => only_true T.xe_BadKind fun _ _ => k H' e⟩
def spRW : Sp := fun vs H Q _ => ∃ x, vs = [x] ∧ PlainV H x ∧ wiB x 1 12 = false ∧ ∀ H', Evl.Ex H H' → Q (.bl true) H'
theorem ok_law_refused_width (T : Txt K mg a) : FnOk P w K mg base CX0 4 a.f_law_refused_width a.d_law_refused_width ["_law_width"] spRW := by
  refine T.F_law_refused_width.ok sc_law_refused_width (fun vs H Q E h => ?_) (fun cdv A outer s H vs Q E hr h => ?_)
  · obtain ⟨_, rfl, _⟩ := h
    rfl
  · obtain ⟨x, rfl, hx, hb, k⟩ := h
    refine ⟨_, (pss_cons (ps_try_only rfl rfl ⟨rfl, by decide, Or.inl T.m_BadWidth⟩ takes0 (fun W pn xe tk _ => (pss_one (ps_expr (pe_callS (ok_check_width T) (hr.mono (by decide)) rfl T.m_check_width T.F_check_width.kp T.b_check_width (fun σ => passAt tk σ) (pa_cons (pv 0) pa_nil))))) (fun a oe cls d pn _ _ => (pss_one (ps_ret pe_bl))))
  (pss_one (ps_ret pe_bl))), ?_⟩
    walk_at "sm"
    exact ⟨x, rfl, hx, fun q => absurd (hb.symm.trans q) (by decide), fun _ => only_true T.xe_BadWidth fun _ _ => k H (Evl.Ex.refl _)⟩
/-- what refused_inputs tells of an input that is wrong in this one way -/
def spRI : Sp := fun vs H Q _ => ∃ (x : V) (m wd : Nat) (i : Int) (what : Str), vs = [x, .int m, .int wd] ∧ wd ≤ 12 ∧ PlainV H x ∧
  ((sqV x = false ∧ i = -1 ∧ what = "many") ∨ ∃ p xs, x = .ref p ∧ SqAt H p xs ∧ xs.length ≤ 100 ∧ (∀ y ∈ xs, PlainV H y) ∧ ((xs.length ≠ m ∧ i = -1 ∧ what = "many") ∨ (xs.length = m ∧ what = "word" ∧ ∃ (n : Nat) (y : V), i = n ∧ xs[n]? = some y ∧ okW wd y = false ∧ ∀ (j : Nat) (z : V), j < n → xs[j]? = some z → okW wd z = true))) ∧
  ∀ q H', Evl.Ex H H' → H' q = some (.tup [.int i, .str what]) → Q (.ref q) H'
theorem ok_law_refused_inputs (T : Txt K mg a) : FnOk P w K mg base CX0 4 a.f_law_refused_inputs a.d_law_refused_inputs ["_law_inputs", "_law_many", "_law_width"] spRI := by
  refine T.F_law_refused_inputs.ok sc_law_refused_inputs (fun vs H Q E h => ?_) (fun cdv A outer s H vs Q E hr h => ?_)
  · obtain ⟨_, _, _, _, _, rfl, _⟩ := h
    rfl
  · obtain ⟨x, m, wd, i, what, rfl, hw, hx, hc, k⟩ := h
    refine ⟨_, (pss_cons (ps_try_as (i := 3) (Wout := fun _ _ _ _ => False) rfl rfl sc_law_refused_inputs.nd rfl rfl ⟨rfl, by decide, Or.inl T.m_BadInputs⟩ takes0 (fun W pn xe tk _ => (pss_one (ps_expr (pe_callS (ok_check_inputs T) (hr.mono (by decide)) rfl T.m_check_inputs T.F_check_inputs.kp T.b_check_inputs (fun σ => passAt tk σ) (pa_cons (pv 0) (pa_cons (pv 1) (pa_cons (pv 2) pa_nil))))))) (fun a oe cls d pn hz hf => (pss_one (ps_ret (pe_tup (pa_cons (pe_xf T.xf_BadInputs T.xn_BadInputs_index hz hf (pv 3)) (pa_cons (pe_xf T.xf_BadInputs T.xn_BadInputs_what hz hf (pv 3)) pa_nil)))))))
  (pss_one (ps_ret pe_non))), ?_⟩
    walk_at "sm"
    have out : RzI a.c_BadInputs H (WE
      (wAs K (Value.ref a.c_BadInputs) 3
        (fun a_1 cls d => tRet (tTup (tCons (tXf a_1 cls d a.c_BadInputs "index" (tVar 3)) (tCons (tXf a_1 cls d a.c_BadInputs "what" (tVar 3)) tNil))))
        (fun x x_1 x_2 x_3 => False) { nx := tRet (tC V.non) { nx := fun x H' => Q V.non H', rt := Q }, rt := Q })
      [some x, some (V.int ↑m), some (V.int ↑wd), none]) i what := by
      intro d HW eW hd
      refine was_true T.xe_BadInputs fun e he => ?_
      walk_at "sm"
      exact ⟨_, hd, _, rfl, _, hd, _, rfl, sz (by decide), fun f hf => k f _ (eW.trans (Evl.Ex.new hf)) upd_same⟩
    refine ⟨x, m, wd, rfl, hw, hx, ?_⟩
    rcases hc with ⟨h1, rfl, rfl⟩ | ⟨p, xs, rfl, hp, hl, hpl, ⟨h1, rfl, rfl⟩ | ⟨h1, rfl, n, y, rfl, hy, hbad, hgood⟩⟩
    · exact .inl ⟨h1, out⟩
    · exact .inr ⟨p, xs, rfl, hp, hl, hpl, fun _ => out, fun z => absurd z h1⟩
    · refine .inr ⟨p, xs, rfl, hp, hl, hpl, fun z => absurd h1 z, fun _ => ⟨fun i2 y2 hi2 hg2 hb2 => ?_, fun hall => ?_⟩⟩
      · have e : i2 = n := by
          rcases Nat.lt_trichotomy i2 n with h | h | h
          · rw [hgood i2 y2 h hi2] at hb2; cases hb2
          · exact h
          · rw [hg2 n y h hy] at hbad; cases hbad
        rw [e]; exact out
      · have := List.all_eq_true.mp hall y (List.mem_of_getElem? hy)
        rw [hbad] at this; cases this
end


/-! ### the law's body -/
def Kd.ds (k : Kd) : List PyData := match k with
  | .pr k => [.str k.sg] | .pick => [.str "pick"] | .same => [.str "same"] | .sh l n => [.str (shS l), .int n] | .tab ns => [.str "table", .tuple ((ns.map V.int).map dV)]
theorem KdAt.its {H : Hp} {p : Addr} {k : Kd} (h : KdAt H p k) : ∃ xs, H p = some (.tup xs) ∧ itsD H xs k.ds := by
  cases k with
  | pr kk => exact ⟨_, h, .cons (.inl ⟨sg_ok (.pr kk), rfl⟩) .nil⟩
  | pick => exact ⟨_, h, .cons (.inl ⟨sg_ok .pick, rfl⟩) .nil⟩
  | same => exact ⟨_, h, .cons (.inl ⟨sg_ok .same, rfl⟩) .nil⟩
  | sh l n => exact ⟨_, h.1, .cons (.inl ⟨sg_ok (.sh l n), rfl⟩) (.cons (.inl ⟨rfl, rfl⟩) .nil)⟩
  | tab ns => obtain ⟨t, h1, h2, h3⟩ := h; exact ⟨_, h1, .cons (.inl ⟨sg_ok (.tab []), rfl⟩) (.cons (.inr ⟨t, _, rfl, ints_flat ns, .inl ⟨h2, rfl⟩⟩) .nil)⟩
theorem KdAt.ne {K : PySem.W.Frag} {H : Hp} {p q : Addr} {k : Kd} {Q : VK} (h : KdAt H p k) (h2 : KdAt H q k) (r : Q (.bl false) H) : rNeD K (.ref p) (.ref q) H Q := by
  obtain ⟨xs, e1, d1⟩ := h.its
  obtain ⟨ys, e2, d2⟩ := h2.its
  exact ne_same (d := .tuple k.ds) (.tup (SqT.of e1) d1.dp) (.tup (SqT.of e2) d2.dp) (shaped_of (lay_tup d1.lay) (by decide)) r
theorem hand_lst {H : Hp} {p c : Addr} (h : HandAt H p c) : ∃ xs, H p = some (.lst xs) := by
  obtain ⟨cells, i, g, t, hp, _⟩ := h
  exact ⟨_, hp⟩
theorem fr_tup {H H' : Hp} {p c r : Addr} {xs : List V} (f : Fr p H H') (hh : HandAt H p c) (h : H r = some (.tup xs)) : H' r = some (.tup xs) := by
  obtain ⟨ys, hp⟩ := hand_lst hh
  exact f _ _ (ne_of h hp (by intro z; cases z)) h
theorem KdAt.fr {H H' : Hp} {p c r : Addr} {k : Kd} (f : Fr p H H') (hh : HandAt H p c) (h : KdAt H r k) : KdAt H' r k := by
  cases k with
  | pr kk => exact fr_tup f hh h
  | pick => exact fr_tup f hh h
  | same => exact fr_tup f hh h
  | sh l n => exact ⟨fr_tup f hh h.1, h.2⟩
  | tab ns => obtain ⟨t, h1, h2, h3⟩ := h; exact ⟨t, fr_tup f hh h1, fr_tup f hh h2, h3⟩
theorem sg_tab (k : Kd) : k.sg = ("table" : Str) ↔ ∃ ns, k = .tab ns := by
  cases k with
  | pr k => cases k <;> exact ⟨fun h => absurd h (by decide +kernel), fun ⟨_, h⟩ => by cases h⟩
  | pick => exact ⟨fun h => absurd h (by decide +kernel), fun ⟨_, h⟩ => by cases h⟩
  | same => exact ⟨fun h => absurd h (by decide +kernel), fun ⟨_, h⟩ => by cases h⟩
  | sh l n => cases l <;> exact ⟨fun h => absurd h (by show ¬ (shS _ = _); decide +kernel), fun ⟨_, h⟩ => by cases h⟩
  | tab ns => exact ⟨fun _ => ⟨ns, rfl⟩, fun _ => rfl⟩
/-- the hand stands in slot 1, the slots 2 to 10 hold what they hold -/
def at0 (sa p : Addr) (σ : L2.St) : Prop := ∃ v2 v3 v4 v5 v6 v7 v8 v9, σ = [some (.ref sa), some (.ref p), v2, v3, v4, v5, v6, v7, v8, v9, none, none, none, none, none, none]
def ivL0 (sa p c : Addr) : Nat → L2.St → Hp → Prop := fun _ σ H => at0 sa p σ ∧ HandAt H p c
def mdK (sa p c : Addr) : L2.St → Hp → Prop := fun σ H => ∃ v2 r kd v4 v5 v6 v7 v8 v9, σ = [some (.ref sa), some (.ref p), v2, some (.ref r), v4, v5, v6, v7, v8, v9, none, none, none, none, none, none] ∧ KdAt H r kd ∧ HandAt H p c
def mdH (sa p c : Addr) : L2.St → Hp → Prop := fun σ H => ∃ v2 r kd wd h v7 v8 v9, σ = [some (.ref sa), some (.ref p), v2, some (.ref r), some (.int (wd : Nat)), some (.int (Kd.many kd)), some (.ref h), v7, v8, v9, none, none, none, none, none, none] ∧ KdAt H r kd ∧ GdAt H h kd ∧ HandAt H p c ∧ 1 ≤ wd ∧ wd ≤ 12
def mdC (sa p c : Addr) : L2.St → Hp → Prop := fun σ H => ∃ v2 r kd wd v6 v7 v8 v9, σ = [some (.ref sa), some (.ref p), v2, some (.ref r), some (.int (wd : Nat)), some (.int (Kd.many kd)), v6, v7, v8, v9, none, none, none, none, none, none] ∧ KdAt H r kd ∧ HandAt H p c ∧ 1 ≤ wd ∧ wd ≤ 12
def ivRw (sa p c r : Addr) (kd : Kd) (wd : Nat) (v2 v6 v7 : Option V) (HA : Hp) : Nat → L2.St → Hp → Prop := fun _ σ H => ∃ v8 v9, σ = [some (.ref sa), some (.ref p), v2, some (.ref r), some (.int (wd : Nat)), some (.int (Kd.many kd)), v6, v7, v8, v9, none, none, none, none, none, none] ∧ KdAt H r kd ∧ HandAt H p c ∧ Evl.Ex HA H
theorem neR {x : V} {A B : Prop} (h : B) : if (!decide (x = x)) = true then A else B := by rw [decide_eq_true rfl]; exact iteF h
theorem many_b (k : Kd) : 1 ≤ k.many ∧ k.many ≤ 3 := by cases k <;> simp [Kd.many]
theorem for_lst {K : PySem.W.Frag} {te : TE} {g : TG} {tb : TS} {D : Ends} {σ : L2.St} {H : Hp} (h : te σ H fun x H1 => ∃ b, x = .ref b ∧ (∃ xs, SqL K H1 b xs) ∧ tFor (fun _ H R => R (Itl K b) H) g tb D σ H1) : tFor (iList K te) g tb D σ H := h
def ivOd (sa p c : Addr) (wd : Nat) (v2 v3 v5 v6 v7 v8 v9 : Option V) (HA : Hp) : Nat → L2.St → Hp → Prop := fun _ σ H => ∃ v10, σ = [some (.ref sa), some (.ref p), v2, v3, some (.int (wd : Nat)), v5, v6, v7, v8, v9, v10, none, none, none, none, none] ∧ HandAt H p c ∧ Evl.Ex HA H
theorem okW_in {wd : Nat} {ns : List Int} (h : ∀ x ∈ ns, 0 ≤ x ∧ x < (2 : Int) ^ wd) : ∀ y ∈ ns.map V.int, okW wd y = true := fun y hy => by
  obtain ⟨x, hx, rfl⟩ := List.mem_map.mp hy
  have b := h x hx
  show (decide ((0 : Int) ≤ x) && decide (x ≤ 2 ^ wd - 1)) = true
  rw [decide_eq_true b.1, decide_eq_true (show x ≤ 2 ^ wd - 1 by omega)]
  rfl
/-- inputs that are right are let -/
theorem ci_good {C p : Addr} {m wd : Nat} {ns : List Int} {H : Hp} {Q : VK} {E : XK} (hw : wd ≤ 12) (hp : SqAt H p (ns.map V.int)) (ln : ns.length = m) (hm : m ≤ 10) (bn : ∀ x ∈ ns, 0 ≤ x ∧ x < (2 : Int) ^ wd)
    (k : ∀ q H', Evl.Ex H H' → H' q = some (.tup (ns.map V.int)) → Q (.ref q) H') : spCI C [.ref p, .int m, .int wd] H Q E := by
  have ok := okW_in bn
  refine ⟨.ref p, m, wd, rfl, hw, hp.plain, .inr ⟨p, _, rfl, hp, by rw [List.length_map]; omega, ints_plain ns, fun z => absurd (by rw [List.length_map]; exact ln) z, fun _ => ⟨fun i y hi _ hb => ?_, fun _ => k⟩⟩⟩
  rw [ok y (List.mem_of_getElem? hi)] at hb
  cases hb
theorem ints_ne {K : PySem.W.Frag} {H : Hp} {l m : Addr} {ns : List Int} {Q : VK} (h1 : H l = some (.lst (ns.map V.int))) (h2 : H m = some (.lst (ns.map V.int))) (q : Q (.bl false) H) : rNeD K (.ref l) (.ref m) H Q :=
  ne_same (d := .list ((ns.map V.int).map dV)) (.lst (SqL.of h1) (dp_flats (ints_flat ns))) (.lst (SqL.of h2) (dp_flats (ints_flat ns))) (shaped_of (lay_lst (lay_flats (ints_flat ns))) (by decide)) q
theorem intsT_ne {K : PySem.W.Frag} {H : Hp} {l m : Addr} {ns : List Int} {Q : VK} (h1 : H l = some (.tup (ns.map V.int))) (h2 : H m = some (.tup (ns.map V.int))) (q : Q (.bl false) H) : rNeD K (.ref l) (.ref m) H Q :=
  ne_same (d := .tuple ((ns.map V.int).map dV)) (.tup (SqT.of h1) (dp_flats (ints_flat ns))) (.tup (SqT.of h2) (dp_flats (ints_flat ns))) (shaped_of (lay_tup (lay_flats (ints_flat ns))) (by decide)) q
theorem ints_eq {K : PySem.W.Frag} {H : Hp} {l m : Addr} {ns : List Int} {Q : VK} (h1 : H l = some (.lst (ns.map V.int))) (h2 : H m = some (.lst (ns.map V.int))) (q : Q (.bl true) H) : rEqD K (.ref l) (.ref m) H Q :=
  eq_same (d := .list ((ns.map V.int).map dV)) (.lst (SqL.of h1) (dp_flats (ints_flat ns))) (.lst (SqL.of h2) (dp_flats (ints_flat ns))) (shaped_of (lay_lst (lay_flats (ints_flat ns))) (by decide)) q
theorem two_ne {K : PySem.W.Frag} {H : Hp} {l m : Addr} {i : Int} {s : Str} {Q : VK} (hs : PyData.strOk s = true) (h1 : H l = some (.tup [.int i, .str s])) (h2 : H m = some (.tup [.int i, .str s])) (q : Q (.bl false) H) : rNeD K (.ref l) (.ref m) H Q :=
  ne_same (d := .tuple [.int i, .str s]) (.tup (SqT.of h1) (.cons (.int _) (.cons (.str _) .nil))) (.tup (SqT.of h2) (.cons (.int _) (.cons (.str _) .nil))) (shaped_of (n := 2) (lay_tup (n := 1) (lay_flats (zs := [.int i, .str s]) (by simp [okF, hs]))) (by decide)) q
def mdE (sa p l q : Addr) (ns : List Int) : L2.St → Hp → Prop := fun σ H => ∃ v2 v3 v4 v5 v6 v7 v8 v9 v10 v13 v14 v15, σ = [some (.ref sa), some (.ref p), v2, v3, v4, v5, v6, v7, v8, v9, v10, some (.ref l), some (.ref q), v13, v14, v15] ∧ H l = some (.lst (ns.map V.int)) ∧ H q = some (.tup (ns.map V.int))
theorem cut_all (xs : List V) : cutV xs none none = xs := by
  unfold cutV
  show (xs.drop 0).take (xs.length - 0) = xs
  rw [List.drop_zero, Nat.sub_zero, List.take_length]
def ivSp (sa p l g : Addr) (wd m : Nat) (i j : Int) (v2 v3 v6 v7 v8 v9 : Option V) (HA : Hp) : Nat → L2.St → Hp → Prop := fun _ σ H => ∃ v10 v15, σ = [some (.ref sa), some (.ref p), v2, v3, some (.int (wd : Nat)), some (.int (m : Nat)), v6, v7, v8, v9, v10, some (.ref l), some (.ref g), some (.int i), some (.int j), v15] ∧ Evl.Ex HA H
def mdR (sa p c : Addr) : L2.St → Hp → Prop := fun σ H => at0 sa p σ ∧ HandAt H p c
section
variable {P : Program} {w : World} {K : PySem.W.Frag} {mg : Str → Option Value} {base : Heap} {a : Ad}
def spLaw (K : PySem.W.Frag) : Sp := fun vs H Q _ => ∃ (s : Addr) (ns : List Int), vs = [.ref s] ∧ SqL K H s (ns.map V.int) ∧ ns.length ≤ 63 ∧ ∀ H', Q (.bl true) H'
theorem ok_law (T : Txt K mg a) : FnOk P w K mg base (L2.CX P w) 7 a.f_law a.d_law ["_law_script"] (spLaw K) := by
  refine T.F_law.okX sc_law (fun vs H Q E h => ?_) (fun cdv A outer s H vs Q E hr h => ?_)
  · obtain ⟨_, _, rfl, _⟩ := h
    rfl
  · obtain ⟨sa, ns, rfl, hS, hl, k⟩ := h
    refine ⟨_, (pss_cons (ps_set (i := 1) sc_law.nd rfl (by first | exact Or.inl rfl | exact Or.inr rfl) (pe_call (ok_law_hand T) (hr.mono (by decide)) rfl T.m_law_hand T.F_law_hand.kp T.b_law_hand .nil pass0 (pa_cons (pv 0) pa_nil)))
  (pss_cons (ps_for (passes_of rfl) rfl (pi_range1 (by rfl) T.z_range (pa_cons pe_int pa_nil)) (pg_name (i := 2) sc_law.nd rfl (by first | exact Or.inl rfl | exact Or.inr rfl)) (Evl.pss_cut (ps_set (i := 3) sc_law.nd rfl (by first | exact Or.inl rfl | exact Or.inr rfl) (pe_ifExp (pt_cmpR op_gt (pe_call (ok_law_take T) (hr.mono (by decide)) rfl T.m_law_take T.F_law_take.kp T.b_law_take .nil pass0 (pa_cons (pv 1) (pa_cons pe_int pa_nil))) pe_int (nomark _)) (pe_call (ok_law_kind T) (hr.mono (by decide)) rfl T.m_law_kind T.F_law_kind.kp T.b_law_kind .nil pass0 (pa_cons (pv 1) pa_nil)) (pe_tup (pa_cons pe_str pa_nil))))
  (pss_cons (ps_set (i := 4) sc_law.nd rfl (by first | exact Or.inl rfl | exact Or.inr rfl) (pe_op op_add pe_int (pe_call (ok_law_take T) (hr.mono (by decide)) rfl T.m_law_take T.F_law_take.kp T.b_law_take .nil pass0 (pa_cons (pv 1) (pa_cons pe_int pa_nil)))))
  (pss_cons (ps_set (i := 5) sc_law.nd rfl (by first | exact Or.inl rfl | exact Or.inr rfl) (pe_call (ok_law_operands T) (hr.mono (by decide)) rfl T.m_law_operands T.F_law_operands.kp T.b_law_operands .nil pass0 (pa_cons (pv 3) pa_nil)))
  (Evl.pss_cut (ps_set (i := 6) sc_law.nd rfl (by first | exact Or.inl rfl | exact Or.inr rfl) (pe_ifExp (pt_cmpR op_eq (pe_ix ix_tup (pv 3) pe_int (fun _ _ => rfl)) pe_str (nomark _)) (pe_tup (pa_cons (pe_ix ix_tup (pv 3) pe_int (fun _ _ => rfl)) (pa_cons (pe_callTy call_list_of (by rfl) T.z_list (by decide +kernel) (pa_cons (pe_ix ix_tup (pv 3) pe_int (fun _ _ => rfl)) pa_nil)) pa_nil))) (pv 3)))
  (pss_cons (ps_set (i := 7) sc_law.nd rfl (by first | exact Or.inl rfl | exact Or.inr rfl) (pe_call (ok_check_kind T) (hr.mono (by decide)) rfl T.m_check_kind T.F_check_kind.kp T.b_check_kind .nil (passes_call (takes_of rfl rfl rfl rfl) (fun _ _ _ _ q => q)) (pa_cons (pv 6) pa_nil)))
  (Evl.pss_cut (ps_if (PW.pt (pw_or (pt_not (pt_val (pe_callB call_isi (by rfl) T.z_isinstance (by decide +kernel) (pa_cons (pv 7) (pa_cons (pe_bltn (v := .ty "tuple") (by rfl) T.z_tuple (by decide +kernel) rfl) pa_nil))))) (pw_or (pt_cmpR (op_neD hr.units) (pv 7) (pv 3) (nomark _)) (pw_or1 (PW.pt (pw_and (pt_cmpR op_eq (pe_ix ix_tup (pv 3) pe_int (fun _ _ => rfl)) pe_str (nomark _)) (pw_and1 (pt_not (pt_val (pe_callB call_isi (by rfl) T.z_isinstance (by decide +kernel) (pa_cons (pe_ix ix_tup (pv 7) pe_int (fun _ _ => rfl)) (pa_cons (pe_bltn (v := .ty "tuple") (by rfl) T.z_tuple (by decide +kernel) rfl) pa_nil)))))))))))) (pss_one (ps_ret pe_bl))
    pss_nil)
  (pss_cons (ps_if (PW.pt (pw_or (pt_cmpR (op_neD hr.units) (pe_call (ok_check_kind T) (hr.mono (by decide)) rfl T.m_check_kind T.F_check_kind.kp T.b_check_kind .nil (passes_call (takes_of rfl rfl rfl rfl) (fun _ _ _ _ q => q)) (pa_cons (pv 3) pa_nil)) (pv 3) (nomark _)) (pw_or (pt_cmpR op_ne (pe_call (ok_operand_count T) (hr.mono (by decide)) rfl T.m_operand_count T.F_operand_count.kp T.b_operand_count .nil pass0 (pa_cons (pv 3) pa_nil)) (pv 5) (nomark _)) (pw_or1 (pt_not (pt_val (pe_call (ok_law_whole T) (hr.mono (by decide)) rfl T.m_law_whole T.F_law_whole.kp T.b_law_whole .nil pass0 (pa_cons (pe_call (ok_operand_count T) (hr.mono (by decide)) rfl T.m_operand_count T.F_operand_count.kp T.b_operand_count .nil pass0 (pa_cons (pv 3) pa_nil)) pa_nil)))))))) (pss_one (ps_ret pe_bl))
    pss_nil)
  (Evl.pss_cut (ps_for (passes_of rfl) rfl (pi_list (pe_call (ok_law_rows_of T) (hr.mono (by decide)) rfl T.m_law_rows_of T.F_law_rows_of.kp T.b_law_rows_of .nil pass0 (pa_cons (pv 1) (pa_cons (pv 5) (pa_cons (pv 4) pa_nil))))) (pg_name (i := 8) sc_law.nd rfl (by first | exact Or.inl rfl | exact Or.inr rfl)) (pss_cons (ps_set (i := 9) sc_law.nd rfl (by first | exact Or.inl rfl | exact Or.inr rfl) (pe_call (ok_step_word T) (hr.mono (by decide)) rfl T.m_step_word T.F_step_word.kp T.b_step_word .nil pass0 (pa_cons (pv 3) (pa_cons (pe_callTy call_tuple_of (by rfl) T.z_tuple (by decide +kernel) (pa_cons (pv 8) pa_nil)) (pa_cons (pv 4) pa_nil)))))
  (pss_one (ps_if (PW.pt (pw_or (pt_not (pt_val (pe_call (ok_law_whole T) (hr.mono (by decide)) rfl T.m_law_whole T.F_law_whole.kp T.b_law_whole .nil pass0 (pa_cons (pv 9) pa_nil)))) (pw_or1 (pt_cmpR op_ne (pv 9) (pe_call (ok_law_step_word T) (hr.mono (by decide)) rfl T.m_law_step_word T.F_law_step_word.kp T.b_law_step_word .nil pass0 (pa_cons (pv 3) (pa_cons (pv 8) (pa_cons (pv 4) pa_nil)))) (nomark _))))) (pss_one (ps_ret pe_bl))
    pss_nil))))
  (pss_one (ps_if (pt_not (pt_val (pe_call (ok_law_refused_kind T) (hr.mono (by decide)) rfl T.m_law_refused_kind T.F_law_refused_kind.kp T.b_law_refused_kind .nil pass0 (pa_cons (pe_call (ok_law_odd_kind T) (hr.mono (by decide)) rfl T.m_law_odd_kind T.F_law_odd_kind.kp T.b_law_odd_kind .nil pass0 (pa_cons (pv 1) (pa_cons (pe_call (ok_law_take T) (hr.mono (by decide)) rfl T.m_law_take T.F_law_take.kp T.b_law_take .nil pass0 (pa_cons (pv 1) (pa_cons pe_int pa_nil))) pa_nil))) pa_nil)))) (pss_one (ps_ret pe_bl))
    pss_nil)))))))))))
  (pss_cons (ps_set (i := 4) sc_law.nd rfl (by first | exact Or.inl rfl | exact Or.inr rfl) (pe_op op_add pe_int (pe_call (ok_law_take T) (hr.mono (by decide)) rfl T.m_law_take T.F_law_take.kp T.b_law_take .nil pass0 (pa_cons (pv 1) (pa_cons pe_int pa_nil)))))
  (pss_cons (ps_if (pt_cmpR op_ne (pe_call (ok_check_width T) (hr.mono (by decide)) rfl T.m_check_width T.F_check_width.kp T.b_check_width .nil (passes_call (takes_of rfl rfl rfl rfl) (fun _ _ _ _ q => q)) (pa_cons (pv 4) pa_nil)) (pv 4) (nomark _)) (pss_one (ps_ret pe_bl))
    pss_nil)
  (pss_cons (ps_for (passes_of rfl) rfl (pi_list (pe_lst (pa_cons pe_int (pa_cons (pe_op op_add pe_int (pe_call (ok_law_take T) (hr.mono (by decide)) rfl T.m_law_take T.F_law_take.kp T.b_law_take .nil pass0 (pa_cons (pv 1) (pa_cons pe_int pa_nil)))) (pa_cons (pe_op op_sub (pe_un un_neg pe_int) (pe_call (ok_law_take T) (hr.mono (by decide)) rfl T.m_law_take T.F_law_take.kp T.b_law_take .nil pass0 (pa_cons (pv 1) (pa_cons pe_int pa_nil)))) (pa_cons pe_bl (pa_cons pe_non (pa_cons (pe_callTy call_str_int (by rfl) T.z_str (by decide +kernel) (pa_cons (pv 4) pa_nil)) (pa_cons (pe_tup (pa_cons (pv 4) pa_nil)) pa_nil))))))))) (pg_name (i := 10) sc_law.nd rfl (by first | exact Or.inl rfl | exact Or.inr rfl)) (pss_one (ps_if (pt_not (pt_val (pe_call (ok_law_refused_width T) (hr.mono (by decide)) rfl T.m_law_refused_width T.F_law_refused_width.kp T.b_law_refused_width .nil pass0 (pa_cons (pv 10) pa_nil)))) (pss_one (ps_ret pe_bl))
    pss_nil)))
  (pss_cons (ps_set (i := 5) sc_law.nd rfl (by first | exact Or.inl rfl | exact Or.inr rfl) (pe_call (ok_law_take T) (hr.mono (by decide)) rfl T.m_law_take T.F_law_take.kp T.b_law_take .nil pass0 (pa_cons (pv 1) (pa_cons pe_int pa_nil))))
  (pss_cons (ps_set (i := 11) sc_law.nd rfl (by first | exact Or.inl rfl | exact Or.inr rfl) (pe_call (ok_law_words T) (hr.mono (by decide)) rfl T.m_law_words T.F_law_words.kp T.b_law_words .nil pass0 (pa_cons (pv 1) (pa_cons (pv 5) (pa_cons (pv 4) pa_nil)))))
  (pss_cons (ps_set (i := 12) sc_law.nd rfl (by first | exact Or.inl rfl | exact Or.inr rfl) (pe_call (ok_check_inputs T) (hr.mono (by decide)) rfl T.m_check_inputs T.F_check_inputs.kp T.b_check_inputs .nil (passes_call (takes_of rfl rfl rfl rfl) (fun _ _ _ _ q => q)) (pa_cons (pv 11) (pa_cons (pv 5) (pa_cons (pv 4) pa_nil)))))
  (pss_cons (ps_if (PW.pt (pw_or (pt_not (pt_val (pe_callB call_isi (by rfl) T.z_isinstance (by decide +kernel) (pa_cons (pv 12) (pa_cons (pe_bltn (v := .ty "tuple") (by rfl) T.z_tuple (by decide +kernel) rfl) pa_nil))))) (pw_or (pt_cmpR (op_neD hr.units) (pe_callTy call_list_of (by rfl) T.z_list (by decide +kernel) (pa_cons (pv 12) pa_nil)) (pv 11) (nomark _)) (pw_or1 (pt_cmpR (op_neD hr.units) (pe_call (ok_check_inputs T) (hr.mono (by decide)) rfl T.m_check_inputs T.F_check_inputs.kp T.b_check_inputs .nil (passes_call (takes_of rfl rfl rfl rfl) (fun _ _ _ _ q => q)) (pa_cons (pe_callTy call_tuple_of (by rfl) T.z_tuple (by decide +kernel) (pa_cons (pv 11) pa_nil)) (pa_cons (pv 5) (pa_cons (pv 4) pa_nil)))) (pv 12) (nomark _)))))) (pss_one (ps_ret pe_bl))
    pss_nil)
  (pss_cons (ps_if (PW.pt (pw_or (pt_cmpR (op_neD hr.units) (pe_call (ok_law_refused_inputs T) (hr.mono (by decide)) rfl T.m_law_refused_inputs T.F_law_refused_inputs.kp T.b_law_refused_inputs .nil pass0 (pa_cons (pe_op op_cat (pv 11) (pe_lst (pa_cons pe_int pa_nil))) (pa_cons (pv 5) (pa_cons (pv 4) pa_nil)))) (pe_tup (pa_cons (pe_un un_neg pe_int) (pa_cons pe_str pa_nil))) (nomark _)) (pw_or1 (pt_cmpR (op_neD hr.units) (pe_call (ok_law_refused_inputs T) (hr.mono (by decide)) rfl T.m_law_refused_inputs T.F_law_refused_inputs.kp T.b_law_refused_inputs .nil pass0 (pa_cons (pv 5) (pa_cons (pv 5) (pa_cons (pv 4) pa_nil)))) (pe_tup (pa_cons (pe_un un_neg pe_int) (pa_cons pe_str pa_nil))) (nomark _))))) (pss_one (ps_ret pe_bl))
    pss_nil)
  (Evl.pss_cut (ps_if (pt_cmpR op_gt (pv 5) pe_int (nomark _)) (pss_cons (ps_set (i := 13) sc_law.nd rfl (by first | exact Or.inl rfl | exact Or.inr rfl) (pe_call (ok_law_take T) (hr.mono (by decide)) rfl T.m_law_take T.F_law_take.kp T.b_law_take .nil pass0 (pa_cons (pv 1) (pa_cons (pv 5) pa_nil))))
  (pss_cons (ps_set (i := 14) sc_law.nd rfl (by first | exact Or.inl rfl | exact Or.inr rfl) (pe_op op_add (pv 13) (pe_call (ok_law_take T) (hr.mono (by decide)) rfl T.m_law_take T.F_law_take.kp T.b_law_take .nil pass0 (pa_cons (pv 1) (pa_cons (pe_op op_sub (pv 5) (pv 13)) pa_nil)))))
  (pss_one (ps_for (passes_of rfl) rfl (pi_list (pe_lst (pa_cons (pe_call (ok_law_two T) (hr.mono (by decide)) rfl T.m_law_two T.F_law_two.kp T.b_law_two .nil pass0 (pa_cons (pv 4) pa_nil)) (pa_cons (pe_un un_neg pe_int) (pa_cons pe_bl (pa_cons pe_non (pa_cons pe_str pa_nil))))))) (pg_name (i := 10) sc_law.nd rfl (by first | exact Or.inl rfl | exact Or.inr rfl)) (pss_cons (ps_set (i := 15) sc_law.nd rfl (by first | exact Or.inl rfl | exact Or.inr rfl) (pe_slice sl_list (pv 11) po_none po_none))
  (pss_cons (ps_asg (pe_un un_neg pe_int) (pg_sub (pv 15) (pv 14) set_list (by intro _; rfl)))
  (pss_cons (ps_asg (pv 10) (pg_sub (pv 15) (pv 13) set_list (by intro _; rfl)))
  (pss_one (ps_if (pt_cmpR (op_neD hr.units) (pe_call (ok_law_refused_inputs T) (hr.mono (by decide)) rfl T.m_law_refused_inputs T.F_law_refused_inputs.kp T.b_law_refused_inputs .nil pass0 (pa_cons (pv 15) (pa_cons (pv 5) (pa_cons (pv 4) pa_nil)))) (pe_tup (pa_cons (pv 13) (pa_cons pe_str pa_nil))) (nomark _)) (pss_one (ps_ret pe_bl))
    pss_nil)))))))))
    pss_nil)
  (pss_one (ps_ret (pe_cmpR (op_eqD hr.units) (pv 11) (pe_callTy call_list_of (by rfl) T.z_list (by decide +kernel) (pa_cons (pv 12) pa_nil)) (nomark _))))))))))))))), ?_⟩
    walk_at "sm"
    refine ⟨sa, ns, rfl, hS, hl, fun p c H1 hp0 e1 hh1 => ?_⟩
    walk_at "sm"
    refine ⟨3, rfl, by decide, by decide, ?_⟩
    refine for_range (lo := 0) (n := (3 : Int).toNat) (ivL0 sa p c) ⟨⟨_, _, _, _, _, _, _, _, rfl⟩, hh1⟩ ?_ ?_
    · rintro i σ H2 hi ⟨⟨v2, v3, v4, v5, v6, v7, v8, v9, rfl⟩, hh2⟩
      walk_at "sm"
      refine ⟨mdK sa p c, ?_, ?_⟩
      · walk_at "sm"
        refine tk hh2 (by decide) (by decide) fun r0 H3 a0 a1 f3 hh3 => ?_
        walk_at "sm"
        refine ite2 (fun _ => ⟨p, c, rfl, hh3, fun r kd H4 f4 hh4 hk => ⟨_, r, kd, _, _, _, _, _, _, rfl, hk, hh4⟩⟩) fun _ => ⟨sz (by decide), fun q hq => ⟨_, q, .same, _, _, _, _, _, _, rfl, upd_same, hh3.go (Evl.Ex.new hq)⟩⟩
      · rintro σ H3 ⟨v2, r, kd, v4, v5, v6, v7, v8, v9, rfl, hk, hh3⟩
        walk_at "sm"
        refine tk hh3 (by decide) (by decide) fun wd0 H4 w0 w1 f4 hh4 => ?_
        walk_at "sm"
        refine ⟨r, kd, rfl, hk.fr f4 hh3, fun H5 x5 => ?_⟩
        have hk5 := (hk.fr f4 hh3).go x5
        obtain ⟨wd, ew, hw1, hw2⟩ : ∃ wd : Nat, 1 + wd0 = (wd : Int) ∧ 1 ≤ wd ∧ wd ≤ 12 := ⟨wd0.toNat + 1, by omega, by omega, by omega⟩
        rw [ew]
        refine ⟨mdH sa p c, ?_, ?_⟩
        · walk_at "sm"
          obtain ⟨rr, hp5⟩ := hk5.head
          refine ix0 hp5 ⟨rfl, ite2 (fun e => ?_) fun e => ⟨_, r, kd, wd, r, _, _, _, rfl, hk5, .inl hk5, hh4.go x5, hw1, hw2⟩⟩
          obtain ⟨ts, rfl⟩ := (sg_tab kd).mp (V.str.inj e)
          obtain ⟨t, g1, g2, g3⟩ := id hk5
          refine ix0 g1 (ix1 g1 ⟨t, rfl, _, .inr (SqT.of g2), fun l hl => ⟨sz (by decide), fun q hq => ?_⟩⟩)
          have xx := (Evl.Ex.new (o := .lst (ts.map V.int)) hl).trans (Evl.Ex.new (o := .tup [.str "table", .ref l]) hq)
          exact ⟨_, r, .tab ts, wd, q, _, _, _, rfl, hk5.go xx, .inr ⟨ts, l, rfl, upd_same, Evl.Ex.new hq _ _ upd_same, g3⟩, (hh4.go x5).go xx, hw1, hw2⟩
        · rintro σ H6 ⟨v2, r, kd, wd, h, v7, v8, v9, rfl, hk6, hg6, hh6, hw1, hw2⟩
          walk_at "sm"
          refine .inr ⟨h, kd, rfl, hg6, fun q H7 x7 hq7 => ?_⟩
          refine ⟨mdC sa p c, ?_, ?_⟩
          · walk_at "sm"
            obtain ⟨zs, hz, -⟩ := hq7.its
            have hk7 := hk6.go x7
            have done : mdC sa p c [some (.ref sa), some (.ref p), v2, some (.ref r), some (.int wd), some (.int kd.many), some (.ref h), some (.ref q), v8, v9, none, none, none, none, none, none] H7 := ⟨_, r, kd, wd, _, _, _, _, rfl, hk7, hh6.go x7, hw1, hw2⟩
            refine isi_ty (t := "tuple") (b := true) (.base (.tup hz)) (by decide +kernel) ⟨_, rfl, iteF (hq7.ne hk7 ⟨_, rfl, iteF ?_⟩)⟩
            obtain ⟨rr, hp7⟩ := hk7.head
            refine ix0 hp7 ⟨rfl, ite2 (fun e => ?_) fun e => done⟩
            obtain ⟨ts, rfl⟩ := (sg_tab kd).mp (V.str.inj e)
            obtain ⟨t, g1, g2, g3⟩ := hq7
            exact ix1 g1 (isi_ty (t := "tuple") (b := true) (.base (.tup g2)) (by decide +kernel) ⟨_, rfl, iteF done⟩)
          · rintro σ H8 ⟨v2, r, kd, wd, v6, v7, v8, v9, rfl, hk8, hh8, hw1, hw2⟩
            walk_at "sm"
            refine .inr ⟨r, kd, rfl, .inl hk8, fun q H9 x9 hq9 => hq9.ne (hk8.go x9) ⟨_, rfl, iteF ?_⟩⟩
            have hk9 := hk8.go x9
            have hh9 := hh8.go x9
            refine ⟨r, kd, rfl, hk9, rfl, neR ⟨r, kd, rfl, hk9, _, rfl, plain_int, _, rfl, iteF ?_⟩⟩
            refine ⟨mdR sa p c, ?_, ?_⟩
            · obtain ⟨m1, m3⟩ := many_b kd
              obtain ⟨t1, t2⟩ := two_le hw2
              refine ⟨_, rfl, _, rfl, _, rfl, p, c, kd.many, wd, rfl, hh9, m1, m3, hw1, hw2, fun l HA fA hhA ⟨rs, hl, _, hrs⟩ => ⟨l, rfl, ⟨_, SqL.of hl⟩, for_list (K := K) (a := l) (xs := rs) (ivRw sa p c r kd wd v2 v6 v7 HA) ⟨_, _, rfl, hk9.fr fA hh9, hhA, Evl.Ex.refl _⟩ (fun i σ H' _ ⟨_, _, _, _, _, e⟩ => SqL.of (e _ _ hl)) ?_ ?_⟩⟩
              · rintro j x σ HB hj ⟨v8, v9, rfl, hkB, hhB, xB⟩
                obtain ⟨q, ns, rfl, -, hq, ln, bn⟩ := hrs x (List.mem_of_getElem? hj)
                have hqB := xB _ _ hq
                walk_at "sm"
                refine ⟨_, .inl ⟨SqL.of hqB, fun t ht => ?_⟩⟩
                have eT := Evl.Ex.new (o := .tup (ns.map V.int)) ht
                refine ⟨r, t, kd, ns, wd, rfl, hkB.go eT, upd_same, ln, fun x hx => ⟨(bn x hx).1, by have := (bn x hx).2; omega⟩, hw2, ?_⟩
                walk_at "sm"
                exact ⟨_, rfl, plain_int, _, rfl, iteF ⟨r, q, kd, ns, wd, rfl, hkB.go eT, eT _ _ hqB, ln, bn, hw1, hw2, rfl, neR ⟨_, _, rfl, hkB.go eT, hhB.go eT, xB.trans eT⟩⟩⟩
              · rintro σ HB ⟨v8, v9, rfl, hkB, hhB, xB⟩
                exact ⟨⟨_, _, _, _, _, _, _, _, rfl⟩, hhB⟩
            · rintro σ HA ⟨⟨v2, v3, v4, v5, v6, v7, v8, v9, rfl⟩, hhA⟩
              walk_at "sm"
              refine tk hhA (by decide) (by decide) fun i HB i0 i1 fB hhB => ?_
              walk_at "sm"
              refine ⟨p, c, i, rfl, hhB, i0, i1, fun x HC fC hhC hbad => ⟨x, rfl, hbad, fun HD eD => ⟨_, rfl, iteF ⟨⟨_, _, _, _, _, _, _, _, rfl⟩, hhC.go eD⟩⟩⟩⟩
    · rintro σ H2 ⟨⟨v2, v3, v4, v5, v6, v7, v8, v9, rfl⟩, hh2⟩
      walk_at "sm"
      refine tk hh2 (by decide) (by decide) fun wd0 H3 w0 w1 f3 hh3 => ?_
      walk_at "sm"
      obtain ⟨wd, ew, hw1, hw2⟩ : ∃ wd : Nat, 1 + wd0 = (wd : Int) ∧ 1 ≤ wd ∧ wd ≤ 12 := ⟨wd0.toNat + 1, by omega, by omega, by omega⟩
      rw [ew]
      have wok : wiB (.int (wd : Int)) 1 12 = true := by
        show (decide ((1 : Int) ≤ wd) && decide ((wd : Int) ≤ 12)) = true
        rw [decide_eq_true (show (1 : Int) ≤ wd by omega), decide_eq_true (show (wd : Int) ≤ 12 by omega)]
        rfl
      refine ⟨_, rfl, plain_int, fun _ => ⟨rfl, neR (for_lst ?_)⟩, fun z => by rw [wok] at z; cases z⟩
      walk_at "sm"
      refine tk hh3 (by decide) (by decide) fun r1 H4 a0 a1 f4 hh4 => ?_
      walk_at "sm"
      refine tk hh4 (by decide) (by decide) fun r2 H5 b0 b1 f5 hh5 => ?_
      walk_at "sm"
      have lg : ((wd : Nat) : Int).natAbs.log2 < 1920 := by
        rw [Int.natAbs_natCast]
        exact Nat.lt_of_le_of_lt (Nat.log2_le_self wd) (by omega)
      refine ⟨lg, sz (by decide), fun q hq => ⟨sz (by decide), fun l hl => ⟨⟨_, SqL.of upd_same⟩, ?_⟩⟩⟩
      have eq1 := Evl.Ex.new (o := .tup [V.int (wd : Int)]) hq
      have el1 := Evl.Ex.new (o := .lst [V.int 0, V.int (13 + r1), V.int (-1 - r2), V.bl true, V.non, V.str (Str.ofString (toString (wd : Int))), V.ref q]) hl
      have hhL := (hh5.go eq1).go el1
      have odds : ∀ x ∈ [V.int 0, V.int (13 + r1), V.int (-1 - r2), V.bl true, V.non, V.str (Str.ofString (toString (wd : Int))), V.ref q], PlainV (upd (upd H5 q (.tup [V.int (wd : Int)])) l (.lst [V.int 0, V.int (13 + r1), V.int (-1 - r2), V.bl true, V.non, V.str (Str.ofString (toString (wd : Int))), V.ref q])) x ∧ wiB x 1 12 = false :=
        mem_c ⟨plain_int, by decide +kernel⟩ (mem_c ⟨plain_int, by
          show (decide ((1 : Int) ≤ 13 + r1) && decide (13 + r1 ≤ 12)) = false
          rw [decide_eq_false (show ¬ (13 + r1 ≤ 12) by omega), Bool.and_false]⟩ (mem_c ⟨plain_int, by
          show (decide ((1 : Int) ≤ -1 - r2) && decide (-1 - r2 ≤ 12)) = false
          rw [decide_eq_false (show ¬ (1 ≤ -1 - r2) by omega), Bool.false_and]⟩ (mem_c ⟨plain_bl, rfl⟩ (mem_c ⟨.inl rfl, rfl⟩ (mem_c ⟨.inr (.inr (.inr (.inl ⟨_, rfl⟩))), rfl⟩ (mem_c ⟨SqAt.plain (.inl (el1 _ _ upd_same)), rfl⟩ mem_n))))))
      have hlL : (upd (upd H5 q (.tup [V.int (wd : Int)])) l (.lst [V.int 0, V.int (13 + r1), V.int (-1 - r2), V.bl true, V.non, V.str (Str.ofString (toString (wd : Int))), V.ref q])) l = some (.lst [V.int 0, V.int (13 + r1), V.int (-1 - r2), V.bl true, V.non, V.str (Str.ofString (toString (wd : Int))), V.ref q]) := upd_same
      generalize upd (upd H5 q (.tup [V.int (wd : Int)])) l (.lst [V.int 0, V.int (13 + r1), V.int (-1 - r2), V.bl true, V.non, V.str (Str.ofString (toString (wd : Int))), V.ref q]) = HL at *
      generalize [V.int 0, V.int (13 + r1), V.int (-1 - r2), V.bl true, V.non, V.str (Str.ofString (toString (wd : Int))), V.ref q] = xs at *
      refine for_list (K := K) (a := l) (xs := xs) (ivOd sa p c wd v2 v3 v5 v6 v7 v8 v9 HL) ⟨_, rfl, hhL, Evl.Ex.refl _⟩ (fun i σ H' _ ⟨_, _, _, e⟩ => SqL.of (e _ _ hlL)) ?_ ?_
      · rintro j x σ HB hj ⟨v10, rfl, hhB, xB⟩
        obtain ⟨px, wx⟩ := odds x (List.mem_of_getElem? hj)
        walk_at "sm"
        exact ⟨x, rfl, px.go xB, wx, fun HC eC => ⟨_, rfl, iteF ⟨_, rfl, hhB.go eC, xB.trans eC⟩⟩⟩
      · rintro σ HB ⟨v10, rfl, hhB, xB⟩
        walk_at "sm"
        refine tk hhB (by decide) (by decide) fun m0 HC c0 c1 fC hhC => ?_
        walk_at "sm"
        obtain ⟨m, rfl⟩ : ∃ m : Nat, m0 = (m : Int) := ⟨m0.toNat, by omega⟩
        refine ⟨p, c, m, wd, rfl, hhC, by omega, hw2, fun li ns HD hli fD hhD hns ln bn => ?_⟩
        walk_at "sm"
        refine ci_good hw2 (.inr hns) ln (by omega) bn fun g HE xE hg => ?_
        walk_at "sm"
        have hnsE := xE _ _ hns
        refine isi_ty (t := "tuple") (b := true) (.base (.tup hg)) (by decide +kernel) ⟨_, rfl, iteF ⟨_, .inr (SqT.of hg), fun l2 hl2 => ?_⟩⟩
        have e2 := Evl.Ex.new (o := .lst (ns.map V.int)) hl2
        refine ints_ne upd_same (e2 _ _ hnsE) ⟨_, rfl, iteF ⟨_, .inl ⟨SqL.of (e2 _ _ hnsE), fun t3 ht3 => ?_⟩⟩⟩
        have e3 := Evl.Ex.new (o := .tup (ns.map V.int)) ht3
        refine ci_good hw2 (.inl upd_same) ln (by omega) bn fun g2 HF xF hg2 => ?_
        have xEF := (e2.trans e3).trans xF
        refine intsT_ne hg2 (xEF _ _ hg) ⟨_, rfl, iteF ?_⟩
        walk_at "sm"
        have hhF := ((hhD.go xE).go xEF)
        have hnsF := xEF _ _ hnsE
        have hgF := xEF _ _ hg
        refine ⟨sz (by decide), fun z0 hz0 => ?_⟩
        have e5 := Evl.Ex.new (o := .lst [V.int 0]) hz0
        refine ⟨li, z0, _, _, rfl, rfl, e5 _ _ hnsF, upd_same, sz (by rw [List.length_map, ln]; show m + 1 ≤ _; omega), fun l4 hl4 => ?_⟩
        have e6 := Evl.Ex.new (o := .lst (ns.map V.int ++ [V.int 0])) hl4
        have h4 : (upd (upd HF z0 (.lst [V.int 0])) l4 (.lst (ns.map V.int ++ [V.int 0]))) l4 = some (.lst ((ns ++ [0]).map V.int)) := by rw [upd_same, List.map_append]; rfl
        refine ⟨.ref l4, m, wd, -1, "many", rfl, hw2, SqAt.plain (.inr h4), .inr ⟨l4, _, rfl, .inr h4, by rw [List.length_map, List.length_append, ln]; show m + 1 ≤ 100; omega, ints_plain _, .inl ⟨by rw [List.length_map, List.length_append, ln]; show m + 1 ≠ m; omega, rfl, rfl⟩⟩, fun q5 HG xG hq5 => ⟨sz (by decide), fun t5 ht5 => ?_⟩⟩
        have e7 := Evl.Ex.new (o := .tup [V.int (-1), V.str "many"]) ht5
        refine two_ne (by decide +kernel) (e7 _ _ hq5) upd_same ⟨_, rfl, iteF ?_⟩
        refine ⟨.int m, m, wd, -1, "many", rfl, hw2, plain_int, .inl ⟨rfl, rfl, rfl⟩, fun q6 HK xK hq6 => ⟨sz (by decide), fun t6 ht6 => ?_⟩⟩
        have e8 := Evl.Ex.new (o := .tup [V.int (-1), V.str "many"]) ht6
        refine two_ne (by decide +kernel) (e8 _ _ hq6) upd_same ⟨_, rfl, iteF ?_⟩
        have xx := ((((e5.trans e6).trans xG).trans e7).trans xK).trans e8
        have hhM := hhF.go xx
        have hnsM := xx _ _ hnsF
        have hgM := xx _ _ hgF
        generalize upd HK t6 (.tup [V.int (-1), V.str "many"]) = HM at *
        refine ⟨mdE sa p li g ns, ?_, ?_⟩
        · walk_at "sm"
          refine ite2 (fun hm0 => ?_) fun _ => ⟨_, _, _, _, _, _, _, _, _, _, _, _, rfl, hnsM, hgM⟩
          refine tk hhM hm0 (by omega) fun at0 HN d0 d1 fN hhN => ?_
          walk_at "sm"
          refine tk hhN (by omega) (by omega) fun r3 HO f0 f1 fO hhO => ?_
          walk_at "sm"
          refine for_lst ?_
          walk_at "sm"
          have nli := hhC.lt hli
          have hnsO := fO _ _ nli (fN _ _ nli hnsM)
          have hgO := fr_tup fO hhN (fr_tup fN hhM hgM)
          refine ⟨wd, rfl, by omega, sz (by decide), fun lo hlo => ⟨⟨_, SqL.of upd_same⟩, ?_⟩⟩
          have eo := Evl.Ex.new (o := .lst [V.int (2 ^ wd), V.int (-1), V.bl true, V.non, V.str "0"]) hlo
          have hlo2 : (upd HO lo (.lst [V.int (2 ^ wd), V.int (-1), V.bl true, V.non, V.str "0"])) lo = some (.lst [V.int (2 ^ wd), V.int (-1), V.bl true, V.non, V.str "0"]) := upd_same
          have hnsP := eo _ _ hnsO
          have hgP := eo _ _ hgO
          generalize upd HO lo (.lst [V.int (2 ^ wd), V.int (-1), V.bl true, V.non, V.str "0"]) = HP at *
          have odds2 : ∀ x ∈ [V.int (2 ^ wd), V.int (-1), V.bl true, V.non, V.str "0"], PlainV HP x ∧ okW wd x = false :=
            mem_c ⟨plain_int, by
              show (decide ((0 : Int) ≤ 2 ^ wd) && decide ((2 : Int) ^ wd ≤ 2 ^ wd - 1)) = false
              rw [decide_eq_false (show ¬ ((2 : Int) ^ wd ≤ 2 ^ wd - 1) by omega), Bool.and_false]⟩ (mem_c ⟨plain_int, by
              show (decide ((0 : Int) ≤ -1) && decide ((-1 : Int) ≤ 2 ^ wd - 1)) = false
              rw [decide_eq_false (show ¬ ((0 : Int) ≤ -1) by decide), Bool.false_and]⟩ (mem_c ⟨plain_bl, rfl⟩ (mem_c ⟨.inl rfl, rfl⟩ (mem_c ⟨.inr (.inr (.inr (.inl ⟨_, rfl⟩))), rfl⟩ mem_n))))
          generalize [V.int (2 ^ wd), V.int (-1), V.bl true, V.non, V.str "0"] = ys at *
          refine for_list (K := K) (a := lo) (xs := ys) (ivSp sa p li g wd m at0 (at0 + r3) v2 v3 v6 v7 v8 v9 HP) ⟨_, _, rfl, Evl.Ex.refl _⟩ (fun i σ H' _ ⟨_, _, _, e⟩ => SqL.of (e _ _ hlo2)) ?_ ?_
          · rintro j x σ HQ hj ⟨w10, w15, rfl, xQ⟩
            obtain ⟨px, wx⟩ := odds2 x (List.mem_of_getElem? hj)
            walk_at "sm"
            obtain ⟨n, rfl⟩ : ∃ n : Nat, at0 = (n : Int) := ⟨at0.toNat, by omega⟩
            obtain ⟨n2, e2n, hn2, hn3⟩ : ∃ n2 : Nat, (n : Int) + r3 = (n2 : Int) ∧ n ≤ n2 ∧ n2 < m := ⟨n + r3.toNat, by omega, by omega, by omega⟩
            rw [e2n]
            refine ⟨li, _, rfl, SqL.of (xQ _ _ hnsP), fun u hu => ?_⟩
            rw [cut_all]
            have hlen : (ns.map V.int).length = m := by rw [List.length_map, ln]
            refine setl upd_same (Evl.ixN_nat (by rw [hlen]; exact hn3)) (setl upd_same (Evl.ixN_nat (by rw [List.length_set, hlen]; omega)) ?_)
            have eu : Evl.Ex HQ (upd (upd (upd HQ u (.lst (ns.map V.int))) u (.lst ((ns.map V.int).set n2 (V.int (-5))))) u (.lst (((ns.map V.int).set n2 (V.int (-5))).set n x))) := ((Evl.Ex.new hu).mut hu).mut hu
            have hu2 : (upd (upd (upd HQ u (.lst (ns.map V.int))) u (.lst ((ns.map V.int).set n2 (V.int (-5))))) u (.lst (((ns.map V.int).set n2 (V.int (-5))).set n x))) u = some (.lst (((ns.map V.int).set n2 (V.int (-5))).set n x)) := upd_same
            generalize upd (upd (upd HQ u (.lst (ns.map V.int))) u (.lst ((ns.map V.int).set n2 (V.int (-5))))) u (.lst (((ns.map V.int).set n2 (V.int (-5))).set n x)) = HR at *
            have len2 : (((ns.map V.int).set n2 (V.int (-5))).set n x).length = m := by rw [List.length_set, List.length_set, hlen]
            refine ⟨.ref u, m, wd, n, "word", rfl, hw2, SqAt.plain (.inr hu2), .inr ⟨u, _, rfl, .inr hu2, by rw [len2]; omega, fun y hy => ?_, .inr ⟨len2, rfl, n, x, rfl, ?_, wx, fun j z hj hz => ?_⟩⟩, fun q5 HS xS hq5 => ⟨sz (by decide), fun t5 ht5 => ?_⟩⟩
            · rcases List.mem_or_eq_of_mem_set hy with h | h
              · rcases List.mem_or_eq_of_mem_set h with h | h
                · exact ints_plain ns y h
                · rw [h]; exact plain_int
              · rw [h]; exact px.go (xQ.trans eu)
            · rw [List.getElem?_set_self (by rw [List.length_set, hlen]; omega)]
            · rw [List.getElem?_set_ne (by omega), List.getElem?_set_ne (by omega)] at hz
              exact okW_in bn z (List.mem_of_getElem? hz)
            · have e5 := Evl.Ex.new (o := .tup [V.int (n : Int), V.str "word"]) ht5
              exact two_ne (by decide +kernel) (e5 _ _ hq5) upd_same ⟨_, rfl, iteF ⟨_, _, rfl, ((xQ.trans eu).trans xS).trans e5⟩⟩
          · rintro σ HQ ⟨w10, w15, rfl, xQ⟩
            exact ⟨_, _, _, _, _, _, _, _, _, _, _, _, rfl, xQ _ _ hnsP, xQ _ _ hgP⟩
        · rintro σ HN ⟨v2, v3, v4, v5, v6, v7, v8, v9, v10, v13, v14, v15, rfl, h1, h2⟩
          walk_at "sm"
          refine ⟨_, .inr (SqT.of h2), fun l9 hl9 => ints_eq (Evl.Ex.new hl9 _ _ h1) upd_same (k _)⟩
end


theorem exm_self {K : PySem.W.Frag} {S : Addr} (h1 : PySem.W.subIn K (.ref S) (.type "BaseException") = some true) (h2 : PySem.W.isClsIn K S = true) (h3 : PySem.W.typeIn K (.ref S) = some (.type "type")) (h4 : PySem.W.subIn K (.ref S) (.ref S) = some true) :
    PySem.W.exmOne K (.ref S) (.ref S) = some true := by
  have e1 : (PySem.W.subIn K (.ref S) (.type "BaseException") == some true) = true := by rw [h1] <;> rfl
  have e2 : ((PySem.W.clsIn K S).isSome && PySem.W.typeIn K (.ref S) == some (.type "type")) = true := by
    have h5 : (PySem.W.clsIn K S).isSome = true := h2
    rw [h5, h3] <;> rfl
  unfold PySem.W.exmOne
  rw [if_pos e1]
  show (if ((PySem.W.clsIn K S).isSome && PySem.W.typeIn K (.ref S) == some (.type "type")) = true then PySem.W.subIn K (.ref S) (.ref S) else none) = some true
  rw [if_pos e2]
  exact h4
/-- the items of a constant tuple, held against what they should be -/
def valB : V → Value → Bool
  | .int i, .int j _ => decide (i = j)
  | .str x, .str y _ => decide (x = y)
  | _, _ => false
theorem valB_ok : ∀ {x : V} {u : Value}, valB x u = true → RelV x u := by
  intro x u h
  unfold valB at h
  split at h
  · exact ⟨_, by rw [of_decide_eq_true h]⟩
  · exact ⟨_, by rw [of_decide_eq_true h]⟩
  · cases h
def valsB : List V → List Value → Bool
  | [], [] => true
  | x :: xs, u :: us => valB x u && valsB xs us
  | _, _ => false
theorem valsB_ok : ∀ {xs : List V} {us : List Value}, valsB xs us = true → Vals xs us
  | [], [], _ => .nil
  | [], _ :: _, h => by cases h
  | _ :: _, [], h => by cases h
  | x :: xs, u :: us, h => by
    have h' : (valB x u && valsB xs us) = true := h
    rw [Bool.and_eq_true] at h'
    exact .cons (valB_ok h'.1) (valsB_ok h'.2)
theorem sqT_mk {K : PySem.W.Frag} {H : Hp} {p : Addr} {d : Option Addr} {its : Array Value} {n : Nat} {sl : Array (Option Value)} {xs : List V} (l : K.lookup p = some ⟨.type "tuple", d, .seq its n, sl⟩) (v : valsB xs its.toList = true) (z : decide (its.size ≤ 1000) = true) : SqT K H p xs :=
  .inr ⟨_, its, n, l, rfl, rfl, Nat.le_trans (of_decide_eq_true z) (by decide), valsB_ok v⟩

theorem all_mk {P : Program} {w : World} {K : PySem.W.Frag} {h : Heap} {mg : Str → Option Value} {fa : Addr} (X : K.In h) (G : h.Ns mainGlobals mg) (hfa : mg "law" = some (.ref fa))
    {v_is_whole : Addr} {oc_is_whole kV_is_whole dc_is_whole pm_is_whole cd_is_whole ct_is_whole : Value} {od_is_whole an_is_whole : Option Addr} {sl_is_whole : Array (Option Value)}
    {v_is_within : Addr} {oc_is_within kV_is_within dc_is_within pm_is_within cd_is_within ct_is_within : Value} {od_is_within an_is_within : Option Addr} {sl_is_within : Array (Option Value)}
    {v_is_sequence : Addr} {oc_is_sequence kV_is_sequence dc_is_sequence pm_is_sequence cd_is_sequence ct_is_sequence : Value} {od_is_sequence an_is_sequence : Option Addr} {sl_is_sequence : Array (Option Value)}
    {v_check_width : Addr} {oc_check_width kV_check_width dc_check_width pm_check_width cd_check_width ct_check_width : Value} {od_check_width an_check_width : Option Addr} {sl_check_width : Array (Option Value)}
    {v_check_inputs : Addr} {oc_check_inputs kV_check_inputs dc_check_inputs pm_check_inputs cd_check_inputs ct_check_inputs : Value} {od_check_inputs an_check_inputs : Option Addr} {sl_check_inputs : Array (Option Value)}
    {v_is_number : Addr} {oc_is_number kV_is_number dc_is_number pm_is_number cd_is_number ct_is_number : Value} {od_is_number an_is_number : Option Addr} {sl_is_number : Array (Option Value)}
    {v_is_table : Addr} {oc_is_table kV_is_table dc_is_table pm_is_table cd_is_table ct_is_table : Value} {od_is_table an_is_table : Option Addr} {sl_is_table : Array (Option Value)}
    {v_check_kind : Addr} {oc_check_kind kV_check_kind dc_check_kind pm_check_kind cd_check_kind ct_check_kind : Value} {od_check_kind an_check_kind : Option Addr} {sl_check_kind : Array (Option Value)}
    {v_operand_count : Addr} {oc_operand_count kV_operand_count dc_operand_count pm_operand_count cd_operand_count ct_operand_count : Value} {od_operand_count an_operand_count : Option Addr} {sl_operand_count : Array (Option Value)}
    {v_step_word : Addr} {oc_step_word kV_step_word dc_step_word pm_step_word cd_step_word ct_step_word : Value} {od_step_word an_step_word : Option Addr} {sl_step_word : Array (Option Value)}
    {v_pair_word : Addr} {oc_pair_word kV_pair_word dc_pair_word pm_pair_word cd_pair_word ct_pair_word : Value} {od_pair_word an_pair_word : Option Addr} {sl_pair_word : Array (Option Value)}
    {v_single_word : Addr} {oc_single_word kV_single_word dc_single_word pm_single_word cd_single_word ct_single_word : Value} {od_single_word an_single_word : Option Addr} {sl_single_word : Array (Option Value)}
    {v_law_hand : Addr} {oc_law_hand kV_law_hand dc_law_hand pm_law_hand cd_law_hand ct_law_hand : Value} {od_law_hand an_law_hand : Option Addr} {sl_law_hand : Array (Option Value)}
    {v_law_mixed : Addr} {oc_law_mixed kV_law_mixed dc_law_mixed pm_law_mixed cd_law_mixed ct_law_mixed : Value} {od_law_mixed an_law_mixed : Option Addr} {sl_law_mixed : Array (Option Value)}
    {v_law_take : Addr} {oc_law_take kV_law_take dc_law_take pm_law_take cd_law_take ct_law_take : Value} {od_law_take an_law_take : Option Addr} {sl_law_take : Array (Option Value)}
    {v_law_whole : Addr} {oc_law_whole kV_law_whole dc_law_whole pm_law_whole cd_law_whole ct_law_whole : Value} {od_law_whole an_law_whole : Option Addr} {sl_law_whole : Array (Option Value)}
    {v_law_two : Addr} {oc_law_two kV_law_two dc_law_two pm_law_two cd_law_two ct_law_two : Value} {od_law_two an_law_two : Option Addr} {sl_law_two : Array (Option Value)}
    {v_law_kind : Addr} {oc_law_kind kV_law_kind dc_law_kind pm_law_kind cd_law_kind ct_law_kind : Value} {od_law_kind an_law_kind : Option Addr} {sl_law_kind : Array (Option Value)}
    {v_law_operands : Addr} {oc_law_operands kV_law_operands dc_law_operands pm_law_operands cd_law_operands ct_law_operands : Value} {od_law_operands an_law_operands : Option Addr} {sl_law_operands : Array (Option Value)}
    {v_law_bits : Addr} {oc_law_bits kV_law_bits dc_law_bits pm_law_bits cd_law_bits ct_law_bits : Value} {od_law_bits an_law_bits : Option Addr} {sl_law_bits : Array (Option Value)}
    {v_law_step_word : Addr} {oc_law_step_word kV_law_step_word dc_law_step_word pm_law_step_word cd_law_step_word ct_law_step_word : Value} {od_law_step_word an_law_step_word : Option Addr} {sl_law_step_word : Array (Option Value)}
    {v_law_words : Addr} {oc_law_words kV_law_words dc_law_words pm_law_words cd_law_words ct_law_words : Value} {od_law_words an_law_words : Option Addr} {sl_law_words : Array (Option Value)}
    {v_law_rows_of : Addr} {oc_law_rows_of kV_law_rows_of dc_law_rows_of pm_law_rows_of cd_law_rows_of ct_law_rows_of : Value} {od_law_rows_of an_law_rows_of : Option Addr} {sl_law_rows_of : Array (Option Value)}
    {v_law_longer : Addr} {oc_law_longer kV_law_longer dc_law_longer pm_law_longer cd_law_longer ct_law_longer : Value} {od_law_longer an_law_longer : Option Addr} {sl_law_longer : Array (Option Value)}
    {v_law_odd_kind : Addr} {oc_law_odd_kind kV_law_odd_kind dc_law_odd_kind pm_law_odd_kind cd_law_odd_kind ct_law_odd_kind : Value} {od_law_odd_kind an_law_odd_kind : Option Addr} {sl_law_odd_kind : Array (Option Value)}
    {v_law_refused_kind : Addr} {oc_law_refused_kind kV_law_refused_kind dc_law_refused_kind pm_law_refused_kind cd_law_refused_kind ct_law_refused_kind : Value} {od_law_refused_kind an_law_refused_kind : Option Addr} {sl_law_refused_kind : Array (Option Value)}
    {v_law_refused_width : Addr} {oc_law_refused_width kV_law_refused_width dc_law_refused_width pm_law_refused_width cd_law_refused_width ct_law_refused_width : Value} {od_law_refused_width an_law_refused_width : Option Addr} {sl_law_refused_width : Array (Option Value)}
    {v_law_refused_inputs : Addr} {oc_law_refused_inputs kV_law_refused_inputs dc_law_refused_inputs pm_law_refused_inputs cd_law_refused_inputs ct_law_refused_inputs : Value} {od_law_refused_inputs an_law_refused_inputs : Option Addr} {sl_law_refused_inputs : Array (Option Value)}
    {v_law : Addr} {oc_law kV_law dc_law pm_law cd_law ct_law : Value} {od_law an_law : Option Addr} {sl_law : Array (Option Value)}
    {v_BadInputs___init__ : Addr} {oc_BadInputs___init__ kV_BadInputs___init__ dc_BadInputs___init__ pm_BadInputs___init__ cd_BadInputs___init__ ct_BadInputs___init__ : Value} {od_BadInputs___init__ an_BadInputs___init__ : Option Addr} {sl_BadInputs___init__ : Array (Option Value)}
    {w_BadInputs N_BadInputs : Addr} {nm_BadInputs q_BadInputs : Str} {bs_BadInputs bm_BadInputs sub_BadInputs : List Value} {sn_BadInputs : List Str} {ab_BadInputs : Bool} {col_BadInputs : Option Bool} {dd_BadInputs : Option Addr} {m0_BadInputs m1_BadInputs m2_BadInputs m3_BadInputs m5_BadInputs : Option Value}
    {w_BadKind : Addr}
    {w_BadWidth : Addr}
    {t_MOST_WIDTH : Tok}
    {t_MOST_NUMBER : Tok}
    {p_TABLE_SIZES : Addr}
    {d_TABLE_SIZES : Option Addr} {i_TABLE_SIZES : Array Value} {n_TABLE_SIZES : Nat} {s_TABLE_SIZES : Array (Option Value)}
    {p_PAIR_SIGNS : Addr}
    {d_PAIR_SIGNS : Option Addr} {i_PAIR_SIGNS : Array Value} {n_PAIR_SIGNS : Nat} {s_PAIR_SIGNS : Array (Option Value)}
    {p_SHIFT_SIGNS : Addr}
    {d_SHIFT_SIGNS : Option Addr} {i_SHIFT_SIGNS : Array Value} {n_SHIFT_SIGNS : Nat} {s_SHIFT_SIGNS : Array (Option Value)}
    {u_c_UndoError : Addr}
    (hm_BadInputs : PySem.W.nsIn K mainGlobals "BadInputs" = some (some (.ref w_BadInputs)))
    (hm_BadKind : PySem.W.nsIn K mainGlobals "BadKind" = some (some (.ref w_BadKind)))
    (hm_BadWidth : PySem.W.nsIn K mainGlobals "BadWidth" = some (some (.ref w_BadWidth)))
    (xl_BadInputs : K.lookup w_BadInputs = some (excClassObj nm_BadInputs q_BadInputs w_BadInputs N_BadInputs bs_BadInputs bm_BadInputs true sn_BadInputs sub_BadInputs ab_BadInputs col_BadInputs dd_BadInputs m0_BadInputs m1_BadInputs m2_BadInputs m3_BadInputs m5_BadInputs "ValueError.__new__"))
    (xv_BadInputs : PySem.HandSPX.refsVE bm_BadInputs = true)
    (xs_BadInputs : PySem.W.findIn K (.ref w_BadInputs) "__setattr__" = some (some (.builtin "object.__setattr__")))
    (xg_BadInputs : PySem.W.findIn K (.ref w_BadInputs) "__getattribute__" = some (some (.builtin "BaseException.__getattribute__")))
    (xh_BadInputs : PySem.W.findIn K (.ref w_BadInputs) "__getattr__" = some none)
    (xk_BadInputs : PySem.W.keepIn K (.ref w_BadInputs) = true)
    (xb_BadInputs : PySem.W.subIn K (.ref w_BadInputs) (.type "BaseException") = some true)
    (xy_BadInputs : PySem.W.typeIn K (.ref w_BadInputs) = some (.type "type"))
    (xd_BadInputs : PySem.W.hasDictIn K w_BadInputs = true)
    (xc_BadInputs : PySem.W.isClsIn K w_BadInputs = true)
    (xz_BadInputs : PySem.W.subIn K (.ref w_BadInputs) (.ref w_BadInputs) = some true)
    (xq_BadKind : PySem.W.excIn K w_BadKind [.type "ValueError", .type "Exception", .type "BaseException", .type "object"] "ValueError.__new__" = true)
    (xk_BadKind : PySem.W.keepIn K (.ref w_BadKind) = true)
    (xb_BadKind : PySem.W.subIn K (.ref w_BadKind) (.type "BaseException") = some true)
    (xy_BadKind : PySem.W.typeIn K (.ref w_BadKind) = some (.type "type"))
    (xc_BadKind : PySem.W.isClsIn K w_BadKind = true)
    (xz_BadKind : PySem.W.subIn K (.ref w_BadKind) (.ref w_BadKind) = some true)
    (xq_BadWidth : PySem.W.excIn K w_BadWidth [.type "ValueError", .type "Exception", .type "BaseException", .type "object"] "ValueError.__new__" = true)
    (xk_BadWidth : PySem.W.keepIn K (.ref w_BadWidth) = true)
    (xb_BadWidth : PySem.W.subIn K (.ref w_BadWidth) (.type "BaseException") = some true)
    (xy_BadWidth : PySem.W.typeIn K (.ref w_BadWidth) = some (.type "type"))
    (xc_BadWidth : PySem.W.isClsIn K w_BadWidth = true)
    (xz_BadWidth : PySem.W.subIn K (.ref w_BadWidth) (.ref w_BadWidth) = some true)
    (hxi_BadInputs : PySem.W.findIn K (.ref w_BadInputs) "__init__" = some (some (.ref v_BadInputs___init__)))
    (hxt_BadInputs : PySem.W.typeIn K (.ref v_BadInputs___init__) = some (.type "function"))
    (hxn_BadInputs_index : PySem.W.findIn K (.ref w_BadInputs) "index" = some none)
    (hxn_BadInputs_what : PySem.W.findIn K (.ref w_BadInputs) "what" = some none)
    (hm_is_whole : PySem.W.nsIn K mainGlobals "is_whole" = some (some (.ref v_is_whole)))
    (hl_is_whole : K.lookup v_is_whole = some ⟨oc_is_whole, od_is_whole, .func (PySem.W.fnOf "is_whole" "is_whole" (defArgs s_is_whole) (defBody s_is_whole) (defScope s_is_whole) .none kV_is_whole dc_is_whole pm_is_whole an_is_whole cd_is_whole ct_is_whole), sl_is_whole⟩)
    (hc_is_whole : PySem.W.codeIn K cd_is_whole "is_whole" = true)
    (hk_is_whole : PySem.W.keepIn K (.ref v_is_whole) = true)
    (hm_is_within : PySem.W.nsIn K mainGlobals "is_within" = some (some (.ref v_is_within)))
    (hl_is_within : K.lookup v_is_within = some ⟨oc_is_within, od_is_within, .func (PySem.W.fnOf "is_within" "is_within" (defArgs s_is_within) (defBody s_is_within) (defScope s_is_within) .none kV_is_within dc_is_within pm_is_within an_is_within cd_is_within ct_is_within), sl_is_within⟩)
    (hc_is_within : PySem.W.codeIn K cd_is_within "is_within" = true)
    (hk_is_within : PySem.W.keepIn K (.ref v_is_within) = true)
    (hm_is_sequence : PySem.W.nsIn K mainGlobals "is_sequence" = some (some (.ref v_is_sequence)))
    (hl_is_sequence : K.lookup v_is_sequence = some ⟨oc_is_sequence, od_is_sequence, .func (PySem.W.fnOf "is_sequence" "is_sequence" (defArgs s_is_sequence) (defBody s_is_sequence) (defScope s_is_sequence) .none kV_is_sequence dc_is_sequence pm_is_sequence an_is_sequence cd_is_sequence ct_is_sequence), sl_is_sequence⟩)
    (hc_is_sequence : PySem.W.codeIn K cd_is_sequence "is_sequence" = true)
    (hk_is_sequence : PySem.W.keepIn K (.ref v_is_sequence) = true)
    (hm_check_width : PySem.W.nsIn K mainGlobals "check_width" = some (some (.ref v_check_width)))
    (hl_check_width : K.lookup v_check_width = some ⟨oc_check_width, od_check_width, .func (PySem.W.fnOf "check_width" "check_width" (defArgs s_check_width) (defBody s_check_width) (defScope s_check_width) .none kV_check_width dc_check_width pm_check_width an_check_width cd_check_width ct_check_width), sl_check_width⟩)
    (hc_check_width : PySem.W.codeIn K cd_check_width "check_width" = true)
    (hk_check_width : PySem.W.keepIn K (.ref v_check_width) = true)
    (hm_check_inputs : PySem.W.nsIn K mainGlobals "check_inputs" = some (some (.ref v_check_inputs)))
    (hl_check_inputs : K.lookup v_check_inputs = some ⟨oc_check_inputs, od_check_inputs, .func (PySem.W.fnOf "check_inputs" "check_inputs" (defArgs s_check_inputs) (defBody s_check_inputs) (defScope s_check_inputs) .none kV_check_inputs dc_check_inputs pm_check_inputs an_check_inputs cd_check_inputs ct_check_inputs), sl_check_inputs⟩)
    (hc_check_inputs : PySem.W.codeIn K cd_check_inputs "check_inputs" = true)
    (hk_check_inputs : PySem.W.keepIn K (.ref v_check_inputs) = true)
    (hm_is_number : PySem.W.nsIn K mainGlobals "is_number" = some (some (.ref v_is_number)))
    (hl_is_number : K.lookup v_is_number = some ⟨oc_is_number, od_is_number, .func (PySem.W.fnOf "is_number" "is_number" (defArgs s_is_number) (defBody s_is_number) (defScope s_is_number) .none kV_is_number dc_is_number pm_is_number an_is_number cd_is_number ct_is_number), sl_is_number⟩)
    (hc_is_number : PySem.W.codeIn K cd_is_number "is_number" = true)
    (hk_is_number : PySem.W.keepIn K (.ref v_is_number) = true)
    (hm_is_table : PySem.W.nsIn K mainGlobals "is_table" = some (some (.ref v_is_table)))
    (hl_is_table : K.lookup v_is_table = some ⟨oc_is_table, od_is_table, .func (PySem.W.fnOf "is_table" "is_table" (defArgs s_is_table) (defBody s_is_table) (defScope s_is_table) .none kV_is_table dc_is_table pm_is_table an_is_table cd_is_table ct_is_table), sl_is_table⟩)
    (hc_is_table : PySem.W.codeIn K cd_is_table "is_table" = true)
    (hk_is_table : PySem.W.keepIn K (.ref v_is_table) = true)
    (hm_check_kind : PySem.W.nsIn K mainGlobals "check_kind" = some (some (.ref v_check_kind)))
    (hl_check_kind : K.lookup v_check_kind = some ⟨oc_check_kind, od_check_kind, .func (PySem.W.fnOf "check_kind" "check_kind" (defArgs s_check_kind) (defBody s_check_kind) (defScope s_check_kind) .none kV_check_kind dc_check_kind pm_check_kind an_check_kind cd_check_kind ct_check_kind), sl_check_kind⟩)
    (hc_check_kind : PySem.W.codeIn K cd_check_kind "check_kind" = true)
    (hk_check_kind : PySem.W.keepIn K (.ref v_check_kind) = true)
    (hm_operand_count : PySem.W.nsIn K mainGlobals "operand_count" = some (some (.ref v_operand_count)))
    (hl_operand_count : K.lookup v_operand_count = some ⟨oc_operand_count, od_operand_count, .func (PySem.W.fnOf "operand_count" "operand_count" (defArgs s_operand_count) (defBody s_operand_count) (defScope s_operand_count) .none kV_operand_count dc_operand_count pm_operand_count an_operand_count cd_operand_count ct_operand_count), sl_operand_count⟩)
    (hc_operand_count : PySem.W.codeIn K cd_operand_count "operand_count" = true)
    (hk_operand_count : PySem.W.keepIn K (.ref v_operand_count) = true)
    (hm_step_word : PySem.W.nsIn K mainGlobals "step_word" = some (some (.ref v_step_word)))
    (hl_step_word : K.lookup v_step_word = some ⟨oc_step_word, od_step_word, .func (PySem.W.fnOf "step_word" "step_word" (defArgs s_step_word) (defBody s_step_word) (defScope s_step_word) .none kV_step_word dc_step_word pm_step_word an_step_word cd_step_word ct_step_word), sl_step_word⟩)
    (hc_step_word : PySem.W.codeIn K cd_step_word "step_word" = true)
    (hk_step_word : PySem.W.keepIn K (.ref v_step_word) = true)
    (hm_pair_word : PySem.W.nsIn K mainGlobals "pair_word" = some (some (.ref v_pair_word)))
    (hl_pair_word : K.lookup v_pair_word = some ⟨oc_pair_word, od_pair_word, .func (PySem.W.fnOf "pair_word" "pair_word" (defArgs s_pair_word) (defBody s_pair_word) (defScope s_pair_word) .none kV_pair_word dc_pair_word pm_pair_word an_pair_word cd_pair_word ct_pair_word), sl_pair_word⟩)
    (hc_pair_word : PySem.W.codeIn K cd_pair_word "pair_word" = true)
    (hk_pair_word : PySem.W.keepIn K (.ref v_pair_word) = true)
    (hm_single_word : PySem.W.nsIn K mainGlobals "single_word" = some (some (.ref v_single_word)))
    (hl_single_word : K.lookup v_single_word = some ⟨oc_single_word, od_single_word, .func (PySem.W.fnOf "single_word" "single_word" (defArgs s_single_word) (defBody s_single_word) (defScope s_single_word) .none kV_single_word dc_single_word pm_single_word an_single_word cd_single_word ct_single_word), sl_single_word⟩)
    (hc_single_word : PySem.W.codeIn K cd_single_word "single_word" = true)
    (hk_single_word : PySem.W.keepIn K (.ref v_single_word) = true)
    (hm_law_hand : PySem.W.nsIn K mainGlobals "_law_hand" = some (some (.ref v_law_hand)))
    (hl_law_hand : K.lookup v_law_hand = some ⟨oc_law_hand, od_law_hand, .func (PySem.W.fnOf "_law_hand" "_law_hand" (defArgs s_law_hand) (defBody s_law_hand) (defScope s_law_hand) .none kV_law_hand dc_law_hand pm_law_hand an_law_hand cd_law_hand ct_law_hand), sl_law_hand⟩)
    (hc_law_hand : PySem.W.codeIn K cd_law_hand "_law_hand" = true)
    (hk_law_hand : PySem.W.keepIn K (.ref v_law_hand) = true)
    (hm_law_mixed : PySem.W.nsIn K mainGlobals "_law_mixed" = some (some (.ref v_law_mixed)))
    (hl_law_mixed : K.lookup v_law_mixed = some ⟨oc_law_mixed, od_law_mixed, .func (PySem.W.fnOf "_law_mixed" "_law_mixed" (defArgs s_law_mixed) (defBody s_law_mixed) (defScope s_law_mixed) .none kV_law_mixed dc_law_mixed pm_law_mixed an_law_mixed cd_law_mixed ct_law_mixed), sl_law_mixed⟩)
    (hc_law_mixed : PySem.W.codeIn K cd_law_mixed "_law_mixed" = true)
    (hk_law_mixed : PySem.W.keepIn K (.ref v_law_mixed) = true)
    (hm_law_take : PySem.W.nsIn K mainGlobals "_law_take" = some (some (.ref v_law_take)))
    (hl_law_take : K.lookup v_law_take = some ⟨oc_law_take, od_law_take, .func (PySem.W.fnOf "_law_take" "_law_take" (defArgs s_law_take) (defBody s_law_take) (defScope s_law_take) .none kV_law_take dc_law_take pm_law_take an_law_take cd_law_take ct_law_take), sl_law_take⟩)
    (hc_law_take : PySem.W.codeIn K cd_law_take "_law_take" = true)
    (hk_law_take : PySem.W.keepIn K (.ref v_law_take) = true)
    (hm_law_whole : PySem.W.nsIn K mainGlobals "_law_whole" = some (some (.ref v_law_whole)))
    (hl_law_whole : K.lookup v_law_whole = some ⟨oc_law_whole, od_law_whole, .func (PySem.W.fnOf "_law_whole" "_law_whole" (defArgs s_law_whole) (defBody s_law_whole) (defScope s_law_whole) .none kV_law_whole dc_law_whole pm_law_whole an_law_whole cd_law_whole ct_law_whole), sl_law_whole⟩)
    (hc_law_whole : PySem.W.codeIn K cd_law_whole "_law_whole" = true)
    (hk_law_whole : PySem.W.keepIn K (.ref v_law_whole) = true)
    (hm_law_two : PySem.W.nsIn K mainGlobals "_law_two" = some (some (.ref v_law_two)))
    (hl_law_two : K.lookup v_law_two = some ⟨oc_law_two, od_law_two, .func (PySem.W.fnOf "_law_two" "_law_two" (defArgs s_law_two) (defBody s_law_two) (defScope s_law_two) .none kV_law_two dc_law_two pm_law_two an_law_two cd_law_two ct_law_two), sl_law_two⟩)
    (hc_law_two : PySem.W.codeIn K cd_law_two "_law_two" = true)
    (hk_law_two : PySem.W.keepIn K (.ref v_law_two) = true)
    (hm_law_kind : PySem.W.nsIn K mainGlobals "_law_kind" = some (some (.ref v_law_kind)))
    (hl_law_kind : K.lookup v_law_kind = some ⟨oc_law_kind, od_law_kind, .func (PySem.W.fnOf "_law_kind" "_law_kind" (defArgs s_law_kind) (defBody s_law_kind) (defScope s_law_kind) .none kV_law_kind dc_law_kind pm_law_kind an_law_kind cd_law_kind ct_law_kind), sl_law_kind⟩)
    (hc_law_kind : PySem.W.codeIn K cd_law_kind "_law_kind" = true)
    (hk_law_kind : PySem.W.keepIn K (.ref v_law_kind) = true)
    (hm_law_operands : PySem.W.nsIn K mainGlobals "_law_operands" = some (some (.ref v_law_operands)))
    (hl_law_operands : K.lookup v_law_operands = some ⟨oc_law_operands, od_law_operands, .func (PySem.W.fnOf "_law_operands" "_law_operands" (defArgs s_law_operands) (defBody s_law_operands) (defScope s_law_operands) .none kV_law_operands dc_law_operands pm_law_operands an_law_operands cd_law_operands ct_law_operands), sl_law_operands⟩)
    (hc_law_operands : PySem.W.codeIn K cd_law_operands "_law_operands" = true)
    (hk_law_operands : PySem.W.keepIn K (.ref v_law_operands) = true)
    (hm_law_bits : PySem.W.nsIn K mainGlobals "_law_bits" = some (some (.ref v_law_bits)))
    (hl_law_bits : K.lookup v_law_bits = some ⟨oc_law_bits, od_law_bits, .func (PySem.W.fnOf "_law_bits" "_law_bits" (defArgs s_law_bits) (defBody s_law_bits) (defScope s_law_bits) .none kV_law_bits dc_law_bits pm_law_bits an_law_bits cd_law_bits ct_law_bits), sl_law_bits⟩)
    (hc_law_bits : PySem.W.codeIn K cd_law_bits "_law_bits" = true)
    (hk_law_bits : PySem.W.keepIn K (.ref v_law_bits) = true)
    (hm_law_step_word : PySem.W.nsIn K mainGlobals "_law_step_word" = some (some (.ref v_law_step_word)))
    (hl_law_step_word : K.lookup v_law_step_word = some ⟨oc_law_step_word, od_law_step_word, .func (PySem.W.fnOf "_law_step_word" "_law_step_word" (defArgs s_law_step_word) (defBody s_law_step_word) (defScope s_law_step_word) .none kV_law_step_word dc_law_step_word pm_law_step_word an_law_step_word cd_law_step_word ct_law_step_word), sl_law_step_word⟩)
    (hc_law_step_word : PySem.W.codeIn K cd_law_step_word "_law_step_word" = true)
    (hk_law_step_word : PySem.W.keepIn K (.ref v_law_step_word) = true)
    (hm_law_words : PySem.W.nsIn K mainGlobals "_law_words" = some (some (.ref v_law_words)))
    (hl_law_words : K.lookup v_law_words = some ⟨oc_law_words, od_law_words, .func (PySem.W.fnOf "_law_words" "_law_words" (defArgs s_law_words) (defBody s_law_words) (defScope s_law_words) .none kV_law_words dc_law_words pm_law_words an_law_words cd_law_words ct_law_words), sl_law_words⟩)
    (hc_law_words : PySem.W.codeIn K cd_law_words "_law_words" = true)
    (hk_law_words : PySem.W.keepIn K (.ref v_law_words) = true)
    (hm_law_rows_of : PySem.W.nsIn K mainGlobals "_law_rows_of" = some (some (.ref v_law_rows_of)))
    (hl_law_rows_of : K.lookup v_law_rows_of = some ⟨oc_law_rows_of, od_law_rows_of, .func (PySem.W.fnOf "_law_rows_of" "_law_rows_of" (defArgs s_law_rows_of) (defBody s_law_rows_of) (defScope s_law_rows_of) .none kV_law_rows_of dc_law_rows_of pm_law_rows_of an_law_rows_of cd_law_rows_of ct_law_rows_of), sl_law_rows_of⟩)
    (hc_law_rows_of : PySem.W.codeIn K cd_law_rows_of "_law_rows_of" = true)
    (hk_law_rows_of : PySem.W.keepIn K (.ref v_law_rows_of) = true)
    (hm_law_longer : PySem.W.nsIn K mainGlobals "_law_longer" = some (some (.ref v_law_longer)))
    (hl_law_longer : K.lookup v_law_longer = some ⟨oc_law_longer, od_law_longer, .func (PySem.W.fnOf "_law_longer" "_law_longer" (defArgs s_law_longer) (defBody s_law_longer) (defScope s_law_longer) .none kV_law_longer dc_law_longer pm_law_longer an_law_longer cd_law_longer ct_law_longer), sl_law_longer⟩)
    (hc_law_longer : PySem.W.codeIn K cd_law_longer "_law_longer" = true)
    (hk_law_longer : PySem.W.keepIn K (.ref v_law_longer) = true)
    (hm_law_odd_kind : PySem.W.nsIn K mainGlobals "_law_odd_kind" = some (some (.ref v_law_odd_kind)))
    (hl_law_odd_kind : K.lookup v_law_odd_kind = some ⟨oc_law_odd_kind, od_law_odd_kind, .func (PySem.W.fnOf "_law_odd_kind" "_law_odd_kind" (defArgs s_law_odd_kind) (defBody s_law_odd_kind) (defScope s_law_odd_kind) .none kV_law_odd_kind dc_law_odd_kind pm_law_odd_kind an_law_odd_kind cd_law_odd_kind ct_law_odd_kind), sl_law_odd_kind⟩)
    (hc_law_odd_kind : PySem.W.codeIn K cd_law_odd_kind "_law_odd_kind" = true)
    (hk_law_odd_kind : PySem.W.keepIn K (.ref v_law_odd_kind) = true)
    (hm_law_refused_kind : PySem.W.nsIn K mainGlobals "_law_refused_kind" = some (some (.ref v_law_refused_kind)))
    (hl_law_refused_kind : K.lookup v_law_refused_kind = some ⟨oc_law_refused_kind, od_law_refused_kind, .func (PySem.W.fnOf "_law_refused_kind" "_law_refused_kind" (defArgs s_law_refused_kind) (defBody s_law_refused_kind) (defScope s_law_refused_kind) .none kV_law_refused_kind dc_law_refused_kind pm_law_refused_kind an_law_refused_kind cd_law_refused_kind ct_law_refused_kind), sl_law_refused_kind⟩)
    (hc_law_refused_kind : PySem.W.codeIn K cd_law_refused_kind "_law_refused_kind" = true)
    (hk_law_refused_kind : PySem.W.keepIn K (.ref v_law_refused_kind) = true)
    (hm_law_refused_width : PySem.W.nsIn K mainGlobals "_law_refused_width" = some (some (.ref v_law_refused_width)))
    (hl_law_refused_width : K.lookup v_law_refused_width = some ⟨oc_law_refused_width, od_law_refused_width, .func (PySem.W.fnOf "_law_refused_width" "_law_refused_width" (defArgs s_law_refused_width) (defBody s_law_refused_width) (defScope s_law_refused_width) .none kV_law_refused_width dc_law_refused_width pm_law_refused_width an_law_refused_width cd_law_refused_width ct_law_refused_width), sl_law_refused_width⟩)
    (hc_law_refused_width : PySem.W.codeIn K cd_law_refused_width "_law_refused_width" = true)
    (hk_law_refused_width : PySem.W.keepIn K (.ref v_law_refused_width) = true)
    (hm_law_refused_inputs : PySem.W.nsIn K mainGlobals "_law_refused_inputs" = some (some (.ref v_law_refused_inputs)))
    (hl_law_refused_inputs : K.lookup v_law_refused_inputs = some ⟨oc_law_refused_inputs, od_law_refused_inputs, .func (PySem.W.fnOf "_law_refused_inputs" "_law_refused_inputs" (defArgs s_law_refused_inputs) (defBody s_law_refused_inputs) (defScope s_law_refused_inputs) .none kV_law_refused_inputs dc_law_refused_inputs pm_law_refused_inputs an_law_refused_inputs cd_law_refused_inputs ct_law_refused_inputs), sl_law_refused_inputs⟩)
    (hc_law_refused_inputs : PySem.W.codeIn K cd_law_refused_inputs "_law_refused_inputs" = true)
    (hk_law_refused_inputs : PySem.W.keepIn K (.ref v_law_refused_inputs) = true)
    (hm_law : PySem.W.nsIn K mainGlobals "law" = some (some (.ref v_law)))
    (hl_law : K.lookup v_law = some ⟨oc_law, od_law, .func (PySem.W.fnOf "law" "law" (defArgs s_law) (defBody s_law) (defScope s_law) .none kV_law dc_law pm_law an_law cd_law ct_law), sl_law⟩)
    (hc_law : PySem.W.codeIn K cd_law "law" = true)
    (hk_law : PySem.W.keepIn K (.ref v_law) = true)
    (hl_BadInputs___init__ : K.lookup v_BadInputs___init__ = some ⟨oc_BadInputs___init__, od_BadInputs___init__, .func (PySem.W.fnOf "__init__" "BadInputs.__init__" (defArgs s_BadInputs___init__) (defBody s_BadInputs___init__) (defScope s_BadInputs___init__) .none kV_BadInputs___init__ dc_BadInputs___init__ pm_BadInputs___init__ an_BadInputs___init__ cd_BadInputs___init__ ct_BadInputs___init__), sl_BadInputs___init__⟩)
    (hc_BadInputs___init__ : PySem.W.codeIn K cd_BadInputs___init__ "BadInputs.__init__" = true)
    (hk_BadInputs___init__ : PySem.W.keepIn K (.ref v_BadInputs___init__) = true)
    (hm_MOST_WIDTH : PySem.W.nsIn K mainGlobals "MOST_WIDTH" = some (some (.int 12 t_MOST_WIDTH)))
    (hm_MOST_NUMBER : PySem.W.nsIn K mainGlobals "MOST_NUMBER" = some (some (.int 4095 t_MOST_NUMBER)))
    (hm_TABLE_SIZES : PySem.W.nsIn K mainGlobals "TABLE_SIZES" = some (some (.ref p_TABLE_SIZES)))
    (tl_TABLE_SIZES : K.lookup p_TABLE_SIZES = some ⟨.type "tuple", d_TABLE_SIZES, .seq i_TABLE_SIZES n_TABLE_SIZES, s_TABLE_SIZES⟩)
    (ti_TABLE_SIZES : valsB [.int 1, .int 2, .int 4, .int 8, .int 16] i_TABLE_SIZES.toList = true)
    (tz_TABLE_SIZES : decide (i_TABLE_SIZES.size ≤ 1000) = true)
    (hm_PAIR_SIGNS : PySem.W.nsIn K mainGlobals "PAIR_SIGNS" = some (some (.ref p_PAIR_SIGNS)))
    (tl_PAIR_SIGNS : K.lookup p_PAIR_SIGNS = some ⟨.type "tuple", d_PAIR_SIGNS, .seq i_PAIR_SIGNS n_PAIR_SIGNS, s_PAIR_SIGNS⟩)
    (ti_PAIR_SIGNS : valsB [.str "+", .str "-", .str "*", .str "&", .str "|", .str "^", .str "==", .str "<"] i_PAIR_SIGNS.toList = true)
    (tz_PAIR_SIGNS : decide (i_PAIR_SIGNS.size ≤ 1000) = true)
    (hm_SHIFT_SIGNS : PySem.W.nsIn K mainGlobals "SHIFT_SIGNS" = some (some (.ref p_SHIFT_SIGNS)))
    (tl_SHIFT_SIGNS : K.lookup p_SHIFT_SIGNS = some ⟨.type "tuple", d_SHIFT_SIGNS, .seq i_SHIFT_SIGNS n_SHIFT_SIGNS, s_SHIFT_SIGNS⟩)
    (ti_SHIFT_SIGNS : valsB [.str "<<", .str ">>"] i_SHIFT_SIGNS.toList = true)
    (tz_SHIFT_SIGNS : decide (i_SHIFT_SIGNS.size ≤ 1000) = true)
    (hz_abs : PySem.W.nsIn K mainGlobals "abs" = some none)
    (hz_all : PySem.W.nsIn K mainGlobals "all" = some none)
    (hz_bool : PySem.W.nsIn K mainGlobals "bool" = some none)
    (hz_enumerate : PySem.W.nsIn K mainGlobals "enumerate" = some none)
    (hz_int : PySem.W.nsIn K mainGlobals "int" = some none)
    (hz_isinstance : PySem.W.nsIn K mainGlobals "isinstance" = some none)
    (hz_len : PySem.W.nsIn K mainGlobals "len" = some none)
    (hz_list : PySem.W.nsIn K mainGlobals "list" = some none)
    (hz_range : PySem.W.nsIn K mainGlobals "range" = some none)
    (hz_str : PySem.W.nsIn K mainGlobals "str" = some none)
    (hz_tuple : PySem.W.nsIn K mainGlobals "tuple" = some none)
    (hm_UndoError : PySem.W.nsIn K mainGlobals "UndoError" = some (some (.ref u_c_UndoError))) :
    ∃ fd : FuncData, (∀ (s : Shared) (u : Value), BindsTo s fd ⟨[u], []⟩ [("_law_script", u)]) ∧ ∀ base : Heap, K.In base → base.Ns mainGlobals mg → FnOk P w K mg base (L2.CX P w) 7 fa fd ["_law_script"] (spLaw K) := by
  have e := hfa.symm.trans (PySem.W.mg_of X G hm_law)
  cases e
  have F_is_whole := fun_mk (st := s_is_whole) hl_is_whole hc_is_whole hk_is_whole
  have b_is_whole := F_is_whole.binds (ps := ["thing"]) fun _ _ _ _ _ _ us hl => match us, hl with | [_], _ => rfl
  have F_is_within := fun_mk (st := s_is_within) hl_is_within hc_is_within hk_is_within
  have b_is_within := F_is_within.binds (ps := ["thing", "least", "most"]) fun _ _ _ _ _ _ us hl => match us, hl with | [_, _, _], _ => rfl
  have F_is_sequence := fun_mk (st := s_is_sequence) hl_is_sequence hc_is_sequence hk_is_sequence
  have b_is_sequence := F_is_sequence.binds (ps := ["thing"]) fun _ _ _ _ _ _ us hl => match us, hl with | [_], _ => rfl
  have F_check_width := fun_mk (st := s_check_width) hl_check_width hc_check_width hk_check_width
  have b_check_width := F_check_width.binds (ps := ["width"]) fun _ _ _ _ _ _ us hl => match us, hl with | [_], _ => rfl
  have F_check_inputs := fun_mk (st := s_check_inputs) hl_check_inputs hc_check_inputs hk_check_inputs
  have b_check_inputs := F_check_inputs.binds (ps := ["inputs", "many", "width"]) fun _ _ _ _ _ _ us hl => match us, hl with | [_, _, _], _ => rfl
  have F_is_number := fun_mk (st := s_is_number) hl_is_number hc_is_number hk_is_number
  have b_is_number := F_is_number.binds (ps := ["thing"]) fun _ _ _ _ _ _ us hl => match us, hl with | [_], _ => rfl
  have F_is_table := fun_mk (st := s_is_table) hl_is_table hc_is_table hk_is_table
  have b_is_table := F_is_table.binds (ps := ["numbers"]) fun _ _ _ _ _ _ us hl => match us, hl with | [_], _ => rfl
  have F_check_kind := fun_mk (st := s_check_kind) hl_check_kind hc_check_kind hk_check_kind
  have b_check_kind := F_check_kind.binds (ps := ["kind"]) fun _ _ _ _ _ _ us hl => match us, hl with | [_], _ => rfl
  have F_operand_count := fun_mk (st := s_operand_count) hl_operand_count hc_operand_count hk_operand_count
  have b_operand_count := F_operand_count.binds (ps := ["kind"]) fun _ _ _ _ _ _ us hl => match us, hl with | [_], _ => rfl
  have F_step_word := fun_mk (st := s_step_word) hl_step_word hc_step_word hk_step_word
  have b_step_word := F_step_word.binds (ps := ["kind", "words", "width"]) fun _ _ _ _ _ _ us hl => match us, hl with | [_, _, _], _ => rfl
  have F_pair_word := fun_mk (st := s_pair_word) hl_pair_word hc_pair_word hk_pair_word
  have b_pair_word := F_pair_word.binds (ps := ["sign", "one", "other"]) fun _ _ _ _ _ _ us hl => match us, hl with | [_, _, _], _ => rfl
  have F_single_word := fun_mk (st := s_single_word) hl_single_word hc_single_word hk_single_word
  have b_single_word := F_single_word.binds (ps := ["kind", "word"]) fun _ _ _ _ _ _ us hl => match us, hl with | [_, _], _ => rfl
  have F_law_hand := fun_mk (st := s_law_hand) hl_law_hand hc_law_hand hk_law_hand
  have b_law_hand := F_law_hand.binds (ps := ["_law_script"]) fun _ _ _ _ _ _ us hl => match us, hl with | [_], _ => rfl
  have F_law_mixed := fun_mk (st := s_law_mixed) hl_law_mixed hc_law_mixed hk_law_mixed
  have b_law_mixed := F_law_mixed.binds (ps := ["_law_number", "_law_turn"]) fun _ _ _ _ _ _ us hl => match us, hl with | [_, _], _ => rfl
  have F_law_take := fun_mk (st := s_law_take) hl_law_take hc_law_take hk_law_take
  have b_law_take := F_law_take.binds (ps := ["_law_hand_here", "_law_many"]) fun _ _ _ _ _ _ us hl => match us, hl with | [_, _], _ => rfl
  have F_law_whole := fun_mk (st := s_law_whole) hl_law_whole hc_law_whole hk_law_whole
  have b_law_whole := F_law_whole.binds (ps := ["_law_thing"]) fun _ _ _ _ _ _ us hl => match us, hl with | [_], _ => rfl
  have F_law_two := fun_mk (st := s_law_two) hl_law_two hc_law_two hk_law_two
  have b_law_two := F_law_two.binds (ps := ["_law_n"]) fun _ _ _ _ _ _ us hl => match us, hl with | [_], _ => rfl
  have F_law_kind := fun_mk (st := s_law_kind) hl_law_kind hc_law_kind hk_law_kind
  have b_law_kind := F_law_kind.binds (ps := ["_law_hand_here"]) fun _ _ _ _ _ _ us hl => match us, hl with | [_], _ => rfl
  have F_law_operands := fun_mk (st := s_law_operands) hl_law_operands hc_law_operands hk_law_operands
  have b_law_operands := F_law_operands.binds (ps := ["_law_kind_here"]) fun _ _ _ _ _ _ us hl => match us, hl with | [_], _ => rfl
  have F_law_bits := fun_mk (st := s_law_bits) hl_law_bits hc_law_bits hk_law_bits
  have b_law_bits := F_law_bits.binds (ps := ["_law_one", "_law_other", "_law_sign"]) fun _ _ _ _ _ _ us hl => match us, hl with | [_, _, _], _ => rfl
  have F_law_step_word := fun_mk (st := s_law_step_word) hl_law_step_word hc_law_step_word hk_law_step_word
  have b_law_step_word := F_law_step_word.binds (ps := ["_law_kind_here", "_law_words_here", "_law_width"]) fun _ _ _ _ _ _ us hl => match us, hl with | [_, _, _], _ => rfl
  have F_law_words := fun_mk (st := s_law_words) hl_law_words hc_law_words hk_law_words
  have b_law_words := F_law_words.binds (ps := ["_law_hand_here", "_law_many", "_law_width"]) fun _ _ _ _ _ _ us hl => match us, hl with | [_, _, _], _ => rfl
  have F_law_rows_of := fun_mk (st := s_law_rows_of) hl_law_rows_of hc_law_rows_of hk_law_rows_of
  have b_law_rows_of := F_law_rows_of.binds (ps := ["_law_hand_here", "_law_many", "_law_width"]) fun _ _ _ _ _ _ us hl => match us, hl with | [_, _, _], _ => rfl
  have F_law_longer := fun_mk (st := s_law_longer) hl_law_longer hc_law_longer hk_law_longer
  have b_law_longer := F_law_longer.binds (ps := ["_law_rows", "_law_end"]) fun _ _ _ _ _ _ us hl => match us, hl with | [_, _], _ => rfl
  have F_law_odd_kind := fun_mk (st := s_law_odd_kind) hl_law_odd_kind hc_law_odd_kind hk_law_odd_kind
  have b_law_odd_kind := F_law_odd_kind.binds (ps := ["_law_hand_here", "_law_at"]) fun _ _ _ _ _ _ us hl => match us, hl with | [_, _], _ => rfl
  have F_law_refused_kind := fun_mk (st := s_law_refused_kind) hl_law_refused_kind hc_law_refused_kind hk_law_refused_kind
  have b_law_refused_kind := F_law_refused_kind.binds (ps := ["_law_kind_here"]) fun _ _ _ _ _ _ us hl => match us, hl with | [_], _ => rfl
  have F_law_refused_width := fun_mk (st := s_law_refused_width) hl_law_refused_width hc_law_refused_width hk_law_refused_width
  have b_law_refused_width := F_law_refused_width.binds (ps := ["_law_width"]) fun _ _ _ _ _ _ us hl => match us, hl with | [_], _ => rfl
  have F_law_refused_inputs := fun_mk (st := s_law_refused_inputs) hl_law_refused_inputs hc_law_refused_inputs hk_law_refused_inputs
  have b_law_refused_inputs := F_law_refused_inputs.binds (ps := ["_law_inputs", "_law_many", "_law_width"]) fun _ _ _ _ _ _ us hl => match us, hl with | [_, _, _], _ => rfl
  have F_law := fun_mk (st := s_law) hl_law hc_law hk_law
  have b_law := F_law.binds (ps := ["_law_script"]) fun _ _ _ _ _ _ us hl => match us, hl with | [_], _ => rfl
  have F_BadInputs___init__ := fun_mk (st := s_BadInputs___init__) hl_BadInputs___init__ hc_BadInputs___init__ hk_BadInputs___init__
  have b_BadInputs___init__ := F_BadInputs___init__.binds (ps := ["self", "index", "what"]) fun _ _ _ _ _ _ us hl => match us, hl with | [_, _, _], _ => rfl
  have T : Txt K mg ⟨v_is_whole, (PySem.W.fnOf "is_whole" "is_whole" (defArgs s_is_whole) (defBody s_is_whole) (defScope s_is_whole) .none kV_is_whole dc_is_whole pm_is_whole an_is_whole cd_is_whole ct_is_whole), v_is_within, (PySem.W.fnOf "is_within" "is_within" (defArgs s_is_within) (defBody s_is_within) (defScope s_is_within) .none kV_is_within dc_is_within pm_is_within an_is_within cd_is_within ct_is_within), v_is_sequence, (PySem.W.fnOf "is_sequence" "is_sequence" (defArgs s_is_sequence) (defBody s_is_sequence) (defScope s_is_sequence) .none kV_is_sequence dc_is_sequence pm_is_sequence an_is_sequence cd_is_sequence ct_is_sequence), v_check_width, (PySem.W.fnOf "check_width" "check_width" (defArgs s_check_width) (defBody s_check_width) (defScope s_check_width) .none kV_check_width dc_check_width pm_check_width an_check_width cd_check_width ct_check_width), v_check_inputs, (PySem.W.fnOf "check_inputs" "check_inputs" (defArgs s_check_inputs) (defBody s_check_inputs) (defScope s_check_inputs) .none kV_check_inputs dc_check_inputs pm_check_inputs an_check_inputs cd_check_inputs ct_check_inputs), v_is_number, (PySem.W.fnOf "is_number" "is_number" (defArgs s_is_number) (defBody s_is_number) (defScope s_is_number) .none kV_is_number dc_is_number pm_is_number an_is_number cd_is_number ct_is_number), v_is_table, (PySem.W.fnOf "is_table" "is_table" (defArgs s_is_table) (defBody s_is_table) (defScope s_is_table) .none kV_is_table dc_is_table pm_is_table an_is_table cd_is_table ct_is_table), v_check_kind, (PySem.W.fnOf "check_kind" "check_kind" (defArgs s_check_kind) (defBody s_check_kind) (defScope s_check_kind) .none kV_check_kind dc_check_kind pm_check_kind an_check_kind cd_check_kind ct_check_kind), v_operand_count, (PySem.W.fnOf "operand_count" "operand_count" (defArgs s_operand_count) (defBody s_operand_count) (defScope s_operand_count) .none kV_operand_count dc_operand_count pm_operand_count an_operand_count cd_operand_count ct_operand_count), v_step_word, (PySem.W.fnOf "step_word" "step_word" (defArgs s_step_word) (defBody s_step_word) (defScope s_step_word) .none kV_step_word dc_step_word pm_step_word an_step_word cd_step_word ct_step_word), v_pair_word, (PySem.W.fnOf "pair_word" "pair_word" (defArgs s_pair_word) (defBody s_pair_word) (defScope s_pair_word) .none kV_pair_word dc_pair_word pm_pair_word an_pair_word cd_pair_word ct_pair_word), v_single_word, (PySem.W.fnOf "single_word" "single_word" (defArgs s_single_word) (defBody s_single_word) (defScope s_single_word) .none kV_single_word dc_single_word pm_single_word an_single_word cd_single_word ct_single_word), v_law_hand, (PySem.W.fnOf "_law_hand" "_law_hand" (defArgs s_law_hand) (defBody s_law_hand) (defScope s_law_hand) .none kV_law_hand dc_law_hand pm_law_hand an_law_hand cd_law_hand ct_law_hand), v_law_mixed, (PySem.W.fnOf "_law_mixed" "_law_mixed" (defArgs s_law_mixed) (defBody s_law_mixed) (defScope s_law_mixed) .none kV_law_mixed dc_law_mixed pm_law_mixed an_law_mixed cd_law_mixed ct_law_mixed), v_law_take, (PySem.W.fnOf "_law_take" "_law_take" (defArgs s_law_take) (defBody s_law_take) (defScope s_law_take) .none kV_law_take dc_law_take pm_law_take an_law_take cd_law_take ct_law_take), v_law_whole, (PySem.W.fnOf "_law_whole" "_law_whole" (defArgs s_law_whole) (defBody s_law_whole) (defScope s_law_whole) .none kV_law_whole dc_law_whole pm_law_whole an_law_whole cd_law_whole ct_law_whole), v_law_two, (PySem.W.fnOf "_law_two" "_law_two" (defArgs s_law_two) (defBody s_law_two) (defScope s_law_two) .none kV_law_two dc_law_two pm_law_two an_law_two cd_law_two ct_law_two), v_law_kind, (PySem.W.fnOf "_law_kind" "_law_kind" (defArgs s_law_kind) (defBody s_law_kind) (defScope s_law_kind) .none kV_law_kind dc_law_kind pm_law_kind an_law_kind cd_law_kind ct_law_kind), v_law_operands, (PySem.W.fnOf "_law_operands" "_law_operands" (defArgs s_law_operands) (defBody s_law_operands) (defScope s_law_operands) .none kV_law_operands dc_law_operands pm_law_operands an_law_operands cd_law_operands ct_law_operands), v_law_bits, (PySem.W.fnOf "_law_bits" "_law_bits" (defArgs s_law_bits) (defBody s_law_bits) (defScope s_law_bits) .none kV_law_bits dc_law_bits pm_law_bits an_law_bits cd_law_bits ct_law_bits), v_law_step_word, (PySem.W.fnOf "_law_step_word" "_law_step_word" (defArgs s_law_step_word) (defBody s_law_step_word) (defScope s_law_step_word) .none kV_law_step_word dc_law_step_word pm_law_step_word an_law_step_word cd_law_step_word ct_law_step_word), v_law_words, (PySem.W.fnOf "_law_words" "_law_words" (defArgs s_law_words) (defBody s_law_words) (defScope s_law_words) .none kV_law_words dc_law_words pm_law_words an_law_words cd_law_words ct_law_words), v_law_rows_of, (PySem.W.fnOf "_law_rows_of" "_law_rows_of" (defArgs s_law_rows_of) (defBody s_law_rows_of) (defScope s_law_rows_of) .none kV_law_rows_of dc_law_rows_of pm_law_rows_of an_law_rows_of cd_law_rows_of ct_law_rows_of), v_law_longer, (PySem.W.fnOf "_law_longer" "_law_longer" (defArgs s_law_longer) (defBody s_law_longer) (defScope s_law_longer) .none kV_law_longer dc_law_longer pm_law_longer an_law_longer cd_law_longer ct_law_longer), v_law_odd_kind, (PySem.W.fnOf "_law_odd_kind" "_law_odd_kind" (defArgs s_law_odd_kind) (defBody s_law_odd_kind) (defScope s_law_odd_kind) .none kV_law_odd_kind dc_law_odd_kind pm_law_odd_kind an_law_odd_kind cd_law_odd_kind ct_law_odd_kind), v_law_refused_kind, (PySem.W.fnOf "_law_refused_kind" "_law_refused_kind" (defArgs s_law_refused_kind) (defBody s_law_refused_kind) (defScope s_law_refused_kind) .none kV_law_refused_kind dc_law_refused_kind pm_law_refused_kind an_law_refused_kind cd_law_refused_kind ct_law_refused_kind), v_law_refused_width, (PySem.W.fnOf "_law_refused_width" "_law_refused_width" (defArgs s_law_refused_width) (defBody s_law_refused_width) (defScope s_law_refused_width) .none kV_law_refused_width dc_law_refused_width pm_law_refused_width an_law_refused_width cd_law_refused_width ct_law_refused_width), v_law_refused_inputs, (PySem.W.fnOf "_law_refused_inputs" "_law_refused_inputs" (defArgs s_law_refused_inputs) (defBody s_law_refused_inputs) (defScope s_law_refused_inputs) .none kV_law_refused_inputs dc_law_refused_inputs pm_law_refused_inputs an_law_refused_inputs cd_law_refused_inputs ct_law_refused_inputs), fa, (PySem.W.fnOf "law" "law" (defArgs s_law) (defBody s_law) (defScope s_law) .none kV_law dc_law pm_law an_law cd_law ct_law), u_c_UndoError, w_BadWidth, w_BadInputs, w_BadKind, v_BadInputs___init__, (PySem.W.fnOf "__init__" "BadInputs.__init__" (defArgs s_BadInputs___init__) (defBody s_BadInputs___init__) (defScope s_BadInputs___init__) .none kV_BadInputs___init__ dc_BadInputs___init__ pm_BadInputs___init__ an_BadInputs___init__ cd_BadInputs___init__ ct_BadInputs___init__), p_TABLE_SIZES, p_PAIR_SIGNS, p_SHIFT_SIGNS⟩ := ⟨PySem.W.mg_of X G hm_is_whole, F_is_whole, b_is_whole, PySem.W.mg_of X G hm_is_within, F_is_within, b_is_within, PySem.W.mg_of X G hm_is_sequence, F_is_sequence, b_is_sequence, PySem.W.mg_of X G hm_check_width, F_check_width, b_check_width, PySem.W.mg_of X G hm_check_inputs, F_check_inputs, b_check_inputs, PySem.W.mg_of X G hm_is_number, F_is_number, b_is_number, PySem.W.mg_of X G hm_is_table, F_is_table, b_is_table, PySem.W.mg_of X G hm_check_kind, F_check_kind, b_check_kind, PySem.W.mg_of X G hm_operand_count, F_operand_count, b_operand_count, PySem.W.mg_of X G hm_step_word, F_step_word, b_step_word, PySem.W.mg_of X G hm_pair_word, F_pair_word, b_pair_word, PySem.W.mg_of X G hm_single_word, F_single_word, b_single_word, PySem.W.mg_of X G hm_law_hand, F_law_hand, b_law_hand, PySem.W.mg_of X G hm_law_mixed, F_law_mixed, b_law_mixed, PySem.W.mg_of X G hm_law_take, F_law_take, b_law_take, PySem.W.mg_of X G hm_law_whole, F_law_whole, b_law_whole, PySem.W.mg_of X G hm_law_two, F_law_two, b_law_two, PySem.W.mg_of X G hm_law_kind, F_law_kind, b_law_kind, PySem.W.mg_of X G hm_law_operands, F_law_operands, b_law_operands, PySem.W.mg_of X G hm_law_bits, F_law_bits, b_law_bits, PySem.W.mg_of X G hm_law_step_word, F_law_step_word, b_law_step_word, PySem.W.mg_of X G hm_law_words, F_law_words, b_law_words, PySem.W.mg_of X G hm_law_rows_of, F_law_rows_of, b_law_rows_of, PySem.W.mg_of X G hm_law_longer, F_law_longer, b_law_longer, PySem.W.mg_of X G hm_law_odd_kind, F_law_odd_kind, b_law_odd_kind, PySem.W.mg_of X G hm_law_refused_kind, F_law_refused_kind, b_law_refused_kind, PySem.W.mg_of X G hm_law_refused_width, F_law_refused_width, b_law_refused_width, PySem.W.mg_of X G hm_law_refused_inputs, F_law_refused_inputs, b_law_refused_inputs, PySem.W.mg_of X G hm_law, F_law, b_law, PySem.W.mg_of X G hm_BadInputs, ⟨⟨_, _, _, _, _, _, _, _, _, _, _, _, _, _, _, xl_BadInputs, xv_BadInputs⟩, xs_BadInputs, xb_BadInputs, xy_BadInputs, xk_BadInputs⟩, ⟨xg_BadInputs, xh_BadInputs, xb_BadInputs, xd_BadInputs⟩, hxi_BadInputs, hxt_BadInputs, exm_self xb_BadInputs xc_BadInputs xy_BadInputs xz_BadInputs, hxn_BadInputs_index, hxn_BadInputs_what, F_BadInputs___init__, b_BadInputs___init__, PySem.W.mg_of X G hm_BadKind, xq_BadKind, xk_BadKind, xb_BadKind, xy_BadKind, exm_self xb_BadKind xc_BadKind xy_BadKind xz_BadKind, PySem.W.mg_of X G hm_BadWidth, xq_BadWidth, xk_BadWidth, xb_BadWidth, xy_BadWidth, exm_self xb_BadWidth xc_BadWidth xy_BadWidth xz_BadWidth, ⟨_, PySem.W.mg_of X G hm_MOST_WIDTH, ⟨_, rfl⟩⟩, ⟨_, PySem.W.mg_of X G hm_MOST_NUMBER, ⟨_, rfl⟩⟩, ⟨_, PySem.W.mg_of X G hm_TABLE_SIZES, rfl⟩, fun H => sqT_mk tl_TABLE_SIZES ti_TABLE_SIZES tz_TABLE_SIZES, ⟨_, PySem.W.mg_of X G hm_PAIR_SIGNS, rfl⟩, fun H => sqT_mk tl_PAIR_SIGNS ti_PAIR_SIGNS tz_PAIR_SIGNS, ⟨_, PySem.W.mg_of X G hm_SHIFT_SIGNS, rfl⟩, fun H => sqT_mk tl_SHIFT_SIGNS ti_SHIFT_SIGNS tz_SHIFT_SIGNS, PySem.W.mg_none_of X G hz_abs, PySem.W.mg_none_of X G hz_all, PySem.W.mg_none_of X G hz_bool, PySem.W.mg_none_of X G hz_enumerate, PySem.W.mg_none_of X G hz_int, PySem.W.mg_none_of X G hz_isinstance, PySem.W.mg_none_of X G hz_len, PySem.W.mg_none_of X G hz_list, PySem.W.mg_none_of X G hz_range, PySem.W.mg_none_of X G hz_str, PySem.W.mg_none_of X G hz_tuple⟩
  exact ⟨(PySem.W.fnOf "law" "law" (defArgs s_law) (defBody s_law) (defScope s_law) .none kV_law dc_law pm_law an_law cd_law ct_law), fun s u => .of_eq rfl, fun base _ _ => ok_law T⟩
theorem walk {l : PySem.W.OpenLaw} {q : Program} {loose : List Str} {XP : (Str → Option Value) → Heap → Prop} {YP : World → Heap → Prop} {d : DefRec} {K : Params → PySem.W.Frag} (hn : l.most = some 63) (hdf : d.params.defaults = [])
    (hY : ∀ (w : World) (h : Heap), YP w h → (K w.params).In h)
    (F : ∀ (w : World) (mg : Str → Option Value) (fa : Addr) (h : Heap), (K w.params).In h → h.Ns mainGlobals mg → mg d.name = some (.ref fa) →
      ∃ fd : FuncData, (∀ (s : Shared) (u : Value), BindsTo s fd ⟨[u], []⟩ [("_law_script", u)]) ∧ ∀ base : Heap, (K w.params).In base → base.Ns mainGlobals mg → FnOk l.prog w (K w.params) mg base (L2.CX l.prog w) 7 fa fd ["_law_script"] (spLaw (K w.params))) :
    PySem.W.WalkO q loose XP YP l.row.toRowW d [] (fun f vs => PySem.call f vs) :=
  L2.walk_of (n := 63) (k := 7) (x := "_law_script") (CX := (fun w => L2.CX l.prog w)) (sp := fun w => spLaw (K w.params)) hn (by decide) hdf ⟨rfl, by decide, by decide⟩ hY F (fun _ _ a ns hl _ hS => ⟨a, ns, rfl, hS, hl, fun _ => rfl⟩) fun _ _ _ _ _ ⟨_, _, _, _, _, _, _, _, _, _, _, _, z⟩ => z
end My
open PySem PySem.W PyProof.Rows in
set_option maxRecDepth 100000 in
set_option maxHeartbeats 0 in
theorem PySem.Challenge.cw_undocells_k03_words_of_steps_holds : PySem.Challenge.rw_undocells_k03_words_of_steps.Holds := by
  w_on; o_law; k_head; (case hw => w_witness2)
  k_fill
  refine My.walk (l := PySem.Challenge.rw_undocells_k03_words_of_steps) rfl rfl (fun w h Y => PySem.W.kIn_of Y) ?F
  case F =>
    intro w mg fa h KX G hmg
    refine' My.all_mk KX G hmg ?hm_BadInputs ?hm_BadKind ?hm_BadWidth ?xl_BadInputs ?xv_BadInputs ?xs_BadInputs ?xg_BadInputs ?xh_BadInputs ?xk_BadInputs ?xb_BadInputs ?xy_BadInputs ?xd_BadInputs ?xc_BadInputs ?xz_BadInputs ?xq_BadKind ?xk_BadKind ?xb_BadKind ?xy_BadKind ?xc_BadKind ?xz_BadKind ?xq_BadWidth ?xk_BadWidth ?xb_BadWidth ?xy_BadWidth ?xc_BadWidth ?xz_BadWidth ?hxi_BadInputs ?hxt_BadInputs ?hxn_BadInputs_index ?hxn_BadInputs_what ?hm_is_whole ?hl_is_whole ?hc_is_whole ?hk_is_whole ?hm_is_within ?hl_is_within ?hc_is_within ?hk_is_within ?hm_is_sequence ?hl_is_sequence ?hc_is_sequence ?hk_is_sequence ?hm_check_width ?hl_check_width ?hc_check_width ?hk_check_width ?hm_check_inputs ?hl_check_inputs ?hc_check_inputs ?hk_check_inputs ?hm_is_number ?hl_is_number ?hc_is_number ?hk_is_number ?hm_is_table ?hl_is_table ?hc_is_table ?hk_is_table ?hm_check_kind ?hl_check_kind ?hc_check_kind ?hk_check_kind ?hm_operand_count ?hl_operand_count ?hc_operand_count ?hk_operand_count ?hm_step_word ?hl_step_word ?hc_step_word ?hk_step_word ?hm_pair_word ?hl_pair_word ?hc_pair_word ?hk_pair_word ?hm_single_word ?hl_single_word ?hc_single_word ?hk_single_word ?hm_law_hand ?hl_law_hand ?hc_law_hand ?hk_law_hand ?hm_law_mixed ?hl_law_mixed ?hc_law_mixed ?hk_law_mixed ?hm_law_take ?hl_law_take ?hc_law_take ?hk_law_take ?hm_law_whole ?hl_law_whole ?hc_law_whole ?hk_law_whole ?hm_law_two ?hl_law_two ?hc_law_two ?hk_law_two ?hm_law_kind ?hl_law_kind ?hc_law_kind ?hk_law_kind ?hm_law_operands ?hl_law_operands ?hc_law_operands ?hk_law_operands ?hm_law_bits ?hl_law_bits ?hc_law_bits ?hk_law_bits ?hm_law_step_word ?hl_law_step_word ?hc_law_step_word ?hk_law_step_word ?hm_law_words ?hl_law_words ?hc_law_words ?hk_law_words ?hm_law_rows_of ?hl_law_rows_of ?hc_law_rows_of ?hk_law_rows_of ?hm_law_longer ?hl_law_longer ?hc_law_longer ?hk_law_longer ?hm_law_odd_kind ?hl_law_odd_kind ?hc_law_odd_kind ?hk_law_odd_kind ?hm_law_refused_kind ?hl_law_refused_kind ?hc_law_refused_kind ?hk_law_refused_kind ?hm_law_refused_width ?hl_law_refused_width ?hc_law_refused_width ?hk_law_refused_width ?hm_law_refused_inputs ?hl_law_refused_inputs ?hc_law_refused_inputs ?hk_law_refused_inputs ?hm_law ?hl_law ?hc_law ?hk_law ?hl_BadInputs___init__ ?hc_BadInputs___init__ ?hk_BadInputs___init__ ?hm_MOST_WIDTH ?hm_MOST_NUMBER ?hm_TABLE_SIZES ?tl_TABLE_SIZES ?ti_TABLE_SIZES ?tz_TABLE_SIZES ?hm_PAIR_SIGNS ?tl_PAIR_SIGNS ?ti_PAIR_SIGNS ?tz_PAIR_SIGNS ?hm_SHIFT_SIGNS ?tl_SHIFT_SIGNS ?ti_SHIFT_SIGNS ?tz_SHIFT_SIGNS ?hz_abs ?hz_all ?hz_bool ?hz_enumerate ?hz_int ?hz_isinstance ?hz_len ?hz_list ?hz_range ?hz_str ?hz_tuple ?hm_UndoError
    (case hm_BadInputs => k_is)
    (case hm_BadKind => k_is)
    (case hm_BadWidth => k_is)
    (case xl_BadInputs => k_is)
    (case xv_BadInputs => decide +kernel)
    (case xs_BadInputs => k_is)
    (case xg_BadInputs => k_is)
    (case xh_BadInputs => k_is)
    (case xk_BadInputs => k_is)
    (case xb_BadInputs => k_is)
    (case xy_BadInputs => k_is)
    (case xd_BadInputs => k_is)
    (case xc_BadInputs => k_is)
    (case xz_BadInputs => first | rfl | k_is)
    (case xq_BadKind => k_exc)
    (case xk_BadKind => k_is)
    (case xb_BadKind => k_is)
    (case xy_BadKind => k_is)
    (case xc_BadKind => k_is)
    (case xz_BadKind => first | rfl | k_is)
    (case xq_BadWidth => k_exc)
    (case xk_BadWidth => k_is)
    (case xb_BadWidth => k_is)
    (case xy_BadWidth => k_is)
    (case xc_BadWidth => k_is)
    (case xz_BadWidth => first | rfl | k_is)
    (case hxi_BadInputs => k_is)
    (case hxt_BadInputs => k_is)
    (case hxn_BadInputs_index => k_is)
    (case hxn_BadInputs_what => k_is)
    (case hm_is_whole => k_is)
    (case hl_is_whole => k_is)
    (case hc_is_whole => k_is)
    (case hk_is_whole => k_is)
    (case hm_is_within => k_is)
    (case hl_is_within => k_is)
    (case hc_is_within => k_is)
    (case hk_is_within => k_is)
    (case hm_is_sequence => k_is)
    (case hl_is_sequence => k_is)
    (case hc_is_sequence => k_is)
    (case hk_is_sequence => k_is)
    (case hm_check_width => k_is)
    (case hl_check_width => k_is)
    (case hc_check_width => k_is)
    (case hk_check_width => k_is)
    (case hm_check_inputs => k_is)
    (case hl_check_inputs => k_is)
    (case hc_check_inputs => k_is)
    (case hk_check_inputs => k_is)
    (case hm_is_number => k_is)
    (case hl_is_number => k_is)
    (case hc_is_number => k_is)
    (case hk_is_number => k_is)
    (case hm_is_table => k_is)
    (case hl_is_table => k_is)
    (case hc_is_table => k_is)
    (case hk_is_table => k_is)
    (case hm_check_kind => k_is)
    (case hl_check_kind => k_is)
    (case hc_check_kind => k_is)
    (case hk_check_kind => k_is)
    (case hm_operand_count => k_is)
    (case hl_operand_count => k_is)
    (case hc_operand_count => k_is)
    (case hk_operand_count => k_is)
    (case hm_step_word => k_is)
    (case hl_step_word => k_is)
    (case hc_step_word => k_is)
    (case hk_step_word => k_is)
    (case hm_pair_word => k_is)
    (case hl_pair_word => k_is)
    (case hc_pair_word => k_is)
    (case hk_pair_word => k_is)
    (case hm_single_word => k_is)
    (case hl_single_word => k_is)
    (case hc_single_word => k_is)
    (case hk_single_word => k_is)
    (case hm_law_hand => k_is)
    (case hl_law_hand => k_is)
    (case hc_law_hand => k_is)
    (case hk_law_hand => k_is)
    (case hm_law_mixed => k_is)
    (case hl_law_mixed => k_is)
    (case hc_law_mixed => k_is)
    (case hk_law_mixed => k_is)
    (case hm_law_take => k_is)
    (case hl_law_take => k_is)
    (case hc_law_take => k_is)
    (case hk_law_take => k_is)
    (case hm_law_whole => k_is)
    (case hl_law_whole => k_is)
    (case hc_law_whole => k_is)
    (case hk_law_whole => k_is)
    (case hm_law_two => k_is)
    (case hl_law_two => k_is)
    (case hc_law_two => k_is)
    (case hk_law_two => k_is)
    (case hm_law_kind => k_is)
    (case hl_law_kind => k_is)
    (case hc_law_kind => k_is)
    (case hk_law_kind => k_is)
    (case hm_law_operands => k_is)
    (case hl_law_operands => k_is)
    (case hc_law_operands => k_is)
    (case hk_law_operands => k_is)
    (case hm_law_bits => k_is)
    (case hl_law_bits => k_is)
    (case hc_law_bits => k_is)
    (case hk_law_bits => k_is)
    (case hm_law_step_word => k_is)
    (case hl_law_step_word => k_is)
    (case hc_law_step_word => k_is)
    (case hk_law_step_word => k_is)
    (case hm_law_words => k_is)
    (case hl_law_words => k_is)
    (case hc_law_words => k_is)
    (case hk_law_words => k_is)
    (case hm_law_rows_of => k_is)
    (case hl_law_rows_of => k_is)
    (case hc_law_rows_of => k_is)
    (case hk_law_rows_of => k_is)
    (case hm_law_longer => k_is)
    (case hl_law_longer => k_is)
    (case hc_law_longer => k_is)
    (case hk_law_longer => k_is)
    (case hm_law_odd_kind => k_is)
    (case hl_law_odd_kind => k_is)
    (case hc_law_odd_kind => k_is)
    (case hk_law_odd_kind => k_is)
    (case hm_law_refused_kind => k_is)
    (case hl_law_refused_kind => k_is)
    (case hc_law_refused_kind => k_is)
    (case hk_law_refused_kind => k_is)
    (case hm_law_refused_width => k_is)
    (case hl_law_refused_width => k_is)
    (case hc_law_refused_width => k_is)
    (case hk_law_refused_width => k_is)
    (case hm_law_refused_inputs => k_is)
    (case hl_law_refused_inputs => k_is)
    (case hc_law_refused_inputs => k_is)
    (case hk_law_refused_inputs => k_is)
    (case hm_law => k_is)
    (case hl_law => k_is)
    (case hc_law => k_is)
    (case hk_law => k_is)
    (case hl_BadInputs___init__ => k_is)
    (case hc_BadInputs___init__ => k_is)
    (case hk_BadInputs___init__ => k_is)
    (case hm_MOST_WIDTH => k_is)
    (case hm_MOST_NUMBER => k_is)
    (case hm_TABLE_SIZES => k_is)
    (case tl_TABLE_SIZES => k_is)
    (case ti_TABLE_SIZES => decide +kernel)
    (case tz_TABLE_SIZES => decide +kernel)
    (case hm_PAIR_SIGNS => k_is)
    (case tl_PAIR_SIGNS => k_is)
    (case ti_PAIR_SIGNS => decide +kernel)
    (case tz_PAIR_SIGNS => decide +kernel)
    (case hm_SHIFT_SIGNS => k_is)
    (case tl_SHIFT_SIGNS => k_is)
    (case ti_SHIFT_SIGNS => decide +kernel)
    (case tz_SHIFT_SIGNS => decide +kernel)
    (case hz_abs => k_is)
    (case hz_all => k_is)
    (case hz_bool => k_is)
    (case hz_enumerate => k_is)
    (case hz_int => k_is)
    (case hz_isinstance => k_is)
    (case hz_len => k_is)
    (case hz_list => k_is)
    (case hz_range => k_is)
    (case hz_str => k_is)
    (case hz_tuple => k_is)
    (case hm_UndoError => k_is)
#print axioms PySem.Challenge.cw_undocells_k03_words_of_steps_holds
