import PyProof.Rows.All
import Wide.All
import OpenK.AllK
import Wide.FinOn
import HandS.ForMost
import HandS.Exc
import HandS.TryOnly
import HandS.ExcOwn
import HandS.WordsExc
import HandS.ExcInit
import HandS.ExcField
import HandS.IsInst
import HandS.Evl
import HandS.Deep
import HandS.WideBits
import HandS.Codes
import PySem.Challenge.RW_undocells_k93_whole_expressions_and_toke
import HandS.Flt
import HandS.More
import HandS.RaiseMore
set_option Elab.async false
set_option linter.all false
set_option maxRecDepth 100000
set_option maxHeartbeats 4000000
namespace My
open PySem PySem.Spec PyProof.Rows L2
def top (i : Nat) : Stmt := PySem.Challenge.pw_undocells_k93_whole_expressions_and_toke.main.body.getD i (.Pass ⟨0, 0, 0, 0⟩)
abbrev s_cut_text : Stmt := top 14
theorem sc_cut_text : FnScope ["text", "most", "tokens", "brackets", "spot", "token", "length"] ["text", "most"] (defScope s_cut_text) := ⟨rfl, rfl, rfl, by decide +kernel, rfl, by decide +kernel, by decide +kernel⟩
abbrev s_cut_token : Stmt := top 15
theorem sc_cut_token : FnScope ["text", "spot", "sign"] ["text", "spot"] (defScope s_cut_token) := ⟨rfl, rfl, rfl, by decide +kernel, rfl, by decide +kernel, by decide +kernel⟩
abbrev s_row_of : Stmt := top 16
theorem sc_row_of : FnScope ["text", "spot", "letters", "behind"] ["text", "spot", "letters"] (defScope s_row_of) := ⟨rfl, rfl, rfl, by decide +kernel, rfl, by decide +kernel, by decide +kernel⟩
abbrev s_cut_word : Stmt := top 17
theorem sc_cut_word : FnScope ["text", "spot", "word"] ["text", "spot"] (defScope s_cut_word) := ⟨rfl, rfl, rfl, by decide +kernel, rfl, by decide +kernel, by decide +kernel⟩
abbrev s_cut_number : Stmt := top 18
theorem sc_cut_number : FnScope ["text", "spot", "figures"] ["text", "spot"] (defScope s_cut_number) := ⟨rfl, rfl, rfl, by decide +kernel, rfl, by decide +kernel, by decide +kernel⟩
abbrev s_brackets_behind : Stmt := top 19
theorem sc_brackets_behind : FnScope ["token", "brackets", "_", "value", "spot"] ["token", "brackets"] (defScope s_brackets_behind) := ⟨rfl, rfl, rfl, by decide +kernel, rfl, by decide +kernel, by decide +kernel⟩
abbrev s_is_sign : Stmt := top 20
theorem sc_is_sign : FnScope ["token", "value"] ["token", "value"] (defScope s_is_sign) := ⟨rfl, rfl, rfl, by decide +kernel, rfl, by decide +kernel, by decide +kernel⟩
abbrev s_take_sign : Stmt := top 21
theorem sc_take_sign : FnScope ["tokens", "at", "value"] ["tokens", "at", "value"] (defScope s_take_sign) := ⟨rfl, rfl, rfl, by decide +kernel, rfl, by decide +kernel, by decide +kernel⟩
abbrev s_take_name : Stmt := top 22
theorem sc_take_name : FnScope ["tokens", "at", "kind", "name", "spot"] ["tokens", "at"] (defScope s_take_name) := ⟨rfl, rfl, rfl, by decide +kernel, rfl, by decide +kernel, by decide +kernel⟩
abbrev s_take_number : Stmt := top 23
theorem sc_take_number : FnScope ["tokens", "at", "kind", "number", "spot"] ["tokens", "at"] (defScope s_take_number) := ⟨rfl, rfl, rfl, by decide +kernel, rfl, by decide +kernel, by decide +kernel⟩
abbrev s_check_depth : Stmt := top 27
theorem sc_check_depth : FnScope ["depth", "spot"] ["depth", "spot"] (defScope s_check_depth) := ⟨rfl, rfl, rfl, by decide +kernel, rfl, by decide +kernel, by decide +kernel⟩
abbrev s_read_expression : Stmt := top 28
theorem sc_read_expression : FnScope ["tokens", "at", "names", "funs", "expression", "_"] ["tokens", "at", "names", "funs"] (defScope s_read_expression) := ⟨rfl, rfl, rfl, by decide +kernel, rfl, by decide +kernel, by decide +kernel⟩
abbrev s_read_deep : Stmt := top 29
theorem sc_read_deep : FnScope ["tokens", "at", "names", "funs", "least", "one", "depth", "_", "sign", "spot", "number", "other", "other_depth"] ["tokens", "at", "names", "funs", "least"] (defScope s_read_deep) := ⟨rfl, rfl, rfl, by decide +kernel, rfl, by decide +kernel, by decide +kernel⟩
abbrev s_read_part : Stmt := top 30
theorem sc_read_part : FnScope ["tokens", "at", "names", "funs", "kind", "value", "_", "expression", "depth"] ["tokens", "at", "names", "funs"] (defScope s_read_part) := ⟨rfl, rfl, rfl, by decide +kernel, rfl, by decide +kernel, by decide +kernel⟩
abbrev s_read_named : Stmt := top 31
theorem sc_read_named : FnScope ["tokens", "at", "names", "funs", "_", "name", "spot"] ["tokens", "at", "names", "funs"] (defScope s_read_named) := ⟨rfl, rfl, rfl, by decide +kernel, rfl, by decide +kernel, by decide +kernel⟩
abbrev s_read_call : Stmt := top 32
theorem sc_read_call : FnScope ["tokens", "at", "names", "funs", "_", "name", "spot", "found", "parts", "depth", "many", "fun_depth", "fun"] ["tokens", "at", "names", "funs"] (defScope s_read_call) := ⟨rfl, rfl, rfl, by decide +kernel, rfl, by decide +kernel, by decide +kernel⟩
abbrev s_read_parts : Stmt := top 33
theorem sc_read_parts : FnScope ["tokens", "at", "names", "funs", "parts", "greatest", "part", "depth"] ["tokens", "at", "names", "funs"] (defScope s_read_parts) := ⟨rfl, rfl, rfl, by decide +kernel, rfl, by decide +kernel, by decide +kernel⟩
abbrev s_read_pick : Stmt := top 34
theorem sc_read_pick : FnScope ["tokens", "at", "names", "funs", "spot", "one", "one_depth", "two", "two_depth", "three", "three_depth", "depth"] ["tokens", "at", "names", "funs"] (defScope s_read_pick) := ⟨rfl, rfl, rfl, by decide +kernel, rfl, by decide +kernel, by decide +kernel⟩
abbrev s_read_table : Stmt := top 35
theorem sc_read_table : FnScope ["tokens", "at", "names", "funs", "spot", "numbers", "part", "depth"] ["tokens", "at", "names", "funs"] (defScope s_read_table) := ⟨rfl, rfl, rfl, by decide +kernel, rfl, by decide +kernel, by decide +kernel⟩
abbrev s_read_numbers : Stmt := top 36
theorem sc_read_numbers : FnScope ["tokens", "at", "number", "numbers", "behind"] ["tokens", "at"] (defScope s_read_numbers) := ⟨rfl, rfl, rfl, by decide +kernel, rfl, by decide +kernel, by decide +kernel⟩
abbrev s_law_hand : Stmt := top 38
theorem sc_law_hand : FnScope ["_law_script", "_law_total", "_law_cells", "_law_cell"] ["_law_script"] (defScope s_law_hand) := ⟨rfl, rfl, rfl, by decide +kernel, rfl, by decide +kernel, by decide +kernel⟩
abbrev s_law_mixed : Stmt := top 39
theorem sc_law_mixed : FnScope ["_law_number", "_law_turn", "_law_once", "_law_twice"] ["_law_number", "_law_turn"] (defScope s_law_mixed) := ⟨rfl, rfl, rfl, by decide +kernel, rfl, by decide +kernel, by decide +kernel⟩
abbrev s_law_take : Stmt := top 40
theorem sc_law_take : FnScope ["_law_hand_here", "_law_many", "_law_cell", "_law_rest"] ["_law_hand_here", "_law_many"] (defScope s_law_take) := ⟨rfl, rfl, rfl, by decide +kernel, rfl, by decide +kernel, by decide +kernel⟩
abbrev s_law_whole : Stmt := top 41
theorem sc_law_whole : FnScope ["_law_thing"] ["_law_thing"] (defScope s_law_whole) := ⟨rfl, rfl, rfl, by decide +kernel, rfl, by decide +kernel, by decide +kernel⟩
abbrev s_law_two : Stmt := top 42
theorem sc_law_two : FnScope ["_law_n", "_law_total", "_law_k"] ["_law_n"] (defScope s_law_two) := ⟨rfl, rfl, rfl, by decide +kernel, rfl, by decide +kernel, by decide +kernel⟩
abbrev s_law_kind : Stmt := top 43
theorem sc_law_kind : FnScope ["_law_hand_here", "_law_at", "_law_k"] ["_law_hand_here"] (defScope s_law_kind) := ⟨rfl, rfl, rfl, by decide +kernel, rfl, by decide +kernel, by decide +kernel⟩
abbrev s_law_operands : Stmt := top 44
theorem sc_law_operands : FnScope ["_law_kind_here"] ["_law_kind_here"] (defScope s_law_operands) := ⟨rfl, rfl, rfl, by decide +kernel, rfl, by decide +kernel, by decide +kernel⟩
abbrev s_law_name : Stmt := top 45
theorem sc_law_name : FnScope ["_law_hand_here", "_law_count", "_law_letters", "_law_k"] ["_law_hand_here", "_law_count"] (defScope s_law_name) := ⟨rfl, rfl, rfl, by decide +kernel, rfl, by decide +kernel, by decide +kernel⟩
abbrev s_law_expression : Stmt := top 46
theorem sc_law_expression : FnScope ["_law_hand_here", "_law_names", "_law_funs", "_law_depth", "_law_at", "_law_called", "_law_kind_here", "_law_k"] ["_law_hand_here", "_law_names", "_law_funs", "_law_depth"] (defScope s_law_expression) := ⟨rfl, rfl, rfl, by decide +kernel, rfl, by decide +kernel, by decide +kernel⟩
abbrev s_law_expression_text : Stmt := top 47
theorem sc_law_expression_text : FnScope ["_law_part", "_law_inner", "_law_head", "_law_other", "_law_number"] ["_law_part"] (defScope s_law_expression_text) := ⟨rfl, rfl, rfl, by decide +kernel, rfl, by decide +kernel, by decide +kernel⟩
abbrev s_law_read_told : Stmt := top 48
theorem sc_law_read_told : FnScope ["_law_tokens", "_law_at", "_law_names", "_law_funs", "_law_told", "e"] ["_law_tokens", "_law_at", "_law_names", "_law_funs"] (defScope s_law_read_told) := ⟨rfl, rfl, rfl, by decide +kernel, rfl, by decide +kernel, by decide +kernel⟩
abbrev s_law_sign_told : Stmt := top 49
theorem sc_law_sign_told : FnScope ["_law_tokens", "_law_at", "_law_value", "_law_told", "e"] ["_law_tokens", "_law_at", "_law_value"] (defScope s_law_sign_told) := ⟨rfl, rfl, rfl, by decide +kernel, rfl, by decide +kernel, by decide +kernel⟩
abbrev s_law_name_told : Stmt := top 50
theorem sc_law_name_told : FnScope ["_law_tokens", "_law_at", "_law_told", "e"] ["_law_tokens", "_law_at"] (defScope s_law_name_told) := ⟨rfl, rfl, rfl, by decide +kernel, rfl, by decide +kernel, by decide +kernel⟩
abbrev s_law_tokens_right : Stmt := top 51
theorem sc_law_tokens_right : FnScope ["_law_tokens", "_law_at", "_law_kind_here", "_law_value", "_law_spot", "_law_wanted", "_law_due"] ["_law_tokens", "_law_at"] (defScope s_law_tokens_right) := ⟨rfl, rfl, rfl, by decide +kernel, rfl, by decide +kernel, by decide +kernel⟩
abbrev s_law_spoiled : Stmt := top 52
theorem sc_law_spoiled : FnScope ["_law_hand_here", "_law_names", "_law_funs", "_law_one", "_law_rows", "_law_called", "_law_handed", "_law_k"] ["_law_hand_here", "_law_names", "_law_funs"] (defScope s_law_spoiled) := ⟨rfl, rfl, rfl, by decide +kernel, rfl, by decide +kernel, by decide +kernel⟩
abbrev s_law : Stmt := top 53
theorem sc_law : FnScope ["_law_script", "_law_hand_here", "_law_count", "_law_names", "_law_funs", "_law_k", "_law_part", "_law_written", "_law_head", "_law_tail", "_law_tokens", "_law_at", "_law_behind", "_law_told", "_law_place", "_law_bad", "_law_offset", "_law_where", "_law_what", "_law_spoiled_here", "_law_due", "_law_deep", "_law_fun"] ["_law_script"] (defScope s_law) := ⟨rfl, rfl, rfl, by decide +kernel, rfl, by decide +kernel, by decide +kernel⟩
abbrev s_BadText___init__ : Stmt := inClass (top 2) 0
theorem sc_BadText___init__ : FnScope ["self", "spot", "what"] ["self", "spot", "what"] (defScope s_BadText___init__) := ⟨rfl, rfl, rfl, by decide +kernel, rfl, by decide +kernel, by decide +kernel⟩
abbrev s_BadName___init__ : Stmt := inClass (top 3) 0
theorem sc_BadName___init__ : FnScope ["self", "spot", "what"] ["self", "spot", "what"] (defScope s_BadName___init__) := ⟨rfl, rfl, rfl, by decide +kernel, rfl, by decide +kernel, by decide +kernel⟩
structure Ad where
  f_cut_text : Addr
  d_cut_text : FuncData
  f_cut_token : Addr
  d_cut_token : FuncData
  f_row_of : Addr
  d_row_of : FuncData
  f_cut_word : Addr
  d_cut_word : FuncData
  f_cut_number : Addr
  d_cut_number : FuncData
  f_brackets_behind : Addr
  d_brackets_behind : FuncData
  f_is_sign : Addr
  d_is_sign : FuncData
  f_take_sign : Addr
  d_take_sign : FuncData
  f_take_name : Addr
  d_take_name : FuncData
  f_take_number : Addr
  d_take_number : FuncData
  f_check_depth : Addr
  d_check_depth : FuncData
  f_read_expression : Addr
  d_read_expression : FuncData
  f_read_deep : Addr
  d_read_deep : FuncData
  f_read_part : Addr
  d_read_part : FuncData
  f_read_named : Addr
  d_read_named : FuncData
  f_read_call : Addr
  d_read_call : FuncData
  f_read_parts : Addr
  d_read_parts : FuncData
  f_read_pick : Addr
  d_read_pick : FuncData
  f_read_table : Addr
  d_read_table : FuncData
  f_read_numbers : Addr
  d_read_numbers : FuncData
  f_law_hand : Addr
  d_law_hand : FuncData
  f_law_mixed : Addr
  d_law_mixed : FuncData
  f_law_take : Addr
  d_law_take : FuncData
  f_law_whole : Addr
  d_law_whole : FuncData
  f_law_two : Addr
  d_law_two : FuncData
  f_law_kind : Addr
  d_law_kind : FuncData
  f_law_operands : Addr
  d_law_operands : FuncData
  f_law_name : Addr
  d_law_name : FuncData
  f_law_expression : Addr
  d_law_expression : FuncData
  f_law_expression_text : Addr
  d_law_expression_text : FuncData
  f_law_read_told : Addr
  d_law_read_told : FuncData
  f_law_sign_told : Addr
  d_law_sign_told : FuncData
  f_law_name_told : Addr
  d_law_name_told : FuncData
  f_law_tokens_right : Addr
  d_law_tokens_right : FuncData
  f_law_spoiled : Addr
  d_law_spoiled : FuncData
  f_law : Addr
  d_law : FuncData
  c_UndoError : Addr
  c_BadText : Addr
  c_BadName : Addr
  f_BadText___init__ : Addr
  d_BadText___init__ : FuncData
  f_BadName___init__ : Addr
  d_BadName___init__ : FuncData
  p_TABLE_SIZES : Addr
  p_SHIFT_SIGNS : Addr
  p_KEYWORDS : Addr
  p_SIGNS : Addr
  p_STRENGTHS : Addr
structure Txt (K : PySem.W.Frag) (mg : Str → Option Value) (a : Ad) : Prop where
  m_cut_text : mg "cut_text" = some (.ref a.f_cut_text)
  F_cut_text : Fun K "cut_text" "cut_text" s_cut_text a.f_cut_text a.d_cut_text
  b_cut_text : Binds K a.d_cut_text ["text", "most"] []
  m_cut_token : mg "cut_token" = some (.ref a.f_cut_token)
  F_cut_token : Fun K "cut_token" "cut_token" s_cut_token a.f_cut_token a.d_cut_token
  b_cut_token : Binds K a.d_cut_token ["text", "spot"] []
  m_row_of : mg "row_of" = some (.ref a.f_row_of)
  F_row_of : Fun K "row_of" "row_of" s_row_of a.f_row_of a.d_row_of
  b_row_of : Binds K a.d_row_of ["text", "spot", "letters"] []
  m_cut_word : mg "cut_word" = some (.ref a.f_cut_word)
  F_cut_word : Fun K "cut_word" "cut_word" s_cut_word a.f_cut_word a.d_cut_word
  b_cut_word : Binds K a.d_cut_word ["text", "spot"] []
  m_cut_number : mg "cut_number" = some (.ref a.f_cut_number)
  F_cut_number : Fun K "cut_number" "cut_number" s_cut_number a.f_cut_number a.d_cut_number
  b_cut_number : Binds K a.d_cut_number ["text", "spot"] []
  m_brackets_behind : mg "brackets_behind" = some (.ref a.f_brackets_behind)
  F_brackets_behind : Fun K "brackets_behind" "brackets_behind" s_brackets_behind a.f_brackets_behind a.d_brackets_behind
  b_brackets_behind : Binds K a.d_brackets_behind ["token", "brackets"] []
  m_is_sign : mg "is_sign" = some (.ref a.f_is_sign)
  F_is_sign : Fun K "is_sign" "is_sign" s_is_sign a.f_is_sign a.d_is_sign
  b_is_sign : Binds K a.d_is_sign ["token", "value"] []
  m_take_sign : mg "take_sign" = some (.ref a.f_take_sign)
  F_take_sign : Fun K "take_sign" "take_sign" s_take_sign a.f_take_sign a.d_take_sign
  b_take_sign : Binds K a.d_take_sign ["tokens", "at", "value"] []
  m_take_name : mg "take_name" = some (.ref a.f_take_name)
  F_take_name : Fun K "take_name" "take_name" s_take_name a.f_take_name a.d_take_name
  b_take_name : Binds K a.d_take_name ["tokens", "at"] []
  m_take_number : mg "take_number" = some (.ref a.f_take_number)
  F_take_number : Fun K "take_number" "take_number" s_take_number a.f_take_number a.d_take_number
  b_take_number : Binds K a.d_take_number ["tokens", "at"] []
  m_check_depth : mg "check_depth" = some (.ref a.f_check_depth)
  F_check_depth : Fun K "check_depth" "check_depth" s_check_depth a.f_check_depth a.d_check_depth
  b_check_depth : Binds K a.d_check_depth ["depth", "spot"] []
  m_read_expression : mg "read_expression" = some (.ref a.f_read_expression)
  F_read_expression : Fun K "read_expression" "read_expression" s_read_expression a.f_read_expression a.d_read_expression
  b_read_expression : Binds K a.d_read_expression ["tokens", "at", "names", "funs"] []
  m_read_deep : mg "read_deep" = some (.ref a.f_read_deep)
  F_read_deep : Fun K "read_deep" "read_deep" s_read_deep a.f_read_deep a.d_read_deep
  b_read_deep : Binds K a.d_read_deep ["tokens", "at", "names", "funs", "least"] []
  m_read_part : mg "read_part" = some (.ref a.f_read_part)
  F_read_part : Fun K "read_part" "read_part" s_read_part a.f_read_part a.d_read_part
  b_read_part : Binds K a.d_read_part ["tokens", "at", "names", "funs"] []
  m_read_named : mg "read_named" = some (.ref a.f_read_named)
  F_read_named : Fun K "read_named" "read_named" s_read_named a.f_read_named a.d_read_named
  b_read_named : Binds K a.d_read_named ["tokens", "at", "names", "funs"] []
  m_read_call : mg "read_call" = some (.ref a.f_read_call)
  F_read_call : Fun K "read_call" "read_call" s_read_call a.f_read_call a.d_read_call
  b_read_call : Binds K a.d_read_call ["tokens", "at", "names", "funs"] []
  m_read_parts : mg "read_parts" = some (.ref a.f_read_parts)
  F_read_parts : Fun K "read_parts" "read_parts" s_read_parts a.f_read_parts a.d_read_parts
  b_read_parts : Binds K a.d_read_parts ["tokens", "at", "names", "funs"] []
  m_read_pick : mg "read_pick" = some (.ref a.f_read_pick)
  F_read_pick : Fun K "read_pick" "read_pick" s_read_pick a.f_read_pick a.d_read_pick
  b_read_pick : Binds K a.d_read_pick ["tokens", "at", "names", "funs"] []
  m_read_table : mg "read_table" = some (.ref a.f_read_table)
  F_read_table : Fun K "read_table" "read_table" s_read_table a.f_read_table a.d_read_table
  b_read_table : Binds K a.d_read_table ["tokens", "at", "names", "funs"] []
  m_read_numbers : mg "read_numbers" = some (.ref a.f_read_numbers)
  F_read_numbers : Fun K "read_numbers" "read_numbers" s_read_numbers a.f_read_numbers a.d_read_numbers
  b_read_numbers : Binds K a.d_read_numbers ["tokens", "at"] []
  m_law_hand : mg "_law_hand" = some (.ref a.f_law_hand)
  F_law_hand : Fun K "_law_hand" "_law_hand" s_law_hand a.f_law_hand a.d_law_hand
  b_law_hand : Binds K a.d_law_hand ["_law_script"] []
  m_law_mixed : mg "_law_mixed" = some (.ref a.f_law_mixed)
  F_law_mixed : Fun K "_law_mixed" "_law_mixed" s_law_mixed a.f_law_mixed a.d_law_mixed
  b_law_mixed : Binds K a.d_law_mixed ["_law_number", "_law_turn"] []
  m_law_take : mg "_law_take" = some (.ref a.f_law_take)
  F_law_take : Fun K "_law_take" "_law_take" s_law_take a.f_law_take a.d_law_take
  b_law_take : Binds K a.d_law_take ["_law_hand_here", "_law_many"] []
  m_law_whole : mg "_law_whole" = some (.ref a.f_law_whole)
  F_law_whole : Fun K "_law_whole" "_law_whole" s_law_whole a.f_law_whole a.d_law_whole
  b_law_whole : Binds K a.d_law_whole ["_law_thing"] []
  m_law_two : mg "_law_two" = some (.ref a.f_law_two)
  F_law_two : Fun K "_law_two" "_law_two" s_law_two a.f_law_two a.d_law_two
  b_law_two : Binds K a.d_law_two ["_law_n"] []
  m_law_kind : mg "_law_kind" = some (.ref a.f_law_kind)
  F_law_kind : Fun K "_law_kind" "_law_kind" s_law_kind a.f_law_kind a.d_law_kind
  b_law_kind : Binds K a.d_law_kind ["_law_hand_here"] []
  m_law_operands : mg "_law_operands" = some (.ref a.f_law_operands)
  F_law_operands : Fun K "_law_operands" "_law_operands" s_law_operands a.f_law_operands a.d_law_operands
  b_law_operands : Binds K a.d_law_operands ["_law_kind_here"] []
  m_law_name : mg "_law_name" = some (.ref a.f_law_name)
  F_law_name : Fun K "_law_name" "_law_name" s_law_name a.f_law_name a.d_law_name
  b_law_name : Binds K a.d_law_name ["_law_hand_here", "_law_count"] []
  m_law_expression : mg "_law_expression" = some (.ref a.f_law_expression)
  F_law_expression : Fun K "_law_expression" "_law_expression" s_law_expression a.f_law_expression a.d_law_expression
  b_law_expression : Binds K a.d_law_expression ["_law_hand_here", "_law_names", "_law_funs", "_law_depth"] []
  m_law_expression_text : mg "_law_expression_text" = some (.ref a.f_law_expression_text)
  F_law_expression_text : Fun K "_law_expression_text" "_law_expression_text" s_law_expression_text a.f_law_expression_text a.d_law_expression_text
  b_law_expression_text : Binds K a.d_law_expression_text ["_law_part"] []
  m_law_read_told : mg "_law_read_told" = some (.ref a.f_law_read_told)
  F_law_read_told : Fun K "_law_read_told" "_law_read_told" s_law_read_told a.f_law_read_told a.d_law_read_told
  b_law_read_told : Binds K a.d_law_read_told ["_law_tokens", "_law_at", "_law_names", "_law_funs"] []
  m_law_sign_told : mg "_law_sign_told" = some (.ref a.f_law_sign_told)
  F_law_sign_told : Fun K "_law_sign_told" "_law_sign_told" s_law_sign_told a.f_law_sign_told a.d_law_sign_told
  b_law_sign_told : Binds K a.d_law_sign_told ["_law_tokens", "_law_at", "_law_value"] []
  m_law_name_told : mg "_law_name_told" = some (.ref a.f_law_name_told)
  F_law_name_told : Fun K "_law_name_told" "_law_name_told" s_law_name_told a.f_law_name_told a.d_law_name_told
  b_law_name_told : Binds K a.d_law_name_told ["_law_tokens", "_law_at"] []
  m_law_tokens_right : mg "_law_tokens_right" = some (.ref a.f_law_tokens_right)
  F_law_tokens_right : Fun K "_law_tokens_right" "_law_tokens_right" s_law_tokens_right a.f_law_tokens_right a.d_law_tokens_right
  b_law_tokens_right : Binds K a.d_law_tokens_right ["_law_tokens", "_law_at"] []
  m_law_spoiled : mg "_law_spoiled" = some (.ref a.f_law_spoiled)
  F_law_spoiled : Fun K "_law_spoiled" "_law_spoiled" s_law_spoiled a.f_law_spoiled a.d_law_spoiled
  b_law_spoiled : Binds K a.d_law_spoiled ["_law_hand_here", "_law_names", "_law_funs"] []
  m_law : mg "law" = some (.ref a.f_law)
  F_law : Fun K "law" "law" s_law a.f_law a.d_law
  b_law : Binds K a.d_law ["_law_script"] []
  m_BadText : mg "BadText" = some (.ref a.c_BadText)
  x_BadText : OexC K a.c_BadText
  xf_BadText : XfC K a.c_BadText
  xi_BadText : PySem.W.findIn K (.ref a.c_BadText) "__init__" = some (some (.ref a.f_BadText___init__))
  xt_BadText : PySem.W.typeIn K (.ref a.f_BadText___init__) = some (.type "function")
  xe_BadText : PySem.W.exmOne K (.ref a.c_BadText) (.ref a.c_BadText) = some true
  xn_BadText_spot : PySem.W.findIn K (.ref a.c_BadText) "spot" = some none
  xn_BadText_what : PySem.W.findIn K (.ref a.c_BadText) "what" = some none
  F_BadText___init__ : Fun K "__init__" "BadText.__init__" s_BadText___init__ a.f_BadText___init__ a.d_BadText___init__
  b_BadText___init__ : Binds K a.d_BadText___init__ ["self", "spot", "what"] []
  m_BadName : mg "BadName" = some (.ref a.c_BadName)
  x_BadName : OexC K a.c_BadName
  xf_BadName : XfC K a.c_BadName
  xi_BadName : PySem.W.findIn K (.ref a.c_BadName) "__init__" = some (some (.ref a.f_BadName___init__))
  xt_BadName : PySem.W.typeIn K (.ref a.f_BadName___init__) = some (.type "function")
  xe_BadName : PySem.W.exmOne K (.ref a.c_BadName) (.ref a.c_BadName) = some true
  xn_BadName_spot : PySem.W.findIn K (.ref a.c_BadName) "spot" = some none
  xn_BadName_what : PySem.W.findIn K (.ref a.c_BadName) "what" = some none
  F_BadName___init__ : Fun K "__init__" "BadName.__init__" s_BadName___init__ a.f_BadName___init__ a.d_BadName___init__
  b_BadName___init__ : Binds K a.d_BadName___init__ ["self", "spot", "what"] []
  g_MOST_NUMBER : ∃ u, mg "MOST_NUMBER" = some u ∧ RelV (.int 4095) u
  g_TABLE_SIZES : ∃ u, mg "TABLE_SIZES" = some u ∧ RelV (.ref a.p_TABLE_SIZES) u
  t_TABLE_SIZES : ∀ H, SqT K H a.p_TABLE_SIZES [.int 1, .int 2, .int 4, .int 8, .int 16]
  g_SHIFT_SIGNS : ∃ u, mg "SHIFT_SIGNS" = some u ∧ RelV (.ref a.p_SHIFT_SIGNS) u
  t_SHIFT_SIGNS : ∀ H, SqT K H a.p_SHIFT_SIGNS [.str "<<", .str ">>"]
  g_LETTERS : ∃ u, mg "LETTERS" = some u ∧ RelV (.str "abcdefghijklmnopqrstuvwxyz") u
  g_FIGURES : ∃ u, mg "FIGURES" = some u ∧ RelV (.str "0123456789") u
  g_KEYWORDS : ∃ u, mg "KEYWORDS" = some u ∧ RelV (.ref a.p_KEYWORDS) u
  t_KEYWORDS : ∀ H, SqT K H a.p_KEYWORDS [.str "fun", .str "let", .str "repeat", .str "if", .str "else", .str "give", .str "pick", .str "table", .str "routine", .str "from", .str "loop", .str "until", .str "fi", .str "local", .str "end", .str "call", .str "back"]
  g_SIGNS : ∃ u, mg "SIGNS" = some u ∧ RelV (.ref a.p_SIGNS) u
  t_SIGNS : ∀ H, SqT K H a.p_SIGNS [.str "<=>", .str "==", .str "<<", .str ">>", .str "+=", .str "-=", .str "^=", .str "{", .str "}", .str "(", .str ")", .str "[", .str "]", .str ",", .str ";", .str "=", .str "+", .str "-", .str "*", .str "&", .str "|", .str "^", .str "<"]
  g_MOST_NAME : ∃ u, mg "MOST_NAME" = some u ∧ RelV (.int 8) u
  g_MOST_BRACKETS : ∃ u, mg "MOST_BRACKETS" = some u ∧ RelV (.int 20) u
  g_STRENGTHS : ∃ u, mg "STRENGTHS" = some u ∧ RelV (.ref a.p_STRENGTHS) u
  g_MOST_DEPTH : ∃ u, mg "MOST_DEPTH" = some u ∧ RelV (.int 60) u
  z_ValueError : mg "ValueError" = none
  z_abs : mg "abs" = none
  z_bool : mg "bool" = none
  z_int : mg "int" = none
  z_isinstance : mg "isinstance" = none
  z_len : mg "len" = none
  z_max : mg "max" = none
  z_range : mg "range" = none
  z_str : mg "str" = none
  z_tuple : mg "tuple" = none
/-! ### steps of readings -/
theorem cx_K {CX : CXT} {P : Program} {w : World} {K : PySem.W.Frag} {mg : Str → Option Value} {base : Heap} {N : List Str} {qual : Str} {scope : Scope} {f : Addr} {cd : Value} {A : Around} {outer : List Env} {s : Shared} {H : Hp} {E : XK} :
    (cxOf CX P w K mg base N qual scope f cd A outer s H E).K = K := rfl
theorem ixl {K : PySem.W.Frag} {H : Hp} {p : Addr} {xs : List V} {i : Int} {v : V} {Q : VK} (h : SqL K H p xs) (e : atI xs i = some v) (q : Q v H) : rIxL K (.ref p) (.int i) H Q := ⟨p, xs, i, v, rfl, rfl, h, e, q⟩
theorem setl {H : Hp} {p : Addr} {xs : List V} {k : Int} {j : Nat} {v : V} {Q : Hp → Prop} (h : H p = some (.lst xs)) (e : ixN xs.length k = some j) (q : Q (upd H p (.lst (xs.set j v)))) : rSetL (.ref p) (.int k) v H Q := ⟨p, xs, k, j, rfl, rfl, h, e, q⟩
theorem atI_int {ns : List Int} {i : Int} (h0 : 0 ≤ i) (h1 : i < (ns.length : Int)) : ∃ z, z ∈ ns ∧ atI (ns.map V.int) i = some (.int z) := by
  obtain ⟨k, rfl⟩ : ∃ k : Nat, i = (k : Int) := ⟨i.toNat, by omega⟩
  have hk : k < ns.length := by omega
  exact ⟨ns[k], List.getElem_mem hk, atI_nat (by rw [List.getElem?_map, List.getElem?_eq_getElem hk] <;> rfl)⟩
theorem str1 {a b : Nat} : ((⟨#[a]⟩ : Str) = ⟨#[b]⟩) = (a = b) := by
  apply propext
  constructor
  · intro h
    have q : (#[a] : Array Nat) = #[b] := congrArg Str.cps h
    have q2 : ([a] : List Nat) = [b] := congrArg Array.toList q
    exact (List.cons.inj q2).1
  · intro h; rw [h]
theorem int_at {ns : List Int} {i : Nat} {x : V} (h : (ns.map V.int)[i]? = some x) : ∃ z, ns[i]? = some z ∧ x = .int z := by
  rw [List.getElem?_map] at h
  cases e : ns[i]? with
  | none => rw [e] at h; cases h
  | some z => rw [e] at h; exact ⟨z, rfl, (Option.some.inj h).symm⟩
/-- C(x, ..) made: what is asked once the arguments stand -/
def mkO (C : Addr) (sp : Sp) (dvs : List V) (vs : List V) (H1 : Hp) (Q : XK) : Prop := vs.length ≤ 1000 ∧ ∀ e, H1 e = none → sp (.ref e :: (vs ++ dvs)) (upd H1 e (exo e C none))
  (fun v H2 => v = .non ∧ ∃ (d : Addr) (fs : List (Str × V)), H2 e = some (exo e C (some d)) ∧ H2 d = some (exd d fs) ∧ H1 d = none ∧ Q (.ref C) (some d) (upd (del H2 e) d (.xd fs))) (fun _ _ _ => False)
theorem tMkO_eq {C : Addr} {sp : Sp} {dvs : List V} {ta : TA} : tMkO C sp dvs ta = fun σ H Q => ta σ H fun vs H1 => mkO C sp dvs vs H1 Q := rfl
/-- what a comprehension asks behind its iterator's making -/
def LcG (J : It) (g : TG) (tt : TT) (te : TE) (vs : List Nat) (σ : L2.St) (Q : VK) (H1 : Hp) : Prop := ∀ D, H1 D = none → ∃ W : Nat → Nat → Hp → Prop, (∃ m, W 0 m (upd H1 D (.lst []))) ∧ ∀ i m H, W i m H →
  (J.stop i H ∧ Q (.ref D) H) ∨ (J.go i H ∧ ∃ Nx : Hp → Prop, (∀ H', Nx H' → ∃ m', m' < m ∧ W (i + 1) m' H') ∧ ∀ x H', J.yld i H x H' → g x (wipe σ vs) H' fun σ2 H2 => wipe σ2 vs = wipe σ vs ∧ tt σ2 H2 fun b H3 =>
    if b = true then te σ2 H3 fun y H4 => ∃ acc, H4 D = some (.lst acc) ∧ acc.length < sizeLine ∧ Nx (upd H4 D (.lst (acc ++ [y]))) else Nx H3)
theorem tLc_eq {wi : TI} {g : TG} {tt : TT} {te : TE} {vs : List Nat} : tLc wi g tt te vs = fun σ H Q => wi σ H fun J H1 => LcG J g tt te vs σ Q H1 := rfl
theorem lcg_range {lo : Int} {n : Nat} {g : TG} {tt : TT} {te : TE} {vs : List Nat} {σ : L2.St} {H1 : Hp} {Q : VK} (Pv : Addr → Nat → Hp → Prop) (h0 : ∀ D, H1 D = none → Pv D 0 (upd H1 D (.lst [])))
    (hs : ∀ D i H, H1 D = none → i < n → Pv D i H → g (.int (lo + i)) (wipe σ vs) H fun σ2 H2 => wipe σ2 vs = wipe σ vs ∧ tt σ2 H2 fun b H3 =>
      if b = true then te σ2 H3 fun y H4 => ∃ acc, H4 D = some (.lst acc) ∧ acc.length < sizeLine ∧ Pv D (i + 1) (upd H4 D (.lst (acc ++ [y]))) else Pv D (i + 1) H3) (hd : ∀ D H, H1 D = none → Pv D n H → Q (.ref D) H) : LcG (Itr lo n) g tt te vs σ Q H1 :=
  fun D hD => lc_range (Qd := fun H => Q (.ref D) H) (Pv D) (h0 D hD) (fun i H hi h => hs D i H hD hi h) fun H h => hd D H hD h
theorem lcg_list {K : PySem.W.Frag} {a : Addr} {xs : List V} {g : TG} {tt : TT} {te : TE} {vs : List Nat} {σ : L2.St} {H1 : Hp} {Q : VK} (Pv : Addr → Nat → Hp → Prop) (h0 : ∀ D, H1 D = none → Pv D 0 (upd H1 D (.lst []))) (hl : ∀ D i H, H1 D = none → i ≤ xs.length → Pv D i H → SqL K H a xs)
    (hs : ∀ D i x H, H1 D = none → xs[i]? = some x → Pv D i H → g x (wipe σ vs) H fun σ2 H2 => wipe σ2 vs = wipe σ vs ∧ tt σ2 H2 fun b H3 =>
      if b = true then te σ2 H3 fun y H4 => ∃ acc, H4 D = some (.lst acc) ∧ acc.length < sizeLine ∧ Pv D (i + 1) (upd H4 D (.lst (acc ++ [y]))) else Pv D (i + 1) H3) (hd : ∀ D H, H1 D = none → Pv D xs.length H → Q (.ref D) H) : LcG (Itl K a) g tt te vs σ Q H1 :=
  fun D hD => lc_list (Qd := fun H => Q (.ref D) H) (Pv D) (h0 D hD) (fun i H hi h => hl D i H hD hi h) (fun i x H hi h => hs D i x H hD hi h) fun H h => hd D H hD h
local macro_rules | `(tactic| walk_at "cmul") => `(tactic| first | exact .inl ⟨by omega, by omega⟩ | exact .inr ⟨by omega, by omega⟩)
local macro_rules | `(tactic| walk_at "r1") => `(tactic| first | refine ⟨_, rfl, ?_⟩ | refine ⟨_, _, rfl, rfl, ?_⟩ | refine Or.inl ⟨_, rfl, ?_⟩)
local macro_rules | `(tactic| walk_at "sm") => `(tactic| try simp only [tSeq, tAsg, tRet, tRetN, tDrop, tOp, tUn, tVar, tC, tCB, tCons, tNil, tLst, tTup, tTest, tB, tAnd, tOr, tNot, tAndV, tOrV, tNotV, tIf, tIfS, tNext, tCont, tBreak, tCall, tCallS, WE, tXf, rI0, rI, rU, gName, gNil, gCons, gTup, gSub, tAug, tBM, tBM0, tM1, rNewStrs, tLc_eq, iRng1, iRng2, iList, iTup, tYes, wipe, List.foldl_cons, List.foldl_nil, rEq, rNe, scal, rIxS, rSlS, tSl, tPart, tNoPart, tChain, ipI, str1, tMkO_eq, L2.start, List.map_cons, List.map_nil, List.append_nil, List.cons_append, List.nil_append, List.length_cons, List.length_nil, List.drop, List.replicate, List.getElem?_cons_zero, List.getElem?_cons_succ, List.set_cons_zero, List.set_cons_succ, Option.some.injEq, V.int.injEq, V.str.injEq, V.ref.injEq, V.bl.injEq, List.cons.injEq, reduceCtorEq, false_and, and_false, exists_false, or_false, false_or, exists_eq_left', exists_eq_left, and_assoc, cx_K, exists_and_left, exists_and_right, and_true, true_and, decide_eq_true_eq, if_true, if_false, Bool.false_eq_true])
local macro_rules | `(tactic| walk_at "rm") => `(tactic| refine ⟨by walk_at "cmul", ?_⟩)

/-! ### a target that is a field of an exception that is being made -/
def gOst (K : PySem.W.Frag) (f : Str) (to : TE) : TG := fun y σ H Q => to σ H fun x H2 => ∃ a C : Addr, x = .ref a ∧ OexC K C ∧ PySem.W.findIn K (.ref C) f = some none ∧
  ((H2 a = some (exo a C none) ∧ ∀ dx, H2 dx = none → dx ≠ a → Q σ (upd (upd H2 dx (exd dx [(f, y)])) a (exo a C (some dx)))) ∨
    ∃ (dx : Addr) (fs : List (Str × V)), H2 a = some (exo a C (some dx)) ∧ H2 dx = some (exd dx fs) ∧ fs.length ≤ 900 ∧ Q σ (upd H2 dx (exd dx ((f, y) :: fs))))
theorem pg_ost {X : Cx} {o : Expr} {to : TE} {f : Str} {pos : Pos} (ho : PE X o to) : PG X (.Attribute o f pos) (gOst X.K f to) := by
  refine ⟨fun pins s σ H v u Q I r h => ?_⟩
  rw [assign_Attribute]
  refine wpAny_bind (wpAny_holding (thn (ho.run pins s σ H _ I h) fun ov s1 ⟨x, H1, I1, r1, q1⟩ => ?_))
  refine wpAny_bind (wpAny_standAt (wpAny_bind (wpAny_holding ?_)))
  obtain ⟨a, C, rfl, T, hno, q⟩ := q1
  obtain rfl : ov = Value.ref a := r1
  rcases q with ⟨ea, q⟩ | ⟨dx, fs, ea, ed, hl, q⟩
  · exact ost_new T I1 ea hno r fun dx s' n ne J => wpAny_release ⟨σ, _, J, q dx n ne⟩
  · exact ost_old T I1 ea ed hl hno r fun s' J => wpAny_release ⟨σ, _, J, q⟩

/-- all but p is kept -/
def Fr (p : Addr) (H H' : Hp) : Prop := ∀ b o, b ≠ p → H b = some o → H' b = some o
theorem Fr.refl {p : Addr} (H : Hp) : Fr p H H := fun _ _ _ h => h
theorem Fr.trans {p : Addr} {H H1 H2 : Hp} (a : Fr p H H1) (b : Fr p H1 H2) : Fr p H H2 := fun c o n h => b c o n (a c o n h)
theorem Fr.of {p : Addr} {H H1 : Hp} (a : Evl.Ex H H1) : Fr p H H1 := fun c o _ h => a c o h
theorem Fr.upd {p : Addr} {H : Hp} {o : HO} : Fr p H (upd H p o) := fun c u n h => by rw [upd_ne n]; exact h
/-- what is not known of H stays so -/
def spInit2 (C : Addr) (f1 f2 : Str) : Sp := fun vs H Q _ => ∃ (e : Addr) (x y : V), vs = [.ref e, x, y] ∧ H e = some (exo e C none) ∧
  ∀ (d : Addr) (H' : Hp), H d = none → d ≠ e → Fr e H H' → H' e = some (exo e C (some d)) → H' d = some (exd d [(f2, y), (f1, x)]) → Q .non H'
/-- what is asked where C(x, y) is raised -/
theorem mk2 {C : Addr} {f1 f2 : Str} {x y : V} {H1 : Hp} {Q : XK} (k : ∀ (d : Addr) (H' : Hp), Evl.Ex H1 H' → H' d = some (.xd [(f2, y), (f1, x)]) → Q (.ref C) (some d) H') :
    mkO C (spInit2 C f1 f2) [] [x, y] H1 Q := by
  refine ⟨by show 2 ≤ 1000; omega, fun e he => ⟨e, x, y, rfl, upd_same, fun d H' hd hne hf h1 h2 => ⟨rfl, d, _, h1, h2, ?_, ?_⟩⟩⟩
  · rw [upd_ne hne] at hd
    exact hd
  · refine k d _ (fun b o hb => ?_) upd_same
    have nbe : b ≠ e := ne_of_none hb he
    rw [upd_ne hne] at hd
    have nbd : b ≠ d := ne_of_none hb hd
    rw [upd_ne nbd, del_ne nbe]
    exact hf b o nbe (by rw [upd_ne nbe]; exact hb)

section
variable {P : Program} {w : World} {K : PySem.W.Frag} {mg : Str → Option Value} {base : Heap} {a : Ad}
/-! ### BadInputs(spot, what) -/
theorem ok_BadText_init (T : Txt K mg a) : FnOk P w K mg base CX0 1 a.f_BadText___init__ a.d_BadText___init__ ["self", "spot", "what"] (spInit2 a.c_BadText "spot" "what") := by
  refine T.F_BadText___init__.ok sc_BadText___init__ (fun vs H Q E h => ?_) (fun cdv A outer s H vs Q E hr h => ?_)
  · obtain ⟨e, x, y, rfl, _⟩ := h
    rfl
  · obtain ⟨e, x, y, rfl, he, k⟩ := h
    refine ⟨_, pss_one (ps_asg (pe_tup (pa_cons (pv 1) (pa_cons (pv 2) pa_nil))) (pg_tup rfl (pgs_cons (pg_ost (pv 0)) (pgs_cons (pg_ost (pv 0)) pgs_nil)))), ?_⟩
    refine ⟨_, rfl, _, rfl, (by show 2 ≤ sizeLine; decide), fun t ht => ?_⟩
    have net : e ≠ t := ne_of_none he ht
    refine ⟨t, _, rfl, .inl (.inl upd_same), rfl, _, _, rfl, _, rfl, e, a.c_BadText, rfl, T.x_BadText, T.xn_BadText_spot, .inl ⟨by rw [upd_ne net]; exact he, fun dx hdx hne => ?_⟩⟩
    have ndt : dx ≠ t := fun q => by rw [q, upd_same] at hdx; cases hdx
    have hd0 : H dx = none := by rw [upd_ne ndt] at hdx; exact hdx
    refine ⟨_, _, rfl, _, rfl, e, a.c_BadText, rfl, T.x_BadText, T.xn_BadText_what, .inr ⟨dx, [("spot", x)], upd_same, by rw [upd_ne hne, upd_same], (by show 1 ≤ 900; omega), rfl, ?_⟩⟩
    refine k dx _ hd0 hne (fun b o nb hb => ?_) (by rw [upd_ne (Ne.symm hne), upd_same]) upd_same
    rw [upd_ne (ne_of_none hb hd0), upd_ne nb, upd_ne (ne_of_none hb hd0), upd_ne (ne_of_none hb ht)]
    exact hb
theorem ok_BadName_init (T : Txt K mg a) : FnOk P w K mg base CX0 1 a.f_BadName___init__ a.d_BadName___init__ ["self", "spot", "what"] (spInit2 a.c_BadName "spot" "what") := by
  refine T.F_BadName___init__.ok sc_BadName___init__ (fun vs H Q E h => ?_) (fun cdv A outer s H vs Q E hr h => ?_)
  · obtain ⟨e, x, y, rfl, _⟩ := h
    rfl
  · obtain ⟨e, x, y, rfl, he, k⟩ := h
    refine ⟨_, pss_one (ps_asg (pe_tup (pa_cons (pv 1) (pa_cons (pv 2) pa_nil))) (pg_tup rfl (pgs_cons (pg_ost (pv 0)) (pgs_cons (pg_ost (pv 0)) pgs_nil)))), ?_⟩
    refine ⟨_, rfl, _, rfl, (by show 2 ≤ sizeLine; decide), fun t ht => ?_⟩
    have net : e ≠ t := ne_of_none he ht
    refine ⟨t, _, rfl, .inl (.inl upd_same), rfl, _, _, rfl, _, rfl, e, a.c_BadName, rfl, T.x_BadName, T.xn_BadName_spot, .inl ⟨by rw [upd_ne net]; exact he, fun dx hdx hne => ?_⟩⟩
    have ndt : dx ≠ t := fun q => by rw [q, upd_same] at hdx; cases hdx
    have hd0 : H dx = none := by rw [upd_ne ndt] at hdx; exact hdx
    refine ⟨_, _, rfl, _, rfl, e, a.c_BadName, rfl, T.x_BadName, T.xn_BadName_what, .inr ⟨dx, [("spot", x)], upd_same, by rw [upd_ne hne, upd_same], (by show 1 ≤ 900; omega), rfl, ?_⟩⟩
    refine k dx _ hd0 hne (fun b o nb hb => ?_) (by rw [upd_ne (Ne.symm hne), upd_same]) upd_same
    rw [upd_ne (ne_of_none hb hd0), upd_ne nb, upd_ne (ne_of_none hb hd0), upd_ne (ne_of_none hb ht)]
    exact hb
/-! ### the hand -/
/-- a hand stands at p: the script's cells, how many of them are taken, the rest of a great one, the mixed sum -/
def HandAt (H : Hp) (p c : Addr) : Prop := ∃ (cells : List Int) (i g t : Int), H p = some (.lst [.ref c, .int i, .int g, .int t]) ∧ H c = some (.lst (cells.map V.int)) ∧
  cells.length ≤ 63 ∧ (∀ x ∈ cells, 0 ≤ x) ∧ 0 ≤ i ∧ i ≤ 63 ∧ 0 ≤ g ∧ 0 ≤ t ∧ t < 2147483549
def spHand (K : PySem.W.Frag) : Sp := fun vs H Q _ => ∃ (s : Addr) (ns : List Int), vs = [.ref s] ∧ SqL K H s (ns.map V.int) ∧ ns.length ≤ 63 ∧
  ∀ p c H', H p = none → Evl.Ex H H' → HandAt H' p c → Q (.ref p) H'
def ivHand (H : Hp) (sc l : Addr) (ns : List Int) : Nat → L2.St → Hp → Prop := fun i σ H' => ∃ (t : Int) (cells : List Int) (v : Option V), σ = [some (.ref sc), some (.int t), some (.ref l), v] ∧
  H' l = some (.lst (cells.map V.int)) ∧ cells.length = i ∧ i ≤ ns.length ∧ (∀ x ∈ cells, 0 ≤ x) ∧ 0 ≤ t ∧ t < 2147483549 ∧ Evl.Ex H H'
theorem ok_law_hand (T : Txt K mg a) : FnOk P w K mg base CX0 1 a.f_law_hand a.d_law_hand ["_law_script"] (spHand K) := by
  refine T.F_law_hand.ok sc_law_hand (fun vs H Q E h => ?_) (fun cdv A outer s H vs Q E hr h => ?_)
  · obtain ⟨_, _, rfl, _⟩ := h
    rfl
  · obtain ⟨sc, ns, rfl, hS, hl, k⟩ := h
    refine ⟨_, (pss_cons (ps_set (i := 1) sc_law_hand.nd rfl (by first | exact Or.inl rfl | exact Or.inr rfl) (pe_op op_add (pe_callB call_len_seq (by rfl) T.z_len (by decide +kernel) (pa_cons (pv 0) pa_nil)) pe_int))
  (pss_cons (ps_set (i := 2) sc_law_hand.nd rfl (by first | exact Or.inl rfl | exact Or.inr rfl) (pe_lst pa_nil))
  (pss_cons (ps_for PassesOwn.never rfl (pi_list (pv 0)) (pg_name (i := 3) sc_law_hand.nd rfl (by first | exact Or.inl rfl | exact Or.inr rfl)) (pss_cons (ps_set (i := 1) sc_law_hand.nd rfl (by first | exact Or.inl rfl | exact Or.inr rfl) (pe_op op_mod (pe_callTy call_int1 (by rfl) T.z_int (by decide +kernel) (pa_cons (pe_op op_add (pe_op op_mul (pv 1) pe_int) (pe_callTy call_int1 (by rfl) T.z_int (by decide +kernel) (pa_cons (pv 3) pa_nil))) pa_nil)) pe_int))
  (pss_one (ps_expr (pe_bm PySem.F.plainAttrs_list PySem.F.slot_list_append PySem.F.type_list_append mt_append (pv 2) (pa_cons (pe_callB call_abs (by rfl) T.z_abs (by decide +kernel) (pa_cons (pe_callTy call_int1 (by rfl) T.z_int (by decide +kernel) (pa_cons (pv 3) pa_nil)) pa_nil)) pa_nil))))))
  (pss_one (ps_ret (pe_lst (pa_cons (pv 2) (pa_cons pe_int (pa_cons pe_int (pa_cons (pv 1) pa_nil)))))))))), ?_⟩
    walk_at "sm"
    refine ⟨_, .inl hS, by decide, fun l hl0 => ?_⟩
    have nls : ∀ {b o}, H b = some o → b ≠ l := fun hb => ne_of_none hb hl0
    refine ⟨_, rfl, sc, rfl, ⟨_, Evl.ex_l (Evl.Ex.new hl0) hS⟩, for_list (K := K) (a := sc) (xs := ns.map V.int) (ivHand H sc l ns) ⟨_, [], none, rfl, upd_same, rfl, Nat.zero_le _, (by intro x hx; cases hx), ?_, ?_, Evl.Ex.new hl0⟩ (fun i σ H' _ ⟨_, _, _, _, _, _, _, _, _, _, e⟩ => Evl.ex_l e hS) ?_ ?_⟩
    · rw [List.length_map]; omega
    · rw [List.length_map]; omega
    · rintro i y σ H' hi ⟨t, cells, v, rfl, h1, h2, h3, h4, h5, h6, h7⟩
      obtain ⟨z, hz, rfl⟩ := int_at hi
      have hi' := (List.getElem?_eq_some_iff.mp hz).1
      walk_at "sm"
      refine ⟨.inl ⟨by omega, by omega⟩, by decide, .inl ⟨rfl, _, SqL.of h1⟩, l, _, _, rfl, rfl, h1, ?_, ?_⟩
      · rw [List.length_map]; exact Nat.lt_of_lt_of_le (by omega : cells.length < 100) (by decide)
      · refine ⟨_, cells ++ [if z < 0 then -z else z], _, rfl, by rw [upd_same, List.map_append]; rfl, by rw [List.length_append, h2]; rfl, by omega, ?_, Int.emod_nonneg _ (by decide), ?_, Evl.Ex.mut h7 hl0⟩
        · intro x hx
          rcases List.mem_append.mp hx with hx | hx
          · exact h4 x hx
          · rw [List.mem_singleton] at hx
            subst hx
            split <;> omega
        · have := Int.emod_lt_of_pos (t * 2017 + z) (show (0 : Int) < 2147483543 by decide)
          omega
    · rintro σ H' ⟨t, cells, v, rfl, h1, h2, h3, h4, h5, h6, h7⟩
      walk_at "sm"
      refine ⟨by decide, fun p hp => ?_⟩
      refine k p l _ (Evl.fresh_back h7 hp) (h7.trans (Evl.Ex.new hp)) ⟨cells, 0, 0, t, upd_same, by rw [upd_ne (ne_of_none h1 hp)]; exact h1, ?_, h4, by decide, by decide, by decide, h5, h6⟩
      rw [h2, List.length_map]; exact hl
def spMixed : Sp := fun vs H Q _ => ∃ (n t : Int), vs = [.int n, .int t] ∧ 0 ≤ n ∧ n < 2147483600 ∧ 0 ≤ t ∧ t ≤ 64 ∧ ∀ r, 0 ≤ r → Q (.int r) H
theorem ok_law_mixed (T : Txt K mg a) : FnOk P w K mg base CX0 1 a.f_law_mixed a.d_law_mixed ["_law_number", "_law_turn"] spMixed := by
  refine T.F_law_mixed.ok sc_law_mixed (fun vs H Q E h => ?_) (fun cdv A outer s H vs Q E hr h => ?_)
  · obtain ⟨_, _, rfl, _⟩ := h
    rfl
  · obtain ⟨n, t, rfl, h1, h2, h3, h4, k⟩ := h
    refine ⟨_, (pss_cons (ps_set (i := 2) sc_law_mixed.nd rfl (by first | exact Or.inl rfl | exact Or.inr rfl) (pe_op op_mod (pe_callTy call_int1 (by rfl) T.z_int (by decide +kernel) (pa_cons (pe_op op_add (pe_op op_add (pe_op op_mul (pv 0) pe_int) (pe_op op_mul (pv 1) pe_int)) pe_int) pa_nil)) pe_int))
  (pss_cons (ps_set (i := 3) sc_law_mixed.nd rfl (by first | exact Or.inl rfl | exact Or.inr rfl) (pe_op op_mod (pe_callTy call_int1 (by rfl) T.z_int (by decide +kernel) (pa_cons (pe_op op_add (pe_op op_add (pe_op op_mul (pv 2) (pv 2)) (pe_op op_mul (pv 1) pe_int)) (pe_op op_fdiv (pv 2) pe_int)) pa_nil)) pe_int))
  (pss_one (ps_ret (pe_op op_fdiv (pe_callTy call_int1 (by rfl) T.z_int (by decide +kernel) (pa_cons (pe_op op_mod (pe_callTy call_int1 (by rfl) T.z_int (by decide +kernel) (pa_cons (pe_op op_add (pe_op op_mul (pv 3) pe_int) (pe_op op_fdiv (pv 2) pe_int)) pa_nil)) pe_int) pa_nil)) pe_int))))), ?_⟩
    walk_at "sm"
    have e1 := Int.emod_nonneg (n * 40014 + t * 7331 + 60013) (show (2147483399 : Int) ≠ 0 by decide)
    have e2 := Int.emod_lt_of_pos (n * 40014 + t * 7331 + 60013) (show (0 : Int) < 2147483399 by decide)
    refine ⟨.inl ⟨by omega, by omega⟩, .inl ⟨by omega, by omega⟩, by decide, .inl ⟨by omega, by omega⟩, .inl ⟨by omega, by omega⟩, ⟨by decide, by decide⟩, by decide, .inr ⟨by decide, by decide⟩, ⟨by decide, by decide⟩, by decide, ⟨by decide, by decide⟩, k _ ?_⟩
    exact Int.ediv_nonneg (Int.emod_nonneg _ (by decide)) (by decide)
def spTake : Sp := fun vs H Q _ => ∃ (p c : Addr) (m : Int), vs = [.ref p, .int m] ∧ HandAt H p c ∧ 0 < m ∧ m < 1073741824 ∧
  ∀ r H', 0 ≤ r → r < m → Fr p H H' → HandAt H' p c → Q (.int r) H'
def midTake (H : Hp) (p c : Addr) (m : Int) : L2.St → Hp → Prop := fun σ' H' => ∃ v, σ' = [some (.ref p), some (.int m), v, none] ∧ Fr p H H' ∧ HandAt H' p c
theorem ok_law_take (T : Txt K mg a) : FnOk P w K mg base CX0 2 a.f_law_take a.d_law_take ["_law_hand_here", "_law_many"] spTake := by
  refine T.F_law_take.ok sc_law_take (fun vs H Q E h => ?_) (fun cdv A outer s H vs Q E hr h => ?_)
  · obtain ⟨_, _, _, rfl, _⟩ := h
    rfl
  · obtain ⟨p, c, m, rfl, ⟨cells, i, g, t, hp, hc, hl, hx, hi0, hi1, hg, ht0, ht1⟩, hm0, hm1, k⟩ := h
    refine ⟨_, (Evl.pss_cut (ps_if (PW.pt (pw_and (pt_cmpR op_eq (pe_ix ix_list (pv 0) pe_int (fun _ _ => rfl)) pe_int (nomark _)) (pw_and1 (pt_cmpR op_lt (pe_ix ix_list (pv 0) pe_int (fun _ _ => rfl)) (pe_callB call_len_seq (by rfl) T.z_len (by decide +kernel) (pa_cons (pe_ix ix_list (pv 0) pe_int (fun _ _ => rfl)) pa_nil)) (nomark _))))) (pss_cons (ps_set (i := 2) sc_law_take.nd rfl (by first | exact Or.inl rfl | exact Or.inr rfl) (pe_ix ix_list (pe_ix ix_list (pv 0) pe_int (fun _ _ => rfl)) (pe_ix ix_list (pv 0) pe_int (fun _ _ => rfl)) (fun _ _ => rfl)))
  (pss_cons (ps_asg (pe_op op_add (pe_ix ix_list (pv 0) pe_int (fun _ _ => rfl)) pe_int) (pg_sub (pv 0) pe_int set_list (by intro _; rfl)))
  (pss_cons (ps_if (pt_cmpR op_lt (pv 2) (pe_op op_pow pe_int pe_int) (nomark _)) (pss_one (ps_ret (pe_op op_mod (pe_callTy call_int1 (by rfl) T.z_int (by decide +kernel) (pa_cons (pe_call (ok_law_mixed T) (hr.mono (by decide)) rfl T.m_law_mixed T.F_law_mixed.kp T.b_law_mixed .nil pass0 (pa_cons (pe_op op_mod (pe_callTy call_int1 (by rfl) T.z_int (by decide +kernel) (pa_cons (pv 2) pa_nil)) pe_int) (pa_cons (pe_ix ix_list (pv 0) pe_int (fun _ _ => rfl)) pa_nil))) pa_nil)) (pv 1))))
    pss_nil)
  (pss_one (ps_asg (pv 2) (pg_sub (pv 0) pe_int set_list (by intro _; rfl)))))))
    pss_nil)
  (pss_cons (ps_if (pt_cmpR op_gt (pe_ix ix_list (pv 0) pe_int (fun _ _ => rfl)) pe_int (nomark _)) (pss_cons (ps_set (i := 3) sc_law_take.nd rfl (by first | exact Or.inl rfl | exact Or.inr rfl) (pe_ix ix_list (pv 0) pe_int (fun _ _ => rfl)))
  (pss_cons (ps_asg (pe_op op_fdiv (pe_callTy call_int1 (by rfl) T.z_int (by decide +kernel) (pa_cons (pv 3) pa_nil)) (pv 1)) (pg_sub (pv 0) pe_int set_list (by intro _; rfl)))
  (pss_one (ps_ret (pe_op op_mod (pe_callTy call_int1 (by rfl) T.z_int (by decide +kernel) (pa_cons (pv 3) pa_nil)) (pv 1))))))
    pss_nil)
  (pss_cons (ps_asg (pe_op op_mod (pe_callTy call_int1 (by rfl) T.z_int (by decide +kernel) (pa_cons (pe_op op_add (pe_ix ix_list (pv 0) pe_int (fun _ _ => rfl)) pe_int) pa_nil)) pe_int) (pg_sub (pv 0) pe_int set_list (by intro _; rfl)))
  (pss_one (ps_ret (pe_op op_mod (pe_callTy call_int1 (by rfl) T.z_int (by decide +kernel) (pa_cons (pe_call (ok_law_mixed T) (hr.mono (by decide)) rfl T.m_law_mixed T.F_law_mixed.kp T.b_law_mixed .nil pass0 (pa_cons (pe_ix ix_list (pv 0) pe_int (fun _ _ => rfl)) (pa_cons (pe_ix ix_list (pv 0) pe_int (fun _ _ => rfl)) pa_nil))) pa_nil)) (pv 1))))))), ?_⟩
    walk_at "sm"
    have ncp : c ≠ p := ne_of hc hp (by intro q; injection q with q; cases cells with
      | nil => cases q
      | cons x r => injection q with q _; cases q)
    refine ⟨midTake H p c m, ?_, ?_⟩
    · walk_at "sm"
      have sK : SqL K H p [.ref c, .int i, .int g, .int t] := SqL.of hp
      refine ixl sK rfl ?_
      walk_at "sm"
      refine ite2 (fun cg => ?_) (fun cg => ⟨_, rfl, Fr.refl H, cells, i, g, t, hp, hc, hl, hx, hi0, hi1, hg, ht0, ht1⟩)
      refine ixl sK rfl (ixl sK rfl ?_)
      walk_at "sm"
      refine ⟨_, .inl (SqL.of hc), ?_⟩
      walk_at "sm"
      refine ite2 (fun ci => ?_) (fun ci => ⟨_, rfl, Fr.refl H, cells, i, g, t, hp, hc, hl, hx, hi0, hi1, hg, ht0, ht1⟩)
      rw [List.length_map] at ci
      obtain ⟨z, hz, ez⟩ := atI_int hi0 ci
      have hz0 := hx z hz
      refine ixl sK rfl (ixl sK rfl (ixl (SqL.of hc) ez (ixl sK rfl ?_)))
      walk_at "sm"
      refine setl hp rfl ?_
      have hp1 : (upd H p (.lst [.ref c, .int (i + 1), .int g, .int t])) p = some (.lst [.ref c, .int (i + 1), .int g, .int t]) := upd_same
      have hc1 : (upd H p (.lst [.ref c, .int (i + 1), .int g, .int t])) c = some (.lst (cells.map V.int)) := by rw [upd_ne ncp]; exact hc
      refine ⟨⟨by decide, by decide, by decide⟩, ite2 (fun cz => ?_) (fun cz => ?_)⟩
      · refine ⟨by decide, ixl (SqL.of hp1) rfl ⟨_, _, rfl, Int.emod_nonneg _ (by decide), ?_, by omega, by omega, fun r hr0 => ?_⟩⟩
        · have := Int.emod_lt_of_pos z (show (0 : Int) < 2147483399 by decide)
          omega
        · walk_at "sm"
          exact ⟨hm0, k _ _ (Int.emod_nonneg _ (by omega)) (Int.emod_lt_of_pos _ hm0) Fr.upd ⟨cells, i + 1, g, t, hp1, hc1, hl, hx, by omega, by omega, hg, ht0, ht1⟩⟩
      · refine setl hp1 rfl ⟨_, rfl, Fr.upd.trans Fr.upd, cells, i + 1, z, t, upd_same, by rw [upd_ne ncp]; exact hc1, hl, hx, by omega, by omega, hz0, ht0, ht1⟩
    · rintro σ' H' ⟨v, rfl, f, cells', i', g', t', hp', hc, hl', hx', hi0', hi1', hg', ht0', ht1'⟩
      have ncp' : c ≠ p := ne_of hc hp' (by intro q; injection q with q; cases cells' with
        | nil => cases q
        | cons x r => injection q with q _; cases q)
      walk_at "sm"
      have sK : SqL K H' p [.ref c, .int i', .int g', .int t'] := SqL.of hp'
      refine ixl sK rfl ?_
      walk_at "sm"
      refine ite2 (fun cg => ?_) (fun cg => ?_)
      · refine ixl sK rfl ?_
        walk_at "sm"
        refine ⟨⟨hm0, hm1⟩, setl hp' rfl ⟨hm0, k _ _ (Int.emod_nonneg _ (by omega)) (Int.emod_lt_of_pos _ hm0) (f.trans Fr.upd) ⟨cells', i', g' / m, t', upd_same, by rw [upd_ne ncp']; exact hc, hl', hx', hi0', hi1', Int.ediv_nonneg hg' (by omega), ht0', ht1'⟩⟩⟩
      · refine ixl sK rfl ?_
        walk_at "sm"
        have e0 := Int.emod_nonneg (t' + 1) (show (2147483549 : Int) ≠ 0 by decide)
        have e1 := Int.emod_lt_of_pos (t' + 1) (show (0 : Int) < 2147483549 by decide)
        refine ⟨by decide, setl hp' rfl ?_⟩
        have hp1 : (upd H' p (.lst [.ref c, .int i', .int g', .int ((t' + 1) % 2147483549)])) p = some (.lst [.ref c, .int i', .int g', .int ((t' + 1) % 2147483549)]) := upd_same
        refine ixl (SqL.of hp1) rfl (ixl (SqL.of hp1) rfl ⟨_, _, rfl, e0, by omega, by omega, by omega, fun r hr0 => ?_⟩)
        walk_at "sm"
        exact ⟨hm0, k _ _ (Int.emod_nonneg _ (by omega)) (Int.emod_lt_of_pos _ hm0) (f.trans Fr.upd) ⟨cells', i', g', (t' + 1) % 2147483549, hp1, by rw [upd_ne ncp']; exact hc, hl', hx', hi0', hi1', hg', e0, e1⟩⟩
end
open SX (S)

theorem sz {n : Nat} (h : n ≤ 100000) : n ≤ sizeLine := Evl.sz_of h
theorem kw_flat (l : List Str) : (l.map V.str).all flatV = true := by
  induction l with
  | nil => rfl
  | cons s l ih => rw [List.map_cons, List.all_cons, ih]; rfl
theorem str_at_map {l : List Str} {i : Nat} {x : V} (h : (l.map V.str)[i]? = some x) : ∃ z, l[i]? = some z ∧ x = .str z := by
  rw [List.getElem?_map] at h
  cases e : l[i]? with
  | none => rw [e] at h; cases h
  | some z => rw [e] at h; exact ⟨z, rfl, (Option.some.inj h).symm⟩
theorem in_tup {K : PySem.W.Frag} {H : Hp} {p : Addr} {xs : List V} {x : V} {Q : VK} (h : SqT K H p xs) (fx : flatV x = true) (fxs : xs.all flatV = true) (q : Q (.bl (inV x xs)) H) : rIn K false x (.ref p) H Q := ⟨p, xs, rfl, .inr h, fx, fxs, q⟩
theorem ni_tup {K : PySem.W.Frag} {H : Hp} {p : Addr} {xs : List V} {x : V} {Q : VK} (h : SqT K H p xs) (fx : flatV x = true) (fxs : xs.all flatV = true) (q : Q (.bl (!inV x xs)) H) : rIn K true x (.ref p) H Q := ⟨p, xs, rfl, .inr h, fx, fxs, q⟩
theorem isi_ty {K : PySem.W.Frag} {H : Hp} {x : V} {t : String} {n : String} {b : Bool} {Q : VK} (ht : TyX K H x (.type t)) (hk : kitB t n = some b) (q : Q (.bl b) H) : rIsi K [x, .ty n] H Q := ⟨x, .ty n, .type t, .type n, b, rfl, .ty n, ht, kit_ty hk, q⟩
theorem Paired.snoc {α β : Type} {F : α → β → Prop} {x : α} {y : β} (r : F x y) : ∀ {l : List α} {m : List β}, Paired F l m → Paired F (l ++ [x]) (m ++ [y])
  | _, _, .nil => .cons r .nil
  | _, _, .cons q t => .cons q (Paired.snoc r t)
theorem HandAt.go {H H' : Hp} {p c : Addr} (e : Evl.Ex H H') (h : HandAt H p c) : HandAt H' p c := by
  obtain ⟨cells, i, g, t, hp, hc, r⟩ := h
  exact ⟨cells, i, g, t, e _ _ hp, e _ _ hc, r⟩
theorem HandAt.lt {H : Hp} {p c l : Addr} (h : HandAt H p c) (hl : H l = none) : l ≠ p := by
  obtain ⟨cells, i, g, t, hp, _⟩ := h
  exact Ne.symm (ne_of_none hp hl)
theorem HandAt.lc {H : Hp} {p c l : Addr} (h : HandAt H p c) (hl : H l = none) : l ≠ c := by
  obtain ⟨cells, i, g, t, hp, hc, _⟩ := h
  exact Ne.symm (ne_of_none hc hl)
theorem HandAt.upd {H : Hp} {p c l : Addr} {o : HO} (h : HandAt H p c) (n1 : l ≠ p) (n2 : l ≠ c) : HandAt (upd H l o) p c := by
  obtain ⟨cells, i, g, t, hp, hc, r⟩ := h
  exact ⟨cells, i, g, t, by rw [upd_ne (Ne.symm n1)]; exact hp, by rw [upd_ne (Ne.symm n2)]; exact hc, r⟩
theorem Fr.mut {p l : Addr} {H H' : Hp} {o : HO} (f : Fr p H H') (hl : H l = none) : Fr p H (L2.upd H' l o) := fun b u n h => by
  rw [upd_ne (ne_of_none h hl)]
  exact f b u n h
theorem Fr.lst {K : PySem.W.Frag} {H H' : Hp} {p l : Addr} {xs : List V} (f : Fr p H H') (n : l ≠ p) (h : H l = some (.lst xs)) : SqL K H' l xs := SqL.of (f _ _ n h)
theorem atI_str {l : List Str} {i : Int} (h0 : 0 ≤ i) (h1 : i < (l.length : Int)) : ∃ z, z ∈ l ∧ atI (l.map V.str) i = some (.str z) := by
  obtain ⟨k, rfl⟩ : ∃ k : Nat, i = (k : Int) := ⟨i.toNat, by omega⟩
  have hk : k < l.length := by omega
  exact ⟨l[k], List.getElem_mem hk, atI_nat (by rw [List.getElem?_map, List.getElem?_eq_getElem hk] <;> rfl)⟩
theorem tk {p c : Addr} {m : Int} {H : Hp} {Q : VK} {E : XK} (h : HandAt H p c) (h0 : 0 < m) (h1 : m < 1073741824) (k : ∀ (r : Int) (H' : Hp), 0 ≤ r → r < m → Fr p H H' → HandAt H' p c → Q (.int r) H') : spTake [.ref p, .int m] H Q E := ⟨p, c, m, rfl, h, h0, h1, k⟩
def dV : V → PyData
  | .bl b => .bool b
  | .int i => .int i
  | .str x => .str x
  | _ => .none
def okF : V → Bool
  | .non => true
  | .bl _ => true
  | .int _ => true
  | .str x => PyData.strOk x
  | _ => false
theorem dp_flat {K : PySem.W.Frag} {H : Hp} {v : V} (h : okF v = true) : Dp K H v (dV v) := by
  cases v with
  | non => exact .non
  | bl b => exact .bl b
  | int i => exact .int i
  | str x => exact .str x
  | byt b => cases h
  | flt b => cases h
  | ref b => cases h
  | ty b => cases h
theorem dp_flats {K : PySem.W.Frag} {H : Hp} : ∀ {vs : List V}, vs.all okF = true → DpAll K H vs (vs.map dV)
  | [], _ => .nil
  | v :: vs, h => by
    rw [List.all_cons, Bool.and_eq_true] at h
    exact .cons (dp_flat h.1) (dp_flats h.2)
theorem lay_flat {v : V} (h : okF v = true) : (dV v).canLay0 = true ∧ (dV v).depth ≤ 1 := by
  cases v with
  | non => exact ⟨rfl, by decide⟩
  | bl b => exact ⟨rfl, by show 0 ≤ 1; omega⟩
  | int i => exact ⟨rfl, by show 0 ≤ 1; omega⟩
  | str x => exact ⟨h, by show 0 ≤ 1; omega⟩
  | byt b => cases h
  | flt b => cases h
  | ref b => cases h
  | ty b => cases h
theorem lay_all {n : Nat} : ∀ {ds : List PyData}, (∀ d ∈ ds, d.canLay0 = true ∧ d.depth ≤ n) → PyData.canLayAll0 ds = true ∧ PyData.depthAll ds ≤ n
  | [], _ => ⟨rfl, Nat.zero_le _⟩
  | d :: ds, h => by
    have h1 := h d List.mem_cons_self
    have h2 := lay_all (ds := ds) fun x hx => h x (List.mem_cons_of_mem _ hx)
    refine ⟨?_, ?_⟩
    · show (d.canLay0 && PyData.canLayAll0 ds) = true
      rw [h1.1, h2.1]; rfl
    · show max d.depth (PyData.depthAll ds) ≤ n
      omega
theorem lay_tup {n : Nat} {ds : List PyData} (h : ∀ d ∈ ds, d.canLay0 = true ∧ d.depth ≤ n) : (PyData.tuple ds).canLay0 = true ∧ (PyData.tuple ds).depth ≤ n + 1 := by
  have q := lay_all h
  exact ⟨q.1, by show PyData.depthAll ds + 1 ≤ n + 1; omega⟩
theorem lay_lst {n : Nat} {ds : List PyData} (h : ∀ d ∈ ds, d.canLay0 = true ∧ d.depth ≤ n) : (PyData.list ds).canLay0 = true ∧ (PyData.list ds).depth ≤ n + 1 := by
  have q := lay_all h
  exact ⟨q.1, by show PyData.depthAll ds + 1 ≤ n + 1; omega⟩
theorem shaped_of {d : PyData} {n : Nat} (h : d.canLay0 = true ∧ d.depth ≤ n) (hn : n ≤ 64) : SeqAt.shaped d = true := by
  unfold SeqAt.shaped
  rw [h.1, decide_eq_true (Nat.le_trans h.2 hn)]
  rfl
theorem ne_same {K : PySem.W.Frag} {H : Hp} {x y : V} {d : PyData} {Q : VK} (hx : Dp K H x d) (hy : Dp K H y d) (hs : SeqAt.shaped d = true) (q : Q (.bl false) H) : rNeD K x y H Q :=
  ⟨d, d, hx, hy, hs, hs, by rw [SeqAt.eqv_refl d (SeqAt.canLay_of_shaped hs)]; exact q⟩
theorem eq_same {K : PySem.W.Frag} {H : Hp} {x y : V} {d : PyData} {Q : VK} (hx : Dp K H x d) (hy : Dp K H y d) (hs : SeqAt.shaped d = true) (q : Q (.bl true) H) : rEqD K x y H Q :=
  ⟨d, d, hx, hy, hs, hs, by rw [SeqAt.eqv_refl d (SeqAt.canLay_of_shaped hs)]; exact q⟩
theorem op_eqD_s {X : Cx} {a : Addr} {pins : List (Addr × Obj)} (hu : (X.suite a pins).A.units + 64 < cLine) : OpR (X.suite a pins) (compareOp .Eq) (rEqD X.K) := op_eqD hu
theorem op_neD_s {X : Cx} {a : Addr} {pins : List (Addr × Obj)} (hu : (X.suite a pins).A.units + 64 < cLine) : OpR (X.suite a pins) (compareOp .NotEq) (rNeD X.K) := op_neD hu
theorem ix_list_b {X : Cx} {s : Shared} {H : Hp} {scope : Scope} {env : Env} {fp : List Addr} : IxR (X.blk s H scope env fp) (rIxL X.K) := ix_list
theorem ix_tup_b {X : Cx} {s : Shared} {H : Hp} {scope : Scope} {env : Env} {fp : List Addr} : IxR (X.blk s H scope env fp) (rIxT X.K) := ix_tup
theorem ixt {K : PySem.W.Frag} {H : Hp} {p : Addr} {xs : List V} {i : Int} {v : V} {Q : VK} (h : H p = some (.tup xs)) (e : atI xs i = some v) (q : Q v H) : rIxT K (.ref p) (.int i) H Q := ⟨p, xs, i, v, rfl, rfl, SqT.of h, e, q⟩
theorem was_true {K : PySem.W.Frag} {C : Addr} {i : Nat} {ts : Addr → Value → Option Addr → TS} {Wout : WX} {D : Ends} {d : Option Addr} {σ : L2.St} {H : Hp} (he : PySem.W.exmOne K (.ref C) (.ref C) = some true)
    (h : ∀ a, H a = none → ts a (.ref C) d { nx := fun σ' H' => D.nx (σ'.set i none) H', rt := D.rt, bk := fun σ' H' => D.bk (σ'.set i none) H', ct := fun σ' H' => D.ct (σ'.set i none) H' } (σ.set i (some (.ref a))) H) :
    wAs K (.ref C) i ts Wout D (.ref C) d σ H := ⟨true, he, fun _ => h, fun q => nomatch q⟩
/-! ### an own error made without arguments -/
theorem pmk_own0 {X : Cx} {C : Addr} {bmB : List Value} {B newId initId : String} {x : Str} {p pos : Pos} (F : ExcBaseFacts B newId initId bmB) (q : PySem.W.excIn X.K C bmB newId = true) (gC : X.mg x = some (.ref C)) (kC : PySem.W.keepIn X.K (.ref C) = true) (r : Raises X (.ref C)) (hg : Gl X x)
    (hdb : (x == ("__debug__" : Str)) = false := by decide) : PMk X (.Call (.Name x p) [] [] pos) (fun _ H Q => Q (.ref C) none H) := by
  intro pins s σ H Q I h
  refine wpAny_Call_Name_kw (ld_glob I hg gC ?_ hdb)
  refine PySem.W.callWith_K0 I.kIn kC ?_
  show wpAny _ _ (call (.ref C) []) _ _ _
  obtain ⟨bm, N, nm, qn, bs, hdct, sn, sub, ab, col, dd, k0, k1, k2, k3, k5, mN, hC, hN, hni, T⟩ := exc_obj I.kIn q
  refine wpAny_call_exc_subT F T hC hN hni (fun h' e hm => ?_) (Nat.zero_le _)
  exact mk_of I hm r h (I.hok.gone hm.new)
/-! ### a walk over what is a list or a tuple -/
theorem pi_or {X : Cx} {tg it : Expr} {r1 r2 : TI} (h1 : PI X tg it r1) (h2 : PI X tg it r2) : PI X tg it (fun σ H R => r1 σ H R ∨ r2 σ H R) :=
  ⟨fun pins s σ H R I h => h.elim (fun z => h1.run pins s σ H R I z) fun z => h2.run pins s σ H R I z⟩
/-! ### codes -/
abbrev Cs := List Nat
def lowB (c : Nat) : Bool := decide (97 ≤ c) && decide (c ≤ 122)
def digB (c : Nat) : Bool := decide (48 ≤ c) && decide (c ≤ 57)
def alnB (c : Nat) : Bool := lowB c || digB c
def blB (c : Nat) : Bool := decide (c = 32) || decide (c = 10)
def zLow : Str := "abcdefghijklmnopqrstuvwxyz"
def zDig : Str := "0123456789"
def zAln : Str := "abcdefghijklmnopqrstuvwxyz0123456789"
def zBl : Str := " \n"
theorem of_all {l : List Nat} {p : Nat → Bool} {n : Nat} (h : ∀ c, c < n → decide (c ∈ l) = p c) (h1 : ∀ c ∈ l, c < n) (h2 : ∀ c, n ≤ c → p c = false) (c : Nat) : decide (c ∈ l) = p c := by
  by_cases hc : c < n
  · exact h c hc
  · rw [h2 c (by omega)]
    exact decide_eq_false fun q => hc (h1 c q)
theorem low_mem (c : Nat) : decide (c ∈ zLow.cps.toList) = lowB c := by
  refine of_all (n := 128) (by decide +kernel) (by decide +kernel) (fun c h => ?_) c
  unfold lowB; simp; omega
theorem dig_mem (c : Nat) : decide (c ∈ zDig.cps.toList) = digB c := by
  refine of_all (n := 128) (by decide +kernel) (by decide +kernel) (fun c h => ?_) c
  unfold digB; simp; omega
theorem aln_mem (c : Nat) : decide (c ∈ zAln.cps.toList) = alnB c := by
  refine of_all (n := 128) (by decide +kernel) (by decide +kernel) (fun c h => ?_) c
  unfold alnB lowB digB; simp; omega
theorem bl_mem (c : Nat) : decide (c ∈ zBl.cps.toList) = blB c := by
  refine of_all (n := 128) (by decide +kernel) (by decide +kernel) (fun c h => ?_) c
  unfold blB; simp; omega
theorem aln_eq : zLow ++ zDig = zAln := by decide +kernel
/-! ### slices -/
theorem cut_nat (cs : Cs) {i j : Nat} (hi : i ≤ cs.length) (hj : j ≤ cs.length) : cutS (S cs) (some (i : Int)) (some (j : Int)) = S ((cs.drop i).take (j - i)) := by
  unfold cutS
  rw [HT.sIx_nat, HT.sIx_nat]
  have e : (S cs).length = cs.length := SX.S_len cs
  rw [e, Nat.min_eq_left hi, Nat.min_eq_left hj]
theorem cut_over (cs : Cs) {i j : Nat} (hi : i ≤ cs.length) (h : i ≤ j) : cutS (S cs) (some (i : Int)) (some (j : Int)) = S ((cs.drop i).take (j - i)) := by
  unfold cutS
  rw [HT.sIx_nat, HT.sIx_nat]
  have e : (S cs).length = cs.length := SX.S_len cs
  rw [e, Nat.min_eq_left hi]
  by_cases hj : j ≤ cs.length
  · rw [Nat.min_eq_left hj]
  · rw [Nat.min_eq_right (by omega)]
    show S _ = S _
    have e1 : (cs.drop i).length = cs.length - i := List.length_drop ..
    rw [List.take_of_length_le (by show (cs.drop i).length ≤ _; omega), List.take_of_length_le (by omega)]
theorem tw_len_le {α : Type} (p : α → Bool) (l : List α) : (l.takeWhile p).length ≤ l.length := (List.takeWhile_sublist p).length_le
theorem take_tw {α : Type} (p : α → Bool) : ∀ l : List α, l.take (l.takeWhile p).length = l.takeWhile p
  | [] => rfl
  | x :: l => by
    rw [List.takeWhile_cons]
    split
    · rw [List.length_cons, List.take_succ_cons, take_tw p l]
    · rfl
theorem str_at (cs : Cs) {i : Nat} (h : i < cs.length) : atI (S cs).cps.toList (i : Int) = some cs[i] := by
  have e : (S cs).cps.toList = cs := rfl
  rw [e]
  exact atI_nat (List.getElem?_eq_getElem h)
theorem drop_at {cs : Cs} {i : Nat} (h : i < cs.length) : cs.drop i = cs[i] :: cs.drop (i + 1) := List.drop_eq_getElem_cons h
/-! ### one token -/
inductive Tk where
  | word (w : Cs) | name (w : Cs) | num (n : Nat) | sign (s : Cs)
def kws : List Cs := (["fun", "let", "repeat", "if", "else", "give", "pick", "table", "routine", "from", "loop", "until", "fi", "local", "end", "call", "back"] : List Str).map fun s => s.cps.toList
def sgs : List Cs := (["<=>", "==", "<<", ">>", "+=", "-=", "^=", "{", "}", "(", ")", "[", "]", ",", ";", "=", "+", "-", "*", "&", "|", "^", "<"] : List Str).map fun s => s.cps.toList
def Tk.kind : Tk → Str
  | .word _ => "word" | .name _ => "name" | .num _ => "number" | .sign _ => "sign"
def Tk.val : Tk → V
  | .word w => .str (S w) | .name w => .str (S w) | .num n => .int n | .sign s => .str (S s)
def Tk.v (t : Tk) (i : Nat) : List V := [.str t.kind, t.val, .int i]
def badNum (w : Cs) : Bool := decide (4 < w.length) || decide (4095 < NumText.digitsVal w) || (decide (1 < w.length) && decide (w.head? = some 48))
def tok1 (r : Cs) : Except Str (Tk × Nat) :=
  if lowB (r.headD 0) then (if 8 < (r.takeWhile alnB).length then .error "name" else .ok (if kws.contains (r.takeWhile alnB) then .word (r.takeWhile alnB) else .name (r.takeWhile alnB), (r.takeWhile alnB).length))
  else if digB (r.headD 0) then (if badNum (r.takeWhile digB) then .error "number" else .ok (.num (NumText.digitsVal (r.takeWhile digB)), (r.takeWhile digB).length))
  else match sgs.find? (fun s => s.isPrefixOf r) with
    | some s => .ok (.sign s, s.length)
    | none => .error "sign"
/-- brackets behind a token; none: too deep -/
def brk (t : Tk) (b : Nat) : Option Nat := match t with
  | .sign s => if s = [125] ∨ s = [41] ∨ s = [93] then some (b - 1) else if s = [123] ∨ s = [40] ∨ s = [91] then (if b = 20 then none else some (b + 1)) else some b
  | _ => some b
def pre (t : List (List V)) (r : Except (Nat × Str) (List (List V))) : Except (Nat × Str) (List (List V)) := match r with
  | .ok l => .ok (t ++ l)
  | .error e => .error e
theorem pre_nil (r : Except (Nat × Str) (List (List V))) : pre [] r = r := by cases r <;> rfl
theorem pre_pre (s t : List (List V)) (r : Except (Nat × Str) (List (List V))) : pre s (pre t r) = pre (s ++ t) r := by
  cases r with
  | ok l => show Except.ok (s ++ (t ++ l)) = Except.ok ((s ++ t) ++ l); rw [List.append_assoc]
  | error e => rfl
def endV (cs : Cs) : List V := [.str "end", .str "", .int cs.length]
def scan (cs : Cs) (i b : Nat) : Except (Nat × Str) (List (List V)) :=
  if h : i < cs.length then
    if blB cs[i] then scan cs (i + 1) b
    else match tok1 (cs.drop i) with
      | .error w => .error (i, w)
      | .ok (t, l) => match brk t b with
        | none => .error (i, "deep")
        | some b' => pre [t.v i] (scan cs (i + max l 1) b')
  else .ok [endV cs]
termination_by cs.length - i
theorem scan_end {cs : Cs} {i b : Nat} (h : ¬ i < cs.length) : scan cs i b = .ok [endV cs] := by
  rw [scan, dif_neg h]
theorem scan_bl {cs : Cs} {i b : Nat} (h : i < cs.length) (hb : blB cs[i] = true) : scan cs i b = scan cs (i + 1) b := by
  rw [scan, dif_pos h, if_pos hb]
theorem scan_err {cs : Cs} {i b : Nat} {w : Str} (h : i < cs.length) (hb : blB cs[i] = false) (ht : tok1 (cs.drop i) = .error w) : scan cs i b = .error (i, w) := by
  rw [scan, dif_pos h, hb, ht]
  rfl
theorem scan_deep {cs : Cs} {i b l : Nat} {t : Tk} (h : i < cs.length) (hb : blB cs[i] = false) (ht : tok1 (cs.drop i) = .ok (t, l)) (hk : brk t b = none) : scan cs i b = .error (i, "deep") := by
  rw [scan, dif_pos h, hb, ht]
  show (match brk t b with | none => _ | some b' => _) = _
  rw [hk]
theorem scan_tok {cs : Cs} {i b b' l : Nat} {t : Tk} (h : i < cs.length) (hb : blB cs[i] = false) (ht : tok1 (cs.drop i) = .ok (t, l)) (hk : brk t b = some b') (hl : 1 ≤ l) : scan cs i b = pre [t.v i] (scan cs (i + l) b') := by
  rw [scan, dif_pos h, hb, ht]
  show (match brk t b with | none => _ | some b' => _) = _
  rw [hk]
  show pre [t.v i] (scan cs (i + max l 1) b') = _
  rw [Nat.max_eq_left hl]
theorem sgs_pos : ∀ s ∈ sgs, 1 ≤ s.length ∧ s.length ≤ 3 := by decide +kernel
theorem tok1_len {r : Cs} {t : Tk} {l : Nat} (hr : r ≠ []) (h : tok1 r = .ok (t, l)) : 1 ≤ l := by
  obtain ⟨c, q, rfl⟩ : ∃ c q, r = c :: q := by
    cases r with
    | nil => exact absurd rfl hr
    | cons c q => exact ⟨c, q, rfl⟩
  unfold tok1 at h
  have e : (c :: q).headD 0 = c := rfl
  rw [e] at h
  by_cases h1 : lowB c = true
  · rw [if_pos h1] at h
    split at h
    · cases h
    · cases h
      rw [List.takeWhile_cons, if_pos (by unfold alnB; rw [h1]; rfl), List.length_cons]
      omega
  · rw [if_neg h1] at h
    by_cases h2 : digB c = true
    · rw [if_pos h2] at h
      split at h
      · cases h
      · cases h
        rw [List.takeWhile_cons, if_pos h2, List.length_cons]
        omega
    · rw [if_neg h2] at h
      split at h
      · rename_i s hs
        cases h
        exact (sgs_pos s (List.mem_of_find?_eq_some hs)).1
      · cases h
theorem tok1_le {r : Cs} {t : Tk} {l : Nat} (h : tok1 r = .ok (t, l)) : l ≤ r.length := by
  unfold tok1 at h
  split at h
  · split at h
    · cases h
    · cases h
      exact tw_len_le _ _
  · split at h
    · split at h
      · cases h
      · cases h
        exact tw_len_le _ _
    · split at h
      · rename_i s hs
        cases h
        have q := List.find?_some hs
        exact (List.isPrefixOf_iff_prefix.mp q).length_le
      · cases h



theorem szS {cs : Cs} (h : cs.length ≤ 100000) : (S cs).length ≤ sizeLine := by rw [SX.S_len]; exact sz h
section
variable {P : Program} {w : World} {K : PySem.W.Frag} {mg : Str → Option Value} {base : Heap} {a : Ad}
def spRow : Sp := fun vs H Q _ => ∃ (cs : Cs) (i : Nat) (z : Str) (p : Nat → Bool), vs = [.str (S cs), .int i, .str z] ∧ i ≤ cs.length ∧ cs.length ≤ 100000 ∧ (∀ c, decide (c ∈ z.cps.toList) = p c) ∧
  Q (.str (S ((cs.drop i).takeWhile p))) H
def ivRow (cs : Cs) (i : Nat) (z : Str) (p : Nat → Bool) (H : Hp) : Nat → L2.St → Hp → Prop := fun m σ H' => ∃ b : Nat, σ = [some (.str (S cs)), some (.int i), some (.str z), some (.int b)] ∧ H' = H ∧ i ≤ b ∧ b ≤ cs.length ∧ m = cs.length - b ∧
  (cs.drop i).takeWhile p = (cs.drop i).take (b - i) ++ (cs.drop b).takeWhile p
theorem ok_row_of (T : Txt K mg a) : FnOk P w K mg base CX0 1 a.f_row_of a.d_row_of ["text", "spot", "letters"] spRow := by
  refine T.F_row_of.ok sc_row_of (fun vs H Q E h => ?_) (fun cdv A outer s H vs Q E hr h => ?_)
  · obtain ⟨_, _, _, _, rfl, _⟩ := h
    rfl
  · obtain ⟨cs, i, z, p, rfl, hi, hn, hp, k⟩ := h
    refine ⟨_, (pss_cons (ps_set (i := 3) sc_row_of.nd rfl (by first | exact Or.inl rfl | exact Or.inr rfl) (pv 1))
  (pss_cons (ps_while PassesOwn.never (PW.pt (pw_and (pt_cmpR op_lt (pv 3) (pe_callB call_len_str (by rfl) T.z_len (by decide +kernel) (pa_cons (pv 0) pa_nil)) (nomark _)) (pw_and1 (pt_cmpR op_in_sign (pe_ix ix_str (pv 0) (pv 3) (fun _ _ => rfl)) (pv 2) (by rfl))))) (pss_one (ps_aug (i := 3) sc_row_of.nd rfl (by first | exact Or.inl rfl | exact Or.inr rfl) pe_int ip_add)))
  (pss_one (ps_ret (pe_slice sl_str (pv 0) (po_some (pv 1)) (po_some (pv 3))))))), ?_⟩
    walk_at "sm"
    refine ⟨ivRow cs i z p H, ⟨_, i, rfl, rfl, Nat.le_refl _, hi, rfl, by rw [Nat.sub_self]; rfl⟩, ?_⟩
    rintro m σ H' ⟨b, rfl, rfl, h1, h2, rfl, h3⟩
    walk_at "sm"
    rw [SX.S_len]
    have hz : (S cs).length ≤ sizeLine := szS hn
    rw [SX.S_len] at hz
    refine ⟨hz, ite2 (fun hb => ⟨hz, cs[b]'(by omega), str_at cs (by omega), ite2 (fun hm => ?_) (fun hm => ⟨hz, ?_⟩)⟩) (fun hb => ⟨hz, ?_⟩)⟩
    · have hb' : b < cs.length := by omega
      have pb : p cs[b] = true := by rw [← hp]; exact decide_eq_true hm
      refine ⟨fun σ' H'' => σ' = [some (V.str (S cs)), some (V.int i), some (V.str z), some (V.int ((b + 1 : Nat) : Int))] ∧ H'' = H', fun σ' H'' ⟨e1, e2⟩ => ⟨cs.length - (b + 1), by omega, b + 1, e1, e2, by omega, by omega, rfl, ?_⟩, rfl, rfl⟩
      rw [h3, drop_at hb', List.takeWhile_cons, if_pos pb]
      have e3 : b + 1 - i = (b - i) + 1 := by omega
      have e4 : (cs.drop i)[b - i]? = some cs[b] := by
        rw [List.getElem?_drop, show i + (b - i) = b by omega]
        exact List.getElem?_eq_getElem hb'
      rw [e3, List.take_add_one, e4]
      simp
    · have hb' : b < cs.length := by omega
      have pb : p cs[b] = false := by rw [← hp]; exact decide_eq_false hm
      rw [drop_at hb', List.takeWhile_cons, if_neg (by rw [pb]; decide), List.append_nil] at h3
      rw [cut_nat cs (by omega) (by omega), ← h3]
      exact k
    · have eb : b = cs.length := by omega
      have e0 : cs.drop b = [] := List.drop_eq_nil_of_le (by omega)
      rw [e0, List.takeWhile_nil, List.append_nil] at h3
      rw [cut_nat cs (by omega) (by omega), ← h3]
      exact k
end
theorem inV_str (w : Cs) (l : List Str) : inV (.str (S w)) (l.map V.str) = (l.map fun s => s.cps.toList).contains w := by
  induction l with
  | nil => rfl
  | cons s l ih =>
    show (eqV (V.str s) (V.str (S w)) || inV (.str (S w)) (l.map V.str)) = _
    rw [ih, List.map_cons, List.contains_cons]
    congr 1
    show (s == S w) = (w == s.cps.toList)
    have e : (S s.cps.toList == S w) = (s.cps.toList == w) := SX.S_beq _ _
    rw [SX.S_tl] at e
    rw [e]
    exact BEq.comm
/-- an error BadText(i, w) goes out, all that stood stands -/
def Rz (C : Addr) (H : Hp) (E : XK) (i : Int) (w : Str) : Prop := ∀ (d : Addr) (H' : Hp), Evl.Ex H H' → H' d = some (.xd [("what", .str w), ("spot", .int i)]) → E (.ref C) (some d) H'
theorem Rz.go {C : Addr} {H H1 : Hp} {E : XK} {i : Int} {w : Str} (h : Rz C H E i w) (e : Evl.Ex H H1) : Rz C H1 E i w := fun d H' e' q => h d H' (e.trans e') q
/-- what cutting the token at i hands back or lets out -/
def TokRes (C : Addr) (cs : Cs) (i : Nat) (H : Hp) (Q : VK) (E : XK) : Prop := (∀ w, tok1 (cs.drop i) = .error w → Rz C H E i w) ∧
  ∀ t l, tok1 (cs.drop i) = .ok (t, l) → ∀ b p H', Evl.Ex H H' → H b = none → H' b = some (.tup (t.v i)) → H' p = some (.tup [.ref b, .int l]) → Q (.ref p) H'
theorem TokRes.out {C : Addr} {cs : Cs} {i : Nat} {H : Hp} {Q : VK} {E : XK} (k : TokRes C cs i H Q E) {t : Tk} {l : Nat} (e : tok1 (cs.drop i) = .ok (t, l)) {p q : Addr} (hp : H p = none) (hq : upd H p (.tup (t.v i)) q = none) :
    Q (.ref q) (upd (upd H p (.tup (t.v i))) q (.tup [.ref p, .int l])) := by
  refine k.2 t l e p q _ ((Evl.Ex.new hp).trans (Evl.Ex.new hq)) hp ?_ upd_same
  have hpp : upd H p (.tup (t.v i)) p = some (.tup (t.v i)) := upd_same
  rw [upd_ne (ne_of_none hpp hq)]
  exact upd_same
theorem headD_drop {cs : Cs} {i : Nat} (h : i < cs.length) : (cs.drop i).headD 0 = cs[i] := by rw [drop_at h]; rfl
section
variable {P : Program} {w : World} {K : PySem.W.Frag} {mg : Str → Option Value} {base : Heap} {a : Ad}
def spCutWord (C : Addr) : Sp := fun vs H Q E => ∃ (cs : Cs) (i : Nat) (h : i < cs.length), vs = [.str (S cs), .int i] ∧ cs.length ≤ 100000 ∧ lowB cs[i] = true ∧ TokRes C cs i H Q E
theorem ok_cut_word (T : Txt K mg a) : FnOk P w K mg base (L2.CX P w) 3 a.f_cut_word a.d_cut_word ["text", "spot"] (spCutWord a.c_BadText) := by
  refine T.F_cut_word.okX sc_cut_word (fun vs H Q E h => ?_) (fun cdv A outer s H vs Q E hr h => ?_)
  · obtain ⟨_, _, _, rfl, _⟩ := h
    rfl
  · obtain ⟨cs, i, hi, rfl, hn, hl, k⟩ := h
    refine ⟨_, (pss_cons (ps_set (i := 2) sc_cut_word.nd rfl (by first | exact Or.inl rfl | exact Or.inr rfl) (pe_call (ok_row_of T) (hr.mono (by decide)) rfl T.m_row_of T.F_row_of.kp T.b_row_of .nil pass0 (pa_cons (pv 0) (pa_cons (pv 1) (pa_cons (pe_op op_add_str (pe_glob rfl T.g_LETTERS.choose_spec.1 T.g_LETTERS.choose_spec.2) (pe_glob rfl T.g_FIGURES.choose_spec.1 T.g_FIGURES.choose_spec.2)) pa_nil)))))
  (pss_cons (ps_if (pt_cmpR op_gt (pe_callB call_len_str (by rfl) T.z_len (by decide +kernel) (pa_cons (pv 2) pa_nil)) (pe_glob rfl T.g_MOST_NAME.choose_spec.1 T.g_MOST_NAME.choose_spec.2) (nomark _)) (pss_one (ps_raise rfl (takes_of rfl rfl rfl rfl) (pmk_oex T.x_BadText T.xi_BadText T.xt_BadText (ok_BadText_init T) (hr.mono (by decide)) T.b_BadText___init__ .nil pass0 rfl T.m_BadText (pa_cons (pv 1) (pa_cons pe_str pa_nil)))))
    pss_nil)
  (pss_one (ps_ret (pe_tup (pa_cons (pe_tup (pa_cons (pe_ifExp (pt_cmpR op_in_seq (pv 2) (pe_glob rfl T.g_KEYWORDS.choose_spec.1 T.g_KEYWORDS.choose_spec.2) (by rfl)) pe_str pe_str) (pa_cons (pv 2) (pa_cons (pv 1) pa_nil)))) (pa_cons (pe_callB call_len_str (by rfl) T.z_len (by decide +kernel) (pa_cons (pv 2) pa_nil)) pa_nil))))))), ?_⟩
    have ld : (cs.drop i).headD 0 = cs[i] := headD_drop hi
    have lw : ((cs.drop i).takeWhile alnB).length ≤ 100000 := Nat.le_trans (tw_len_le _ _) (by rw [List.length_drop]; omega)
    walk_at "sm"
    refine ⟨by decide, cs, i, zAln, alnB, rfl, by omega, hn, aln_mem, ?_⟩
    walk_at "sm"
    rw [SX.S_len]
    refine ⟨sz lw, ite2 (fun h8 => ?_) (fun h8 => ?_)⟩
    · refine mk2 (k.1 _ ?_)
      unfold tok1
      rw [ld, if_pos hl, if_pos (by omega)]
    · have e1 : tok1 (cs.drop i) = .ok (if kws.contains ((cs.drop i).takeWhile alnB) then .word ((cs.drop i).takeWhile alnB) else .name ((cs.drop i).takeWhile alnB), ((cs.drop i).takeWhile alnB).length) := by
        unfold tok1
        rw [ld, if_pos hl, if_neg (by omega)]
      have e2 := inV_str ((cs.drop i).takeWhile alnB) ["fun", "let", "repeat", "if", "else", "give", "pick", "table", "routine", "from", "loop", "until", "fi", "local", "end", "call", "back"]
      refine ⟨_, _, rfl, .inr (T.t_KEYWORDS H), rfl, kw_flat ["fun", "let", "repeat", "if", "else", "give", "pick", "table", "routine", "from", "loop", "until", "fi", "local", "end", "call", "back"], ?_⟩
      have e3 : inV (V.str (S ((cs.drop i).takeWhile alnB))) [V.str "fun", V.str "let", V.str "repeat", V.str "if", V.str "else", V.str "give", V.str "pick", V.str "table", V.str "routine", V.str "from", V.str "loop", V.str "until", V.str "fi", V.str "local", V.str "end", V.str "call", V.str "back"] = kws.contains ((cs.drop i).takeWhile alnB) := e2
      show ∃ k, V.bl (inV _ _) = V.bl k ∧ _
      refine ⟨_, rfl, ?_⟩
      rw [e3]
      refine ite2 (fun hk => ?_) (fun hk => ?_)
      · rw [hk] at e1
        exact ⟨sz (by decide), fun p hp => ⟨sz lw, sz (by decide), fun q hq => k.out e1 hp hq⟩⟩
      · rw [if_neg hk] at e1
        exact ⟨sz (by decide), fun p hp => ⟨sz lw, sz (by decide), fun q hq => k.out e1 hp hq⟩⟩
def spCutNum (C : Addr) : Sp := fun vs H Q E => ∃ (cs : Cs) (i : Nat) (h : i < cs.length), vs = [.str (S cs), .int i] ∧ cs.length ≤ 100000 ∧ lowB cs[i] = false ∧ digB cs[i] = true ∧ TokRes C cs i H Q E
theorem ok_cut_number (T : Txt K mg a) : FnOk P w K mg base (L2.CX P w) 3 a.f_cut_number a.d_cut_number ["text", "spot"] (spCutNum a.c_BadText) := by
  refine T.F_cut_number.okX sc_cut_number (fun vs H Q E h => ?_) (fun cdv A outer s H vs Q E hr h => ?_)
  · obtain ⟨_, _, _, rfl, _⟩ := h
    rfl
  · obtain ⟨cs, i, hi, rfl, hn, hl, hd, k⟩ := h
    refine ⟨_, (pss_cons (ps_set (i := 2) sc_cut_number.nd rfl (by first | exact Or.inl rfl | exact Or.inr rfl) (pe_call (ok_row_of T) (hr.mono (by decide)) rfl T.m_row_of T.F_row_of.kp T.b_row_of .nil pass0 (pa_cons (pv 0) (pa_cons (pv 1) (pa_cons (pe_glob rfl T.g_FIGURES.choose_spec.1 T.g_FIGURES.choose_spec.2) pa_nil)))))
  (pss_cons (ps_if (PW.pt (pw_or (pt_cmpR op_gt (pe_callB call_len_str (by rfl) T.z_len (by decide +kernel) (pa_cons (pv 2) pa_nil)) pe_int (nomark _)) (pw_or (pt_cmpR op_gt (pe_callTy call_int_str (by rfl) T.z_int (by decide +kernel) (pa_cons (pv 2) pa_nil)) (pe_glob rfl T.g_MOST_NUMBER.choose_spec.1 T.g_MOST_NUMBER.choose_spec.2) (nomark _)) (pw_or1 (PW.pt (pw_and (pt_cmpR op_gt (pe_callB call_len_str (by rfl) T.z_len (by decide +kernel) (pa_cons (pv 2) pa_nil)) pe_int (nomark _)) (pw_and1 (pt_cmpR op_eq (pe_ix ix_str (pv 2) pe_int (fun _ _ => rfl)) pe_str (nomark _))))))))) (pss_one (ps_raise rfl (takes_of rfl rfl rfl rfl) (pmk_oex T.x_BadText T.xi_BadText T.xt_BadText (ok_BadText_init T) (hr.mono (by decide)) T.b_BadText___init__ .nil pass0 rfl T.m_BadText (pa_cons (pv 1) (pa_cons pe_str pa_nil)))))
    pss_nil)
  (pss_one (ps_ret (pe_tup (pa_cons (pe_tup (pa_cons pe_str (pa_cons (pe_callTy call_int_str (by rfl) T.z_int (by decide +kernel) (pa_cons (pv 2) pa_nil)) (pa_cons (pv 1) pa_nil)))) (pa_cons (pe_callB call_len_str (by rfl) T.z_len (by decide +kernel) (pa_cons (pv 2) pa_nil)) pa_nil))))))), ?_⟩
    have ld : (cs.drop i).headD 0 = cs[i] := headD_drop hi
    have lw : ((cs.drop i).takeWhile digB).length ≤ 100000 := Nat.le_trans (tw_len_le _ _) (by rw [List.length_drop]; omega)
    have et : tok1 (cs.drop i) = if badNum ((cs.drop i).takeWhile digB) then .error "number" else .ok (.num (NumText.digitsVal ((cs.drop i).takeWhile digB)), ((cs.drop i).takeWhile digB).length) := by
      unfold tok1
      rw [ld, hl, if_pos hd]
      rfl
    have ne : (cs.drop i).takeWhile digB ≠ [] := by
      rw [drop_at hi, List.takeWhile_cons, if_pos hd]
      exact List.cons_ne_nil _ _
    have ad : ((cs.drop i).takeWhile digB).all digB = true := List.all_takeWhile
    walk_at "sm"
    refine ⟨cs, i, zDig, digB, rfl, by omega, hn, dig_mem, ?_⟩
    generalize (cs.drop i).takeWhile digB = r at *
    walk_at "sm"
    rw [SX.S_len]
    have rz : badNum r = true → mkO a.c_BadText (spInit2 a.c_BadText "spot" "what") [] [V.int i, V.str "number"] H fun cls d H' => E cls d H' := fun hb => mk2 (k.1 _ (by rw [et, if_pos hb]))
    have ok : badNum r = false → ∀ p, H p = none → r.length ≤ sizeLine ∧ 0 + 1 + 1 ≤ sizeLine ∧ ∀ q, upd H p (HO.tup [V.str "number", V.int (NumText.digitsVal r : Nat), V.int i]) q = none →
        Q (V.ref q) (upd (upd H p (HO.tup [V.str "number", V.int (NumText.digitsVal r : Nat), V.int i])) q (HO.tup [V.ref p, V.int r.length])) := fun hb p hp =>
      ⟨sz lw, sz (by decide), fun q hq => k.out (t := .num (NumText.digitsVal r)) (l := r.length) (by rw [et, if_neg (by rw [hb]; decide)]) hp hq⟩
    refine ⟨sz lw, ite2 (fun h4 => rz ?_) (fun h4 => ?_)⟩
    · unfold badNum
      rw [decide_eq_true (show 4 < r.length by omega)]
      rfl
    · have hI : intText? (S r) = some ((NumText.digitsVal r : Nat) : Int) := SX.int_S ad ne (by omega)
      refine ⟨_, hI, by omega, ite2 (fun h5 => rz ?_) (fun h5 => ⟨sz lw, ite2 (fun h6 => ⟨sz lw, ?_⟩) (fun h6 => ⟨_, hI, by omega, sz (by decide), ok ?_⟩)⟩)⟩
      · unfold badNum
        rw [decide_eq_true (show 4095 < NumText.digitsVal r by omega), Bool.or_true, Bool.true_or]
      · obtain ⟨c, q, rfl⟩ : ∃ c q, r = c :: q := by
          cases r with
          | nil => exact absurd rfl ne
          | cons c q => exact ⟨c, q, rfl⟩
        refine ⟨c, atI_nat (j := 0) rfl, ite2 (fun h7 => rz ?_) (fun h7 => ⟨_, hI, by omega, sz (by decide), ok ?_⟩)⟩
        · have e48 : c = 48 := str1.mp (show (⟨#[c]⟩ : Str) = ⟨#[48]⟩ from h7)
          subst e48
          unfold badNum
          rw [decide_eq_true (show 1 < (48 :: q).length by omega), decide_eq_true (show (48 :: q).head? = some 48 from rfl), Bool.and_true, Bool.or_true]
        · have e48 : c ≠ 48 := fun e => h7 (by rw [e]; rfl)
          unfold badNum
          rw [decide_eq_false (show ¬ 4 < (c :: q).length by omega), decide_eq_false (show ¬ 4095 < NumText.digitsVal (c :: q) by omega), decide_eq_false (show ¬ (c :: q).head? = some 48 from fun e => e48 (Option.some.inj e)), Bool.and_false]
          rfl
      · unfold badNum
        rw [decide_eq_false (show ¬ 4 < r.length by omega), decide_eq_false (show ¬ 4095 < NumText.digitsVal r by omega), decide_eq_false (show ¬ 1 < r.length by omega)]
        rfl
end
def sgL : List Str := ["<=>", "==", "<<", ">>", "+=", "-=", "^=", "{", "}", "(", ")", "[", "]", ",", ";", "=", "+", "-", "*", "&", "|", "^", "<"]
theorem sgs_eq : sgs = sgL.map fun s => s.cps.toList := rfl
theorem sg_len : ∀ s ∈ sgL, 1 ≤ s.length ∧ s.length ≤ 3 := by decide +kernel
/-- text[i:i + len(sign)] == sign -/
theorem sl_sign (cs : Cs) {i : Nat} (hi : i < cs.length) (s : Str) : (cutS (S cs) (some (i : Int)) (some ((i : Int) + (s.length : Nat))) = s) ↔ s.cps.toList.isPrefixOf (cs.drop i) = true := by
  have e : (i : Int) + ((s.length : Nat) : Int) = ((i + s.length : Nat) : Int) := by omega
  rw [e, cut_over cs (by omega) (by omega), show i + s.length - i = s.length by omega, List.isPrefixOf_iff_prefix, List.prefix_iff_eq_take]
  have el : s.cps.toList.length = s.length := Array.length_toList
  rw [el]
  constructor
  · intro h
    have q := congrArg (fun x : Str => x.cps.toList) h
    exact q.symm
  · intro h
    rw [← h]
theorem find_none_take {α : Type} (p : α → Bool) : ∀ (l : List α), (∀ (i : Nat) (x : α), l[i]? = some x → p x = false) → l.find? p = none
  | [], _ => rfl
  | x :: l, h => by
    rw [List.find?_cons, h 0 x rfl]
    exact find_none_take p l fun i y e => h (i + 1) y e
theorem find_at {α : Type} (p : α → Bool) : ∀ (l : List α) (i : Nat) (x : α), l[i]? = some x → p x = true → (∀ (j : Nat) (y : α), j < i → l[j]? = some y → p y = false) → l.find? p = some x
  | [], _, _, e, _, _ => by cases e
  | z :: l, 0, x, e, hp, _ => by
    have q : z = x := Option.some.inj e
    subst q
    rw [List.find?_cons, hp]
  | z :: l, i + 1, x, e, hp, h => by
    rw [List.find?_cons, h 0 z (Nat.zero_lt_succ _) rfl]
    exact find_at p l i x e hp fun j y hj e' => h (j + 1) y (Nat.succ_lt_succ hj) e'
def ivTok (H : Hp) (cs : Cs) (i : Nat) : Nat → L2.St → Hp → Prop := fun j σ H' => ∃ v : Option V, σ = [some (.str (S cs)), some (.int i), v] ∧ H' = H ∧ ∀ k z, k < j → sgL[k]? = some z → z.cps.toList.isPrefixOf (cs.drop i) = false
section
variable {P : Program} {w : World} {K : PySem.W.Frag} {mg : Str → Option Value} {base : Heap} {a : Ad}
def spCutTok (C : Addr) : Sp := fun vs H Q E => ∃ (cs : Cs) (i : Nat) (h : i < cs.length), vs = [.str (S cs), .int i] ∧ cs.length ≤ 100000 ∧ TokRes C cs i H Q E
theorem ok_cut_token (T : Txt K mg a) : FnOk P w K mg base (L2.CX P w) 4 a.f_cut_token a.d_cut_token ["text", "spot"] (spCutTok a.c_BadText) := by
  refine T.F_cut_token.okX sc_cut_token (fun vs H Q E h => ?_) (fun cdv A outer s H vs Q E hr h => ?_)
  · obtain ⟨_, _, _, rfl, _⟩ := h
    rfl
  · obtain ⟨cs, i, hi, rfl, hn, k⟩ := h
    refine ⟨_, (pss_cons (ps_if (pt_cmpR op_in_sign (pe_ix ix_str (pv 0) (pv 1) (fun _ _ => rfl)) (pe_glob rfl T.g_LETTERS.choose_spec.1 T.g_LETTERS.choose_spec.2) (by rfl)) (pss_one (ps_ret (pe_call (ok_cut_word T) (hr.mono (by decide)) rfl T.m_cut_word T.F_cut_word.kp T.b_cut_word .nil (passes_call (takes_of rfl rfl rfl rfl) (fun _ _ _ _ q => q)) (pa_cons (pv 0) (pa_cons (pv 1) pa_nil)))))
    pss_nil)
  (pss_cons (ps_if (pt_cmpR op_in_sign (pe_ix ix_str (pv 0) (pv 1) (fun _ _ => rfl)) (pe_glob rfl T.g_FIGURES.choose_spec.1 T.g_FIGURES.choose_spec.2) (by rfl)) (pss_one (ps_ret (pe_call (ok_cut_number T) (hr.mono (by decide)) rfl T.m_cut_number T.F_cut_number.kp T.b_cut_number .nil (passes_call (takes_of rfl rfl rfl rfl) (fun _ _ _ _ q => q)) (pa_cons (pv 0) (pa_cons (pv 1) pa_nil)))))
    pss_nil)
  (pss_cons (ps_for (passes_of rfl) rfl (pi_tup (pe_glob rfl T.g_SIGNS.choose_spec.1 T.g_SIGNS.choose_spec.2)) (pg_name (i := 2) sc_cut_token.nd rfl (by first | exact Or.inl rfl | exact Or.inr rfl)) (pss_one (ps_if (pt_cmpR op_eq (pe_slice sl_str (pv 0) (po_some (pv 1)) (po_some (pe_op op_add (pv 1) (pe_callB call_len_str (by rfl) T.z_len (by decide +kernel) (pa_cons (pv 2) pa_nil))))) (pv 2) (nomark _)) (pss_one (ps_ret (pe_tup (pa_cons (pe_tup (pa_cons pe_str (pa_cons (pv 2) (pa_cons (pv 1) pa_nil)))) (pa_cons (pe_callB call_len_str (by rfl) T.z_len (by decide +kernel) (pa_cons (pv 2) pa_nil)) pa_nil)))))
    pss_nil)))
  (pss_one (ps_raise rfl (takes_of rfl rfl rfl rfl) (pmk_oex T.x_BadText T.xi_BadText T.xt_BadText (ok_BadText_init T) (hr.mono (by decide)) T.b_BadText___init__ .nil pass0 rfl T.m_BadText (pa_cons (pv 1) (pa_cons pe_str pa_nil)))))))), ?_⟩
    have ld : (cs.drop i).headD 0 = cs[i] := headD_drop hi
    have hz : cs.length ≤ sizeLine := sz hn
    walk_at "sm"
    rw [SX.S_len]
    refine ⟨hz, cs[i], str_at cs hi, ?_⟩
    have m1 := low_mem cs[i]
    have m2 := dig_mem cs[i]
    refine ite2 (fun hm => ?_) (fun hm => ⟨hz, cs[i], str_at cs hi, ite2 (fun hm2 => ?_) (fun hm2 => ?_)⟩)
    · have hl : lowB cs[i] = true := by rw [← m1]; exact decide_eq_true hm
      exact ⟨cs, i, hi, rfl, hn, hl, k⟩
    · have hl : lowB cs[i] = false := by rw [← m1]; exact decide_eq_false hm
      have hd : digB cs[i] = true := by rw [← m2]; exact decide_eq_true hm2
      exact ⟨cs, i, hi, rfl, hn, hl, hd, k⟩
    · have hl : lowB cs[i] = false := by rw [← m1]; exact decide_eq_false hm
      have hd : digB cs[i] = false := by rw [← m2]; exact decide_eq_false hm2
      have et : tok1 (cs.drop i) = match sgs.find? (fun s => s.isPrefixOf (cs.drop i)) with | some s => .ok (.sign s, s.length) | none => .error "sign" := by
        unfold tok1
        rw [ld, hl, hd]
        rfl
      refine ⟨_, rfl, ⟨_, T.t_SIGNS H⟩, for_tup (K := K) (a := a.p_SIGNS) (xs := sgL.map V.str) (ivTok H cs i) ⟨none, rfl, rfl, fun k z hk => absurd hk (Nat.not_lt_zero _)⟩ (fun _ _ H' _ _ => T.t_SIGNS H') ?_ ?_⟩
      · rintro j x σ H' hj ⟨v, rfl, rfl, hno⟩
        obtain ⟨z, hz', rfl⟩ := str_at_map hj
        have hzm : z ∈ sgL := List.mem_of_getElem? hz'
        have zl := sg_len z hzm
        walk_at "sm"
        rw [SX.S_len]
        have z3 : z.length ≤ sizeLine := sz (by omega)
        refine ⟨z3, hz, ite2 (fun hc => ?_) (fun hc => ?_)⟩
        · have hp := (sl_sign cs hi z).mp hc
          have ef : sgs.find? (fun s => s.isPrefixOf (cs.drop i)) = some z.cps.toList := by
            refine find_at _ _ j _ (by rw [sgs_eq, List.getElem?_map, hz']; rfl) hp fun m y hm hy => ?_
            rw [sgs_eq, List.getElem?_map] at hy
            cases em : sgL[m]? with
            | none => rw [em] at hy; cases hy
            | some y' =>
              rw [em] at hy
              have q : y'.cps.toList = y := Option.some.inj hy
              rw [← q]
              exact hno m y' hm em
          rw [ef] at et
          have ev : V.str z = V.str (S z.cps.toList) := by rw [SX.S_tl]
          refine ⟨sz (by decide), fun p hp' => ⟨z3, sz (by decide), fun q hq => ?_⟩⟩
          rw [ev] at hq ⊢
          exact k.out et hp' hq
        · refine ⟨some (.str z), rfl, rfl, fun m y hm hy => ?_⟩
          by_cases hmj : m < j
          · exact hno m y hmj hy
          · have e : m = j := by omega
            subst e
            rw [hz'] at hy
            cases hy
            exact Bool.eq_false_iff.mpr fun q => hc ((sl_sign cs hi z).mpr q)
      · rintro σ H' ⟨v, rfl, rfl, hno⟩
        walk_at "sm"
        refine mk2 (k.1 _ ?_)
        have ef : sgs.find? (fun s => s.isPrefixOf (cs.drop i)) = none := by
          refine find_none_take _ _ fun m y hy => ?_
          rw [sgs_eq, List.getElem?_map] at hy
          cases em : sgL[m]? with
          | none => rw [em] at hy; cases hy
          | some y' =>
            rw [em] at hy
            have q : y'.cps.toList = y := Option.some.inj hy
            rw [← q]
            refine hno m y' ?_ em
            rw [List.length_map]
            exact (List.getElem?_eq_some_iff.mp em).1
        rw [et, ef]
def GoodT : Tk → Prop
  | .word w => lowB (w.headD 0) = true
  | .name w => lowB (w.headD 0) = true
  | .num n => n ≤ 4095
  | .sign s => s ∈ sgs
theorem tok1_word {r : Cs} {t : Tk} {l : Nat} (h : tok1 r = .ok (t, l)) : GoodT t := by
  unfold tok1 at h
  have hd : lowB (r.headD 0) = true → lowB ((r.takeWhile alnB).headD 0) = true := fun q => by
    cases r with
    | nil => exact q
    | cons c q' =>
      have qc : lowB c = true := q
      rw [List.takeWhile_cons, if_pos (by unfold alnB; rw [qc]; rfl)]
      exact qc
  by_cases h1 : lowB (r.headD 0) = true
  · rw [if_pos h1] at h
    split at h
    · cases h
    · by_cases h2 : kws.contains (r.takeWhile alnB) = true
      · rw [if_pos h2] at h
        cases h
        exact hd h1
      · rw [if_neg h2] at h
        cases h
        exact hd h1
  · rw [if_neg h1] at h
    split at h
    · split at h
      · cases h
      · rename_i hb
        cases h
        show NumText.digitsVal _ ≤ 4095
        unfold badNum at hb
        simp only [Bool.or_eq_true, decide_eq_true_eq, not_or, Bool.and_eq_true] at hb
        omega
    · split at h
      · rename_i s hs
        cases h
        exact List.mem_of_find?_eq_some hs
      · cases h
def closeT (t : Tk) : Bool := inV t.val [.str "}", .str ")", .str "]"]
def openT (t : Tk) : Bool := inV t.val [.str "{", .str "(", .str "["]
theorem close_str (w : Cs) : inV (.str (S w)) [.str "}", .str ")", .str "]"] = decide (w = [125] ∨ w = [41] ∨ w = [93]) := by
  have e := inV_str w ["}", ")", "]"]
  have e2 : inV (.str (S w)) [.str "}", .str ")", .str "]"] = ([[125], [41], [93]] : List Cs).contains w := e
  rw [e2]
  apply Bool.eq_iff_iff.mpr
  simp
theorem open_str (w : Cs) : inV (.str (S w)) [.str "{", .str "(", .str "["] = decide (w = [123] ∨ w = [40] ∨ w = [91]) := by
  have e := inV_str w ["{", "(", "["]
  have e2 : inV (.str (S w)) [.str "{", .str "(", .str "["] = ([[123], [40], [91]] : List Cs).contains w := e
  rw [e2]
  apply Bool.eq_iff_iff.mpr
  simp
theorem low_no {w : Cs} (h : lowB (w.headD 0) = true) : ¬ (w = [125] ∨ w = [41] ∨ w = [93]) ∧ ¬ (w = [123] ∨ w = [40] ∨ w = [91]) := by
  constructor <;> (intro q; rcases q with rfl | rfl | rfl <;> exact absurd h (by decide))
theorem brk_eq {r : Cs} {t : Tk} {l : Nat} (h : tok1 r = .ok (t, l)) (b : Nat) : brk t b = if closeT t = true then some (b - 1) else if openT t = true then (if b = 20 then none else some (b + 1)) else some b := by
  have q := tok1_word h
  cases t with
  | word w =>
    have n := low_no (w := w) q
    have e1 : closeT (.word w) = false := by show inV (.str (S w)) _ = _; rw [close_str]; exact decide_eq_false n.1
    have e2 : openT (.word w) = false := by show inV (.str (S w)) _ = _; rw [open_str]; exact decide_eq_false n.2
    rw [e1, e2]; rfl
  | name w =>
    have n := low_no (w := w) q
    have e1 : closeT (.name w) = false := by show inV (.str (S w)) _ = _; rw [close_str]; exact decide_eq_false n.1
    have e2 : openT (.name w) = false := by show inV (.str (S w)) _ = _; rw [open_str]; exact decide_eq_false n.2
    rw [e1, e2]; rfl
  | num n => rfl
  | sign s =>
    have e1 : closeT (.sign s) = decide (s = [125] ∨ s = [41] ∨ s = [93]) := close_str s
    have e2 : openT (.sign s) = decide (s = [123] ∨ s = [40] ∨ s = [91]) := open_str s
    rw [e1, e2]
    show (if s = [125] ∨ s = [41] ∨ s = [93] then some (b - 1) else if s = [123] ∨ s = [40] ∨ s = [91] then (if b = 20 then none else some (b + 1)) else some b) = _
    simp only [decide_eq_true_eq]
theorem val_flat (t : Tk) : flatV t.val = true := by cases t <;> rfl
def spBrk (K : PySem.W.Frag) (C : Addr) : Sp := fun vs H Q E => ∃ (c : Addr) (n i : Nat) (r : Cs) (t : Tk) (l : Nat), vs = [.ref c, .int n] ∧ H c = some (.tup (t.v i)) ∧ tok1 r = .ok (t, l) ∧
  (brk t n = none → Rz C H E i "deep") ∧ ∀ b', brk t n = some b' → ∀ H', Evl.Ex H H' → Q (.int (b' : Nat)) H'
theorem ok_brackets_behind (T : Txt K mg a) : FnOk P w K mg base (L2.CX P w) 3 a.f_brackets_behind a.d_brackets_behind ["token", "brackets"] (spBrk K a.c_BadText) := by
  refine T.F_brackets_behind.okX sc_brackets_behind (fun vs H Q E h => ?_) (fun cdv A outer s H vs Q E hr h => ?_)
  · obtain ⟨_, _, _, _, _, _, rfl, _⟩ := h
    rfl
  · obtain ⟨c, n, i, r, t, l, rfl, hc, ht, k1, k2⟩ := h
    refine ⟨_, (pss_cons (ps_asg (pv 0) (pg_tup rfl (pgs_cons (pg_name (i := 2) sc_brackets_behind.nd rfl (by first | exact Or.inl rfl | exact Or.inr rfl)) (pgs_cons (pg_name (i := 3) sc_brackets_behind.nd rfl (by first | exact Or.inl rfl | exact Or.inr rfl)) (pgs_cons (pg_name (i := 4) sc_brackets_behind.nd rfl (by first | exact Or.inl rfl | exact Or.inr rfl)) pgs_nil)))))
  (pss_cons (ps_if (pt_cmpR op_in_seq (pv 3) (pe_tup (pa_cons pe_str (pa_cons pe_str (pa_cons pe_str pa_nil)))) (by rfl)) (pss_one (ps_ret (pe_callB (call_max2 rfl) (by rfl) T.z_max (by decide +kernel) (pa_cons pe_int (pa_cons (pe_op op_sub (pv 1) pe_int) pa_nil)))))
    pss_nil)
  (pss_cons (ps_if (pt_cmpR op_notIn_seq (pv 3) (pe_tup (pa_cons pe_str (pa_cons pe_str (pa_cons pe_str pa_nil)))) (by rfl)) (pss_one (ps_ret (pv 1)))
    pss_nil)
  (pss_cons (ps_if (pt_cmpR op_eq (pv 1) (pe_glob rfl T.g_MOST_BRACKETS.choose_spec.1 T.g_MOST_BRACKETS.choose_spec.2) (nomark _)) (pss_one (ps_raise rfl (takes_of rfl rfl rfl rfl) (pmk_oex T.x_BadText T.xi_BadText T.xt_BadText (ok_BadText_init T) (hr.mono (by decide)) T.b_BadText___init__ .nil pass0 rfl T.m_BadText (pa_cons (pv 4) (pa_cons pe_str pa_nil)))))
    pss_nil)
  (pss_one (ps_ret (pe_op op_add (pv 1) pe_int))))))), ?_⟩
    have eb := brk_eq ht n
    walk_at "sm"
    refine ⟨_, .inl (.inl hc), rfl, ?_⟩
    walk_at "sm"
    refine ⟨_, _, rfl, _, _, rfl, _, _, rfl, rfl, sz (by decide), fun p hp => ?_⟩
    refine in_tup (SqT.of upd_same) (val_flat t) rfl ⟨_, rfl, ?_⟩
    have e1 : Evl.Ex H (upd H p (HO.tup [V.str "}", V.str ")", V.str "]"])) := Evl.Ex.new hp
    generalize upd H p (HO.tup [V.str "}", V.str ")", V.str "]"]) = H1 at *
    refine ite2 (fun hcl => ?_) (fun hcl => ⟨sz (by decide), fun q hq => ?_⟩)
    · have ec : closeT t = true := hcl
      rw [ec, if_pos rfl] at eb
      have em : (if (n : Int) - 1 > 0 then (n : Int) - 1 else 0) = ((n - 1 : Nat) : Int) := by split <;> omega
      rw [em]
      exact k2 _ eb H1 e1
    · have ec : closeT t = false := Bool.eq_false_iff.mpr hcl
      rw [ec, if_neg (by decide)] at eb
      refine ni_tup (SqT.of upd_same) (val_flat t) rfl ⟨_, rfl, ?_⟩
      have e2 : Evl.Ex H (upd H1 q (HO.tup [V.str "{", V.str "(", V.str "["])) := e1.trans (Evl.Ex.new hq)
      generalize upd H1 q (HO.tup [V.str "{", V.str "(", V.str "["]) = H2 at *
      refine ite2 (fun hop => ?_) (fun hop => ?_)
      · have eo : openT t = false := by
          have hop' : (!openT t) = true := hop
          simpa using hop'
        rw [eo, if_neg (by decide)] at eb
        exact k2 _ eb H2 e2
      · have eo : openT t = true := by
          have hop' : ¬ (!openT t) = true := hop
          simpa using hop'
        rw [eo, if_pos rfl] at eb
        refine ite2 (fun h20 => ?_) (fun h20 => ?_)
        · rw [if_pos (by omega)] at eb
          exact mk2 ((k1 eb).go e2)
        · rw [if_neg (by omega)] at eb
          exact k2 _ eb H2 e2
end
def ToksAt (H : Hp) (xs : List V) (ts : List (List V)) : Prop := Paired (fun v vs => ∃ b, v = V.ref b ∧ H b = some (.tup vs)) xs ts
theorem ToksAt.go {H H' : Hp} (e : Evl.Ex H H') {xs : List V} {ts : List (List V)} (h : ToksAt H xs ts) : ToksAt H' xs ts := Paired.mapP h fun _ _ ⟨b, e1, e2⟩ => ⟨b, e1, e b _ e2⟩
def CutRes (C : Addr) (cs : Cs) (m : Int) (H : Hp) (Q : VK) (E : XK) : Prop := (m < cs.length → Rz C H E (-1) "long") ∧ (¬ m < cs.length → (∀ i w, scan cs 0 0 = .error (i, w) → Rz C H E (i : Nat) w) ∧
  ∀ ts, scan cs 0 0 = .ok ts → ∀ p xs H', Evl.Ex H H' → H' p = some (.tup xs) → ToksAt H' xs ts → Q (.ref p) H')
def ivCut (H : Hp) (cs : Cs) (m : Int) (l : Addr) : Nat → L2.St → Hp → Prop := fun n σ H' => ∃ (xs : List V) (ts : List (List V)) (i b : Nat) (v1 v2 : Option V), σ = [some (.str (S cs)), some (.int m), some (.ref l), some (.int b), some (.int i), v1, v2] ∧
  H' l = some (.lst xs) ∧ ToksAt H' xs ts ∧ Evl.Ex H H' ∧ xs.length ≤ i ∧ i ≤ cs.length ∧ n = cs.length - i ∧ scan cs 0 0 = pre ts (scan cs i b)
def below (W : Nat → L2.St → Hp → Prop) (n : Nat) : L2.St → Hp → Prop := fun σ' H' => ∃ m', m' < n ∧ W m' σ' H'
section
variable {P : Program} {w : World} {K : PySem.W.Frag} {mg : Str → Option Value} {base : Heap} {a : Ad}
def spCutText (C : Addr) : Sp := fun vs H Q E => (∃ (cs : Cs) (m : Int), vs = [.str (S cs), .int m] ∧ cs.length ≤ 90000 ∧ CutRes C cs m H Q E) ∨ ∃ n m : Int, vs = [.int n, .int m] ∧ Rz C H E (-1) "text"
theorem ok_cut_text (T : Txt K mg a) : FnOk P w K mg base (L2.CX P w) 5 a.f_cut_text a.d_cut_text ["text", "most"] (spCutText a.c_BadText) := by
  refine T.F_cut_text.okX sc_cut_text (fun vs H Q E h => ?_) (fun cdv A outer s H vs Q E hr h => ?_)
  · obtain ⟨_, _, rfl, _⟩ | ⟨_, _, rfl, _⟩ := h <;> rfl
  · refine ⟨_, (pss_cons (ps_if (pt_not (pt_val (pe_callB call_isi (by rfl) T.z_isinstance (by decide +kernel) (pa_cons (pv 0) (pa_cons (pe_bltn (v := .ty "str") (by rfl) T.z_str (by decide +kernel) rfl) pa_nil))))) (pss_one (ps_raise rfl (takes_of rfl rfl rfl rfl) (pmk_oex T.x_BadText T.xi_BadText T.xt_BadText (ok_BadText_init T) (hr.mono (by decide)) T.b_BadText___init__ .nil pass0 rfl T.m_BadText (pa_cons (pe_un un_neg pe_int) (pa_cons pe_str pa_nil)))))
    pss_nil)
  (pss_cons (ps_if (pt_cmpR op_gt (pe_callB call_len_str (by rfl) T.z_len (by decide +kernel) (pa_cons (pv 0) pa_nil)) (pv 1) (nomark _)) (pss_one (ps_raise rfl (takes_of rfl rfl rfl rfl) (pmk_oex T.x_BadText T.xi_BadText T.xt_BadText (ok_BadText_init T) (hr.mono (by decide)) T.b_BadText___init__ .nil pass0 rfl T.m_BadText (pa_cons (pe_un un_neg pe_int) (pa_cons pe_str pa_nil)))))
    pss_nil)
  (pss_cons (ps_set (i := 2) sc_cut_text.nd rfl (by first | exact Or.inl rfl | exact Or.inr rfl) (pe_lst pa_nil))
  (pss_cons (ps_set (i := 3) sc_cut_text.nd rfl (by first | exact Or.inl rfl | exact Or.inr rfl) pe_int)
  (pss_cons (ps_set (i := 4) sc_cut_text.nd rfl (by first | exact Or.inl rfl | exact Or.inr rfl) pe_int)
  (pss_cons (ps_while (passes_of rfl) (pt_cmpR op_lt (pv 4) (pe_callB call_len_str (by rfl) T.z_len (by decide +kernel) (pa_cons (pv 0) pa_nil)) (nomark _)) (pss_cons (ps_if (pt_cmpR op_in_sign (pe_ix ix_str (pv 0) (pv 4) (fun _ _ => rfl)) pe_str (by rfl)) (pss_cons (ps_aug (i := 4) sc_cut_text.nd rfl (by first | exact Or.inl rfl | exact Or.inr rfl) pe_int ip_add)
  (pss_one ps_continue))
    pss_nil)
  (pss_cons (ps_asg (pe_call (ok_cut_token T) (hr.mono (by decide)) rfl T.m_cut_token T.F_cut_token.kp T.b_cut_token .nil (passes_call (takes_of rfl rfl rfl rfl) (fun _ _ _ _ q => q)) (pa_cons (pv 0) (pa_cons (pv 4) pa_nil))) (pg_tup rfl (pgs_cons (pg_name (i := 5) sc_cut_text.nd rfl (by first | exact Or.inl rfl | exact Or.inr rfl)) (pgs_cons (pg_name (i := 6) sc_cut_text.nd rfl (by first | exact Or.inl rfl | exact Or.inr rfl)) pgs_nil))))
  (pss_cons (ps_set (i := 3) sc_cut_text.nd rfl (by first | exact Or.inl rfl | exact Or.inr rfl) (pe_call (ok_brackets_behind T) (hr.mono (by decide)) rfl T.m_brackets_behind T.F_brackets_behind.kp T.b_brackets_behind .nil (passes_call (takes_of rfl rfl rfl rfl) (fun _ _ _ _ q => q)) (pa_cons (pv 5) (pa_cons (pv 3) pa_nil))))
  (pss_cons (ps_expr (pe_bm PySem.F.plainAttrs_list PySem.F.slot_list_append PySem.F.type_list_append mt_append (pv 2) (pa_cons (pv 5) pa_nil)))
  (pss_one (ps_aug (i := 4) sc_cut_text.nd rfl (by first | exact Or.inl rfl | exact Or.inr rfl) (pv 6) ip_add)))))))
  (pss_cons (ps_expr (pe_bm PySem.F.plainAttrs_list PySem.F.slot_list_append PySem.F.type_list_append mt_append (pv 2) (pa_cons (pe_tup (pa_cons pe_str (pa_cons pe_str (pa_cons (pe_callB call_len_str (by rfl) T.z_len (by decide +kernel) (pa_cons (pv 0) pa_nil)) pa_nil)))) pa_nil)))
  (pss_one (ps_ret (pe_callTy call_tuple_of (by rfl) T.z_tuple (by decide +kernel) (pa_cons (pv 2) pa_nil))))))))))), ?_⟩
    obtain ⟨cs, m, rfl, hn, k⟩ | ⟨n, m, rfl, k⟩ := h
    · walk_at "sm"
      refine isi_ty (t := "str") (b := true) (.base (.str _)) (by decide +kernel) ⟨_, rfl, ?_⟩
      walk_at "sm"
      rw [SX.S_len]
      have hz : cs.length ≤ sizeLine := sz (by omega)
      refine ⟨hz, ite2 (fun hm => mk2 (k.1 hm)) (fun hm => ⟨sz (by decide), fun l hl => ?_⟩)⟩
      obtain ⟨k1, k2⟩ := k.2 hm
      refine ⟨ivCut H cs m l, ⟨_, [], [], 0, 0, none, none, rfl, upd_same, .nil, Evl.Ex.new hl, Nat.le_refl _, Nat.zero_le _, rfl, (pre_nil _).symm⟩, ?_⟩
      rintro n σ H1 ⟨xs, ts, i, b, v1, v2, rfl, hl1, tk, e1, hx, hi, rfl, sc⟩
      walk_at "sm"
      rw [SX.S_len]
      refine ⟨hz, ite2 (fun hlt => ?_) (fun hlt => ?_)⟩
      · have hi' : i < cs.length := by omega
        refine ⟨below (ivCut H cs m l) (cs.length - i), fun _ _ h => h, hz, cs[i], str_at cs hi', ?_⟩
        have mb := bl_mem cs[i]
        walk_at "sm"
        refine ite2 (fun hb => ?_) (fun hb => ?_)
        · have hb' : blB cs[i] = true := by rw [← mb]; exact decide_eq_true hb
          rw [scan_bl hi' hb'] at sc
          exact ⟨_, by omega, xs, ts, i + 1, b, v1, v2, rfl, hl1, tk, e1, by omega, by omega, rfl, sc⟩
        · have hb' : blB cs[i] = false := by rw [← mb]; exact decide_eq_false hb
          refine ⟨cs, i, hi', rfl, by omega, fun w ht => ?_, fun t n ht c p H2 e2 hc0 hc hp => ?_⟩
          · rw [scan_err hi' hb' ht] at sc
            exact (k1 i w sc).go e1
          · have hn1 := tok1_len (by rw [drop_at hi']; exact List.cons_ne_nil _ _) ht
            have hn2 := tok1_le ht
            rw [List.length_drop] at hn2
            refine ⟨p, rfl, _, SqT.of hp, rfl, _, _, rfl, _, _, rfl, rfl, c, b, i, _, t, n, rfl, hc, ht, fun hk => ?_, fun b' hk H3 e3 => ?_⟩
            · rw [scan_deep hi' hb' ht hk] at sc
              exact (k1 i _ sc).go (e1.trans e2)
            · rw [scan_tok hi' hb' ht hk hn1, pre_pre] at sc
              have hl3 : H3 l = some (.lst xs) := e3 _ _ (e2 _ _ hl1)
              walk_at "sm"
              refine ⟨.inl ⟨rfl, _, SqL.of hl3⟩, l, xs, _, rfl, rfl, hl3, Nat.lt_of_le_of_lt (show xs.length ≤ 90000 by omega) (by decide), ?_⟩
              have eu : Evl.Ex H (upd H3 l (.lst (xs ++ [.ref c]))) := Evl.Ex.mut (e1.trans (e2.trans e3)) hl
              have ncl : ∀ q o, H3 q = some o → q ≠ l → (upd H3 l (.lst (xs ++ [.ref c]))) q = some o := fun q o hq nq => by rw [upd_ne nq]; exact hq
              have tk3 : ToksAt (upd H3 l (.lst (xs ++ [.ref c]))) xs ts := Paired.mapP (tk.go (e2.trans e3)) fun _ _ ⟨q, e4, e5⟩ => ⟨q, e4, ncl q _ e5 (ne_of e5 hl3 (by intro z; cases z))⟩
              refine ⟨_, ?_, xs ++ [.ref c], ts ++ [t.v i], i + n, b', some (.ref c), some (.int n), rfl, upd_same, Paired.snoc ⟨c, rfl, ncl c _ (e3 _ _ hc) (ne_of (e3 _ _ hc) hl3 (by intro z; cases z))⟩ tk3, eu, ?_, by omega, rfl, sc⟩
              · omega
              · rw [List.length_append, List.length_singleton]; omega
      · have hi' : ¬ i < cs.length := by omega
        rw [scan_end hi'] at sc
        walk_at "sm"
        refine ⟨.inl ⟨rfl, _, SqL.of hl1⟩, hz, sz (by decide), fun p hp => ?_⟩
        have hl2 : (upd H1 p (.tup (endV cs))) l = some (.lst xs) := by rw [upd_ne (ne_of_none hl1 hp)]; exact hl1
        have hp2 : (upd H1 p (.tup (endV cs))) p = some (.tup (endV cs)) := upd_same
        have e2 : Evl.Ex H (upd H1 p (.tup (endV cs))) := e1.trans (Evl.Ex.new hp)
        have tk2 := tk.go (Evl.Ex.new hp (o := .tup (endV cs)))
        show rAppend (V.ref l) [V.ref p] (upd H1 p (.tup (endV cs))) _
        generalize upd H1 p (.tup (endV cs)) = H2 at *
        refine ⟨l, xs, _, rfl, rfl, hl2, Nat.lt_of_le_of_lt (show xs.length ≤ 90000 by omega) (by decide), _, .inl ⟨SqL.of upd_same, fun q hq => ?_⟩⟩
        have e3 : Evl.Ex H (upd H2 l (.lst (xs ++ [.ref p]))) := Evl.Ex.mut e2 hl
        have hp3 : (upd H2 l (.lst (xs ++ [.ref p]))) p = some (.tup (endV cs)) := by rw [upd_ne (ne_of hp2 hl2 (by intro z; cases z))]; exact hp2
        have tk3 : ToksAt (upd H2 l (.lst (xs ++ [.ref p]))) xs ts := Paired.mapP tk2 fun _ _ ⟨q, e4, e5⟩ => ⟨q, e4, by rw [upd_ne (ne_of e5 hl2 (by intro z; cases z))]; exact e5⟩
        generalize upd H2 l (.lst (xs ++ [.ref p])) = H3 at *
        exact k2 (ts ++ [endV cs]) sc q (xs ++ [.ref p]) _ (e3.trans (Evl.Ex.new hq)) upd_same (ToksAt.go (Evl.Ex.new hq) (Paired.snoc ⟨p, rfl, hp3⟩ tk3))
    · walk_at "sm"
      exact isi_ty (t := "int") (b := false) (.base (.int _)) (by decide +kernel) ⟨_, rfl, mk2 k⟩
end



/-! ### data of tuples alone -/
mutual
inductive At (H : Hp) : V → PyData → Prop where
  | non : At H .non .none
  | bl (b : Bool) : At H (.bl b) (.bool b)
  | int (i : Int) : At H (.int i) (.int i)
  | str (x : Str) : At H (.str x) (.str x)
  | tup {a : Addr} {xs : List V} {ds : List PyData} : H a = some (.tup xs) → AtAll H xs ds → At H (.ref a) (.tuple ds)
inductive AtAll (H : Hp) : List V → List PyData → Prop where
  | nil : AtAll H [] []
  | cons {v : V} {vs : List V} {d : PyData} {ds : List PyData} : At H v d → AtAll H vs ds → AtAll H (v :: vs) (d :: ds)
end
/-- the tuples stand -/
def Tp (H H' : Hp) : Prop := ∀ b xs, H b = some (.tup xs) → H' b = some (.tup xs)
theorem Tp.refl (H : Hp) : Tp H H := fun _ _ h => h
theorem Tp.trans {H H1 H2 : Hp} (a : Tp H H1) (b : Tp H1 H2) : Tp H H2 := fun c o h => b c o (a c o h)
theorem Tp.ex {H H' : Hp} (e : Evl.Ex H H') : Tp H H' := fun b xs h => e b _ h
theorem Tp.fr {H H' : Hp} {p : Addr} {l : List V} (f : Fr p H H') (h : H p = some (.lst l)) : Tp H H' := fun b xs hb => f b _ (ne_of hb h (by intro z; cases z)) hb
theorem Tp.upd {H : Hp} {p : Addr} {l : List V} {o : HO} (h : H p = some (.lst l)) : Tp H (L2.upd H p o) := fun b xs hb => by
  rw [upd_ne (ne_of hb h (by intro z; cases z))]
  exact hb
mutual
theorem At.go {H H' : Hp} (e : Tp H H') : ∀ (d : PyData) (v : V), At H v d → At H' v d
  | .none, _, h => by cases h; exact .non
  | .bool b, _, h => by cases h; exact .bl b
  | .int i, _, h => by cases h; exact .int i
  | .str x, _, h => by cases h; exact .str x
  | .tuple ds, _, h => by cases h with
    | tup h1 h2 => exact .tup (e _ _ h1) (AtAll.go e ds _ h2)
  | .list _, _, h => nomatch h
  | .dict _, _, h => nomatch h
theorem AtAll.go {H H' : Hp} (e : Tp H H') : ∀ (ds : List PyData) (vs : List V), AtAll H vs ds → AtAll H' vs ds
  | [], _, h => by cases h; exact .nil
  | d :: ds, _, h => by cases h with
    | cons h1 h2 => exact .cons (At.go e d _ h1) (AtAll.go e ds _ h2)
end
mutual
theorem At.dp {K : PySem.W.Frag} {H : Hp} : ∀ (d : PyData) (v : V), At H v d → Dp K H v d
  | .none, _, h => by cases h; exact .non
  | .bool b, _, h => by cases h; exact .bl b
  | .int i, _, h => by cases h; exact .int i
  | .str x, _, h => by cases h; exact .str x
  | .tuple ds, _, h => by cases h with
    | tup h1 h2 => exact .tup (SqT.of h1) (AtAll.dp ds _ h2)
  | .list _, _, h => nomatch h
  | .dict _, _, h => nomatch h
theorem AtAll.dp {K : PySem.W.Frag} {H : Hp} : ∀ (ds : List PyData) (vs : List V), AtAll H vs ds → DpAll K H vs ds
  | [], _, h => by cases h; exact .nil
  | d :: ds, _, h => by cases h with
    | cons h1 h2 => exact .cons (At.dp d _ h1) (AtAll.dp ds _ h2)
end
theorem At.ex {H H' : Hp} {v : V} {d : PyData} (e : Evl.Ex H H') (h : At H v d) : At H' v d := At.go (Tp.ex e) d v h
theorem AtAll.ex {H H' : Hp} {v : List V} {d : List PyData} (e : Evl.Ex H H') (h : AtAll H v d) : AtAll H' v d := AtAll.go (Tp.ex e) d v h
theorem AtAll.len {H : Hp} : ∀ {vs : List V} {ds : List PyData}, AtAll H vs ds → vs.length = ds.length
  | _, _, .nil => rfl
  | _, _, .cons _ t => by rw [List.length_cons, List.length_cons, AtAll.len t]
theorem AtAll.snoc {H : Hp} : ∀ {vs : List V} {ds : List PyData} {v : V} {d : PyData}, AtAll H vs ds → At H v d → AtAll H (vs ++ [v]) (ds ++ [d])
  | _, _, _, _, .nil, h => .cons h .nil
  | _, _, _, _, .cons a t, h => .cons a (t.snoc h)
theorem AtAll.at {H : Hp} : ∀ {vs : List V} {ds : List PyData} {i : Nat} {v : V}, AtAll H vs ds → vs[i]? = some v → ∃ d, ds[i]? = some d ∧ At H v d
  | _, _, _, _, .nil, h => by cases h
  | _, _, 0, _, .cons a _, h => by cases h; exact ⟨_, rfl, a⟩
  | _, _, i + 1, _, .cons _ t, h => t.at (i := i) h
/-! ### reading -/
abbrev Er := Bool × Nat × Str
abbrev R (α : Type) := Option (Except Er α)
def rok {α : Type} (a : α) : R α := some (.ok a)
def rer {α : Type} (b : Bool) (i : Nat) (w : Str) : R α := some (.error (b, i, w))
def bnd {α β : Type} (x : R α) (f : α → R β) : R β := match x with
  | none => none
  | some (.error e) => some (.error e)
  | some (.ok a) => f a
abbrev Tok := Option Tk × Nat
def tkV (t : Tok) : List V := match t.1 with
  | some k => k.v t.2
  | none => [.str "end", .str "", .int t.2]
def isS (t : Tok) (v : Cs) : Bool := match t.1 with
  | some (.sign s) => decide (s = v)
  | some (.word s) => decide (s = v)
  | _ => false
def rSign (ts : List Tok) (i : Nat) (v : Cs) : R Nat := match ts[i]? with
  | none => none
  | some t => if isS t v = true then rok (i + 1) else rer false t.2 "want"
def rNum (ts : List Tok) (i : Nat) : R (Nat × Nat) := match ts[i]? with
  | none => none
  | some t => match t.1 with
    | some (.num n) => rok (n, i + 1)
    | _ => rer false t.2 "want"
def rChk (d i : Nat) : R Nat := if 60 < d then rer false i "deep" else rok d
def strgs : List (Cs × Nat) := [([61, 61], 1), ([60], 1), ([124], 2), ([94], 3), ([38], 4), ([43], 5), ([45], 5), ([42], 6), ([60, 60], 7), ([62, 62], 7)]
def strg (s : Cs) : Option Nat := strgs.lookup s
def isSh (s : Cs) : Bool := decide (s = [60, 60]) || decide (s = [62, 62])
abbrev Ex3 := PyData × Nat × Nat
abbrev Sub := Nat → Nat → R Ex3
def dOp (k : List PyData) (ds : List PyData) : PyData := .tuple [.str "op", .tuple k, .tuple ds]
def atT {α : Type} (ts : List Tok) (i : Nat) (f : Tok → R α) : R α := match ts[i]? with
  | some t => f t
  | none => none
/-- the sign of a token that stands between two operands, and its strength -/
def opOf (t : Tok) : Option (Cs × Nat) := match t.1 with
  | some (.sign s) => (strg s).map fun g => (s, g)
  | _ => none
def rLoop (sub : Sub) (ts : List Tok) (least : Nat) : Nat → PyData → Nat → Nat → R Ex3
  | 0, _, _, _ => none
  | n + 1, one, dep, i => atT ts i fun t => match opOf t with
    | none => rok (one, dep, i)
    | some (s, g) => if g < least then rok (one, dep, i) else if isSh s = true then
        bnd (rNum ts (i + 1)) fun r => bnd (rChk (dep + 1) t.2) fun d => rLoop sub ts least n (dOp [.str (S s), .int r.1] [one]) d r.2
      else bnd (sub (i + 1) (g + 1)) fun r => bnd (rChk (max dep r.2.1 + 1) t.2) fun d => rLoop sub ts least n (dOp [.str (S s)] [one, r.1]) d r.2.2
def rParts (sub : Sub) (ts : List Tok) : Nat → List PyData → Nat → Nat → R (List PyData × Nat × Nat)
  | 0, _, _, _ => none
  | n + 1, acc, gr, i => bnd (sub i 0) fun r => match ts[r.2.2]? with
    | none => none
    | some t => if isS t [44] = true then rParts sub ts n (acc ++ [r.1]) (max gr r.2.1) (r.2.2 + 1) else bnd (rSign ts r.2.2 [41]) fun j => rok (acc ++ [r.1], max gr r.2.1, j)
def rPartsA (sub : Sub) (ts : List Tok) (i : Nat) : R (List PyData × Nat × Nat) := match ts[i]? with
  | none => none
  | some t => if isS t [41] = true then rok ([], 0, i + 1) else rParts sub ts ts.length [] 0 i
abbrev Fun3 := Cs × Nat × Nat
def rCall (sub : Sub) (ts : List Tok) (fs : List Fun3) (nm : Cs) (sp i : Nat) : R Ex3 := match fs.find? (fun f => decide (f.1 = nm)) with
  | none => rer true sp "elder"
  | some f => bnd (rPartsA sub ts (i + 2)) fun r => if r.1.length = f.2.1 then bnd (rChk (1 + max r.2.1 f.2.2) sp) fun d => rok (.tuple [.str "call", .str (S nm), .tuple r.1], d, r.2.2) else rer true sp "many"
def rNm1 (ns : Option (List Cs)) (nm : Cs) (sp i : Nat) : R Ex3 := match ns with
  | some l => if l.contains nm = true then rok (.tuple [.str "name", .str (S nm)], 1, i + 1) else rer true sp "unknown"
  | none => rok (.tuple [.str "name", .str (S nm)], 1, i + 1)
def rNamed (sub : Sub) (ts : List Tok) (ns : Option (List Cs)) (fs : List Fun3) (nm : Cs) (sp i : Nat) : R Ex3 := match ts[i + 1]? with
  | none => none
  | some t => if isS t [40] = true then rCall sub ts fs nm sp i else rNm1 ns nm sp i
def rPick (sub : Sub) (ts : List Tok) (sp i : Nat) : R Ex3 :=
  bnd (rSign ts (i + 1) [40]) fun a => bnd (sub a 0) fun x => bnd (rSign ts x.2.2 [44]) fun b => bnd (sub b 0) fun y => bnd (rSign ts y.2.2 [44]) fun c => bnd (sub c 0) fun z => bnd (rSign ts z.2.2 [41]) fun e =>
    bnd (rChk (1 + max (max x.2.1 y.2.1) z.2.1) sp) fun d => rok (dOp [.str "pick"] [x.1, y.1, z.1], d, e)
def rNums (ts : List Tok) : Nat → List Nat → Nat → R (List Nat × Nat)
  | 0, _, _ => none
  | n + 1, acc, i => atT ts i fun t => if isS t [44] = true then bnd (rNum ts (i + 1)) fun r => rNums ts n (acc ++ [r.1]) r.2
      else bnd (rSign ts i [93]) fun j => if [1, 2, 4, 8, 16].contains acc.length = true then rok (acc, j) else rer false t.2 "many"
def rNumsA (ts : List Tok) (i : Nat) : R (List Nat × Nat) := bnd (rNum ts i) fun r => rNums ts ts.length [r.1] r.2
def dNs (l : List Nat) : PyData := .tuple (l.map fun n => PyData.int (n : Nat))
def rTable (sub : Sub) (ts : List Tok) (sp i : Nat) : R Ex3 :=
  bnd (rSign ts (i + 1) [91]) fun a => bnd (rNumsA ts a) fun l => bnd (rSign ts l.2 [40]) fun b => bnd (sub b 0) fun x => bnd (rSign ts x.2.2 [41]) fun e => bnd (rChk (x.2.1 + 1) sp) fun d => rok (dOp [.str "table", dNs l.1] [x.1], d, e)
def wPick : Cs := [112, 105, 99, 107]
def wTable : Cs := [116, 97, 98, 108, 101]
def rPart (sub : Sub) (ts : List Tok) (ns : Option (List Cs)) (fs : List Fun3) (i : Nat) : R Ex3 := atT ts i fun t => match t.1 with
  | some (.num n) => rok (.tuple [.str "number", .int n], 1, i + 1)
  | some (.name w) => rNamed sub ts ns fs w t.2 i
  | _ => if isS t wPick = true then rPick sub ts t.2 i else if isS t wTable = true then rTable sub ts t.2 i else
      bnd (rSign ts i [40]) fun a => bnd (sub a 0) fun x => bnd (rSign ts x.2.2 [41]) fun e => rok (x.1, x.2.1, e)
def rDeep (ts : List Tok) (ns : Option (List Cs)) (fs : List Fun3) : Nat → Sub
  | 0 => fun _ _ => none
  | k + 1 => fun i least => bnd (rPart (rDeep ts ns fs k) ts ns fs i) fun r => rLoop (rDeep ts ns fs k) ts least ts.length r.1 r.2.1 r.2.2
/-! ### tokens in memory -/
def TkA (H : Hp) (p : Addr) (ts : List Tok) : Prop := ∃ xs, H p = some (.tup xs) ∧ ToksAt H xs (ts.map tkV)
theorem paired_at {α β : Type} {F : α → β → Prop} : ∀ {l : List α} {m : List β} {i : Nat} {y : β}, Paired F l m → m[i]? = some y → ∃ x, l[i]? = some x ∧ F x y
  | _, _, _, _, .nil, h => by cases h
  | _, _, 0, _, .cons r _, h => by cases h; exact ⟨_, rfl, r⟩
  | _, _, i + 1, _, .cons _ t, h => paired_at (i := i) t h
theorem paired_len {α β : Type} {F : α → β → Prop} : ∀ {l : List α} {m : List β}, Paired F l m → l.length = m.length
  | _, _, .nil => rfl
  | _, _, .cons _ t => by rw [List.length_cons, List.length_cons, paired_len t]
theorem TkA.at {H : Hp} {p : Addr} {ts : List Tok} {i : Nat} {t : Tok} (h : TkA H p ts) (e : ts[i]? = some t) : ∃ xs b, H p = some (.tup xs) ∧ xs[i]? = some (.ref b) ∧ H b = some (.tup (tkV t)) := by
  obtain ⟨xs, h1, h2⟩ := h
  obtain ⟨x, h3, b, h4, h5⟩ := paired_at (i := i) h2 (by rw [List.getElem?_map, e]; rfl)
  subst h4
  exact ⟨xs, b, h1, h3, h5⟩
theorem TkA.go {H H' : Hp} {p : Addr} {ts : List Tok} (e : Tp H H') (h : TkA H p ts) : TkA H' p ts := by
  obtain ⟨xs, h1, h2⟩ := h
  exact ⟨xs, e _ _ h1, Paired.mapP h2 fun _ _ ⟨b, e1, e2⟩ => ⟨b, e1, e b _ e2⟩⟩
theorem tkA_ix {K : PySem.W.Frag} {H : Hp} {p : Addr} {ts : List Tok} {i : Nat} {t : Tok} {Q : VK} (h : TkA H p ts) (e : ts[i]? = some t) (q : ∀ b, H b = some (.tup (tkV t)) → Q (.ref b) H) : rIxT K (.ref p) (.int i) H Q := by
  obtain ⟨xs, b, h1, h2, h3⟩ := h.at e
  exact ixt h1 (atI_nat h2) (q b h3)
def tkKind (t : Tok) : Str := match t.1 with
  | some k => k.kind
  | none => "end"
def tkVal (t : Tok) : V := match t.1 with
  | some k => k.val
  | none => .str ""
theorem tkV_eq (t : Tok) : tkV t = [.str (tkKind t), tkVal t, .int t.2] := by
  obtain ⟨o, i⟩ := t
  cases o <;> rfl
theorem tkVal_flat (t : Tok) : flatV (tkVal t) = true := by
  obtain ⟨o, i⟩ := t
  cases o with
  | none => rfl
  | some k => exact val_flat k
theorem kind_sw (t : Tok) : inV (.str (tkKind t)) [.str "sign", .str "word"] = match t.1 with | some (.sign _) => true | some (.word _) => true | _ => false := by
  obtain ⟨o, i⟩ := t
  cases o with
  | none => show inV (.str "end") _ = false; decide +kernel
  | some k => cases k with
    | word w => show inV (.str "word") _ = true; decide +kernel
    | name w => show inV (.str "name") _ = false; decide +kernel
    | num w => show inV (.str "number") _ = false; decide +kernel
    | sign w => show inV (.str "sign") _ = true; decide +kernel
theorem S_inj {a b : Cs} (h : S a = S b) : a = b := congrArg (fun s : Str => s.cps.toList) h


/-! ### d.get(k, x) of a written dict -/
def tKGet2 (K : PySem.W.Frag) (w : World) (td ty tx : TE) : TE := fun σ H Q => td σ H fun x H1 => ∃ (p : Addr) (es : Array DictEntry) (n : Nat), x = .ref p ∧ K.lookup p = some ⟨.type "dict", none, .dict es n, #[]⟩ ∧ PySem.W.KeysLit w.params es.toList ∧ (p == sysModules) = false ∧
  ty σ H1 fun y H2 => tx σ H2 fun z H3 => ∃ (s : Str) (r : Option Value), y = .str s ∧ PySem.W.nsIn K p s = some r ∧ (r = none → Q z H3) ∧ ∀ u, r = some u → ∃ v, RelV v u ∧ Q v H3
theorem pe_kget2 {X : Cx} {o e f : Expr} {apos cpos : Pos} {td ty tx : TE} (ho : PE X o td) (he : PE X e ty) (hf : PE X f tx) (m : M2 X o "get" apos e f cpos) : PE X (.Call (.Attribute o "get" apos) [e, f] [] cpos) (tKGet2 X.K X.w td ty tx) := by
  refine ⟨fun pins s σ H Q I h => ?_⟩
  refine wpAny_Call_method m.base m.few m.line PySem.F.plainAttrs_dict PySem.F.slot_dict_get PySem.F.type_dict_get (thn (ho.run pins s σ H _ I h) fun u s1 ⟨x, H1, I1, rx, p, es, n, ex, hl, hk, hd, q1⟩ => ?_)
  subst ex
  obtain rfl : u = Value.ref p := rx
  refine ⟨(PySem.W.mapOf_K (prog := X.prog) (w := X.w) I1.kIn hl hk).typeIs, fun b eb => ?_, ?_⟩
  · cases eb
    exact ⟨_, I1.kIn _ _ hl, rfl⟩
  rw [m.trees]
  refine Calls.callWith_builtin rfl (Calls.evalArgs_plain (Calls.spliced_cons (thn (he.run pins s1 σ H1 _ I1 q1) fun iv s2 ⟨y, H2, I2, ry, q2⟩ =>
    Calls.spliced_cons (thn (hf.run pins s2 σ H2 _ I2 q2) fun fv s3 ⟨z, H3, I3, rz, s, r, ey, hn, g1, g2⟩ => Calls.spliced_nil ?_))))
  subst ey
  obtain ⟨t, rfl⟩ := (show ∃ t, iv = Value.str s t from ry)
  have hm := PySem.W.mapOf_K (prog := X.prog) (w := X.w) I3.kIn hl hk
  refine call_meetsIn PySem.F.slot_dict_get hm.typeIs PySem.F.entry_dict_get (PySem.F.args_dict_get_3 _ _ _) (meets_dict_get_default (strKind X.prog X.w) p (strKind_is X.prog X.w s t) hd fv) ⟨_, hm, ?_⟩
  rw [PySem.W.find_K hl hn]
  cases r with
  | none => exact ⟨z, H3, I3.tok _, rz, g1 rfl⟩
  | some u =>
    obtain ⟨v, rv, q⟩ := g2 u rfl
    exact ⟨v, H3, I3.tok _, rv, q⟩
/-- what stands in the table of strengths -/
structure Txd (w : World) (K : PySem.W.Frag) (a : Ad) : Prop where
  at_ : ∃ es n, K.lookup a.p_STRENGTHS = some ⟨.type "dict", none, .dict es n, #[]⟩ ∧ PySem.W.KeysLit w.params es.toList
  low : (a.p_STRENGTHS == sysModules) = false
  has : ∀ s ∈ sgs, ∃ r, PySem.W.nsIn K a.p_STRENGTHS (S s) = some r ∧ match strg s with
    | none => r = none
    | some g => ∃ u, r = some u ∧ RelV (.int (g : Nat)) u
/-! ### what a reading lets out -/
theorem iteT' {c : Bool} {A B : Prop} (h : c = true) (a : A) : if c = true then A else B := by rw [if_pos h]; exact a
theorem iteN {c A B : Prop} [Decidable c] (h : ¬ c) (b : B) : if c then A else B := by rw [if_neg h]; exact b
theorem iteP {c A B : Prop} [Decidable c] (h : c) (a : A) : if c then A else B := by rw [if_pos h]; exact a
theorem ix0 {K : PySem.W.Frag} {H : Hp} {p : Addr} {x : V} {r : List V} {Q : VK} (h : H p = some (.tup (x :: r))) (q : Q x H) : rIxT K (.ref p) (.int 0) H Q := ixt h (atI_nat (j := 0) rfl) q
theorem ix1 {K : PySem.W.Frag} {H : Hp} {p : Addr} {x y : V} {r : List V} {Q : VK} (h : H p = some (.tup (x :: y :: r))) (q : Q y H) : rIxT K (.ref p) (.int 1) H Q := ixt h (atI_nat (j := 1) rfl) q
theorem ix2 {K : PySem.W.Frag} {H : Hp} {p : Addr} {x y z : V} {r : List V} {Q : VK} (h : H p = some (.tup (x :: y :: z :: r))) (q : Q z H) : rIxT K (.ref p) (.int 2) H Q := ixt h (atI_nat (j := 2) rfl) q
def RE (C1 C2 : Addr) (H : Hp) (E : XK) (e : Er) : Prop := Rz (if e.1 = true then C2 else C1) H E (e.2.1 : Nat) e.2.2
theorem RE.go {C1 C2 : Addr} {H H1 : Hp} {E : XK} {e : Er} (h : RE C1 C2 H E e) (x : Evl.Ex H H1) : RE C1 C2 H1 E e := Rz.go h x
def Out {α : Type} (C1 C2 : Addr) (H : Hp) (E : XK) (x : R α) (k : α → Prop) : Prop := ∃ r, x = some r ∧ (∀ e, r = .error e → RE C1 C2 H E e) ∧ ∀ a, r = .ok a → k a
section
variable {α β : Type} {C1 C2 : Addr} {H H1 : Hp} {E : XK} {x : R α} {k k' : α → Prop}
theorem Out.bnd {f : α → R β} {k : β → Prop} (h : Out C1 C2 H E (My.bnd x f) k) : Out C1 C2 H E x fun a => Out C1 C2 H E (f a) k := by
  obtain ⟨r, h1, h2, h3⟩ := h
  cases x with
  | none => cases h1
  | some y => cases y with
    | error e =>
      refine ⟨_, rfl, fun e' q => ?_, fun a q => (by cases q)⟩
      cases q
      cases h1
      exact h2 e rfl
    | ok a =>
      refine ⟨_, rfl, fun e' q => (by cases q), fun a' q => ?_⟩
      cases q
      exact ⟨r, h1, h2, h3⟩
theorem Out.imp (h : Out C1 C2 H E x k) (f : ∀ a, k a → k' a) : Out C1 C2 H E x k' := by
  obtain ⟨r, h1, h2, h3⟩ := h
  exact ⟨r, h1, h2, fun a q => f a (h3 a q)⟩
theorem Out.go (h : Out C1 C2 H E x k) (e : Evl.Ex H H1) : Out C1 C2 H1 E x k := by
  obtain ⟨r, h1, h2, h3⟩ := h
  exact ⟨r, h1, fun q z => (h2 q z).go e, h3⟩
theorem Out.ok {a : α} (h : Out C1 C2 H E (rok a) k) : k a := by
  obtain ⟨r, h1, h2, h3⟩ := h
  cases h1
  exact h3 a rfl
theorem Out.er1 {i : Nat} {w : Str} (h : Out C1 C2 H E (rer false i w) k) : Rz C1 H E (i : Nat) w := by
  obtain ⟨r, h1, h2, h3⟩ := h
  cases h1
  exact h2 _ rfl
theorem Out.er2 {i : Nat} {w : Str} (h : Out C1 C2 H E (rer true i w) k) : Rz C2 H E (i : Nat) w := by
  obtain ⟨r, h1, h2, h3⟩ := h
  cases h1
  exact h2 _ rfl
theorem Out.is {y : R α} (h : Out C1 C2 H E x k) (e : x = y) : Out C1 C2 H E y k := e ▸ h
theorem Out.no (h : Out C1 C2 H E (none : R α) k) : False := by
  obtain ⟨r, h1, _⟩ := h
  cases h1
end
section
variable {P : Program} {w : World} {K : PySem.W.Frag} {mg : Str → Option Value} {base : Heap} {a : Ad}
def spIsS : Sp := fun vs H Q _ => ∃ (b : Addr) (t : Tok) (v : Cs), vs = [.ref b, .str (S v)] ∧ H b = some (.tup (tkV t)) ∧ ∀ H', Evl.Ex H H' → Q (.bl (isS t v)) H'
theorem isS_eq (t : Tok) (v : Cs) : isS t v = (inV (.str (tkKind t)) [.str "sign", .str "word"] && decide (tkVal t = .str (S v))) := by
  rw [kind_sw]
  obtain ⟨o, i⟩ := t
  have e : ∀ s : Cs, (V.str (S s) = V.str (S v)) ↔ s = v := fun s => ⟨fun h => by cases h; rfl, fun h => by rw [h]⟩
  cases o with
  | none => rfl
  | some k => cases k with
    | word s => show decide (s = v) = decide (V.str (S s) = V.str (S v)); exact decide_eq_decide.mpr (e s).symm
    | name w => rfl
    | num w => rfl
    | sign s => show decide (s = v) = decide (V.str (S s) = V.str (S v)); exact decide_eq_decide.mpr (e s).symm
theorem tkVal_scal (t : Tok) (v : Cs) : scal (tkVal t) (.str (S v)) = true := by
  obtain ⟨o, i⟩ := t
  cases o with
  | none => rfl
  | some k => cases k <;> rfl
theorem ok_is_sign (T : Txt K mg a) : FnOk P w K mg base CX0 1 a.f_is_sign a.d_is_sign ["token", "value"] spIsS := by
  refine T.F_is_sign.ok sc_is_sign (fun vs H Q E h => ?_) (fun cdv A outer s H vs Q E hr h => ?_)
  · obtain ⟨_, _, _, rfl, _⟩ := h
    rfl
  · obtain ⟨b, t, v, rfl, hb, k⟩ := h
    refine ⟨_, (pss_one (ps_ret (pe_and (pe_cmpR op_in_seq (pe_ix ix_tup (pv 0) pe_int (fun _ _ => rfl)) (pe_tup (pa_cons pe_str (pa_cons pe_str pa_nil))) (by rfl)) (pe_one (pe_cmpR op_eq (pe_ix ix_tup (pv 0) pe_int (fun _ _ => rfl)) (pv 1) (nomark _)))))), ?_⟩
    have hq := isS_eq t v
    have hf := tkVal_flat t
    rw [tkV_eq] at hb
    walk_at "sm"
    refine ix0 hb ⟨sz (by decide), fun p hp => in_tup (SqT.of upd_same) rfl (by decide +kernel) ?_⟩
    rw [hq] at k
    have k2 := k _ (Evl.Ex.new (o := .tup [V.str "sign", V.str "word"]) hp)
    have hb2 := (Evl.Ex.new (o := .tup [V.str "sign", V.str "word"]) hp) _ _ hb
    generalize upd H p (.tup [V.str "sign", V.str "word"]) = H1 at *
    generalize hc : inV (V.str (tkKind t)) _ = c at k2 ⊢
    cases c with
    | false => exact ⟨_, rfl, iteF k2⟩
    | true =>
      refine ⟨_, rfl, iteT (ix1 hb2 ⟨?_, k2⟩)⟩
      exact tkVal_scal t v
def spTakeS (C1 C2 : Addr) : Sp := fun vs H Q E => ∃ (p : Addr) (ts : List Tok) (i : Nat) (v : Cs), vs = [.ref p, .int i, .str (S v)] ∧ TkA H p ts ∧ Out C1 C2 H E (rSign ts i v) fun j => ∀ H', Evl.Ex H H' → Q (.int (j : Nat)) H'
theorem ok_take_sign (T : Txt K mg a) : FnOk P w K mg base (L2.CX P w) 3 a.f_take_sign a.d_take_sign ["tokens", "at", "value"] (spTakeS a.c_BadText a.c_BadName) := by
  refine T.F_take_sign.okX sc_take_sign (fun vs H Q E h => ?_) (fun cdv A outer s H vs Q E hr h => ?_)
  · obtain ⟨_, _, _, _, rfl, _⟩ := h
    rfl
  · obtain ⟨p, ts, i, v, rfl, tk, k⟩ := h
    refine ⟨_, (pss_cons (ps_if (pt_not (pt_val (pe_call (ok_is_sign T) (hr.mono (by decide)) rfl T.m_is_sign T.F_is_sign.kp T.b_is_sign .nil pass0 (pa_cons (pe_ix ix_tup (pv 0) (pv 1) (fun _ _ => rfl)) (pa_cons (pv 2) pa_nil))))) (pss_one (ps_raise rfl (takes_of rfl rfl rfl rfl) (pmk_oex T.x_BadText T.xi_BadText T.xt_BadText (ok_BadText_init T) (hr.mono (by decide)) T.b_BadText___init__ .nil pass0 rfl T.m_BadText (pa_cons (pe_ix ix_tup (pe_ix ix_tup (pv 0) (pv 1) (fun _ _ => rfl)) pe_int (fun _ _ => rfl)) (pa_cons pe_str pa_nil)))))
    pss_nil)
  (pss_one (ps_ret (pe_op op_add (pv 1) pe_int)))), ?_⟩
    unfold rSign at k
    cases e : ts[i]? with
    | none => rw [e] at k; exact k.no.elim
    | some t =>
      rw [e] at k
      walk_at "sm"
      refine tkA_ix tk e fun b hb => ?_
      refine ⟨b, t, v, rfl, hb, fun H1 e1 => ⟨_, rfl, ?_⟩⟩
      have k : Out a.c_BadText a.c_BadName H E (if isS t v = true then rok (i + 1) else rer false t.2 "want") _ := k
      cases hs : isS t v with
      | true =>
        rw [hs, if_pos rfl] at k
        exact iteF (k.ok _ e1)
      | false =>
        rw [hs, if_neg (by decide)] at k
        refine iteT (tkA_ix (tk.go (Tp.ex e1)) e fun b hb => ?_)
        rw [tkV_eq] at hb
        exact ix2 hb (mk2 (k.er1.go e1))
/-- three names out of a token -/
def spTakeN (C1 C2 : Addr) : Sp := fun vs H Q E => ∃ (p : Addr) (ts : List Tok) (i : Nat), vs = [.ref p, .int i] ∧ TkA H p ts ∧ Out C1 C2 H E (rNum ts i) fun r => ∀ q H', Evl.Ex H H' → H' q = some (.tup [.int (r.1 : Nat), .int (r.2 : Nat)]) → Q (.ref q) H'
theorem ok_take_number (T : Txt K mg a) : FnOk P w K mg base (L2.CX P w) 3 a.f_take_number a.d_take_number ["tokens", "at"] (spTakeN a.c_BadText a.c_BadName) := by
  refine T.F_take_number.okX sc_take_number (fun vs H Q E h => ?_) (fun cdv A outer s H vs Q E hr h => ?_)
  · obtain ⟨_, _, _, rfl, _⟩ := h
    rfl
  · obtain ⟨p, ts, i, rfl, tk, k⟩ := h
    refine ⟨_, (pss_cons (ps_asg (pe_ix ix_tup (pv 0) (pv 1) (fun _ _ => rfl)) (pg_tup rfl (pgs_cons (pg_name (i := 2) sc_take_number.nd rfl (by first | exact Or.inl rfl | exact Or.inr rfl)) (pgs_cons (pg_name (i := 3) sc_take_number.nd rfl (by first | exact Or.inl rfl | exact Or.inr rfl)) (pgs_cons (pg_name (i := 4) sc_take_number.nd rfl (by first | exact Or.inl rfl | exact Or.inr rfl)) pgs_nil)))))
  (pss_cons (ps_if (pt_cmpR op_ne (pv 2) pe_str (nomark _)) (pss_one (ps_raise rfl (takes_of rfl rfl rfl rfl) (pmk_oex T.x_BadText T.xi_BadText T.xt_BadText (ok_BadText_init T) (hr.mono (by decide)) T.b_BadText___init__ .nil pass0 rfl T.m_BadText (pa_cons (pv 4) (pa_cons pe_str pa_nil)))))
    pss_nil)
  (pss_one (ps_ret (pe_tup (pa_cons (pv 3) (pa_cons (pe_op op_add (pv 1) pe_int) pa_nil))))))), ?_⟩
    unfold rNum at k
    cases e : ts[i]? with
    | none => rw [e] at k; exact k.no.elim
    | some t =>
      rw [e] at k
      walk_at "sm"
      refine tkA_ix tk e fun b hb => ?_
      rw [tkV_eq] at hb
      refine ⟨b, rfl, _, .inl (.inl hb), rfl, ?_⟩
      walk_at "sm"
      obtain ⟨o, j⟩ := t
      cases o with
      | none => exact iteP (by show (!decide (("end" : Str) = "number")) = true; decide +kernel) (mk2 (Out.er1 (show Out a.c_BadText a.c_BadName H E (rer false j "want" : R (Nat × Nat)) _ from k)))
      | some kd => cases kd with
        | word z => exact iteP (by show (!decide (("word" : Str) = "number")) = true; decide +kernel) (mk2 (Out.er1 (show Out a.c_BadText a.c_BadName H E (rer false j "want" : R (Nat × Nat)) _ from k)))
        | name z => exact iteP (by show (!decide (("name" : Str) = "number")) = true; decide +kernel) (mk2 (Out.er1 (show Out a.c_BadText a.c_BadName H E (rer false j "want" : R (Nat × Nat)) _ from k)))
        | sign z => exact iteP (by show (!decide (("sign" : Str) = "number")) = true; decide +kernel) (mk2 (Out.er1 (show Out a.c_BadText a.c_BadName H E (rer false j "want" : R (Nat × Nat)) _ from k)))
        | num n =>
          refine iteN (by show ¬ (!decide (("number" : Str) = "number")) = true; decide +kernel) ⟨sz (by decide), fun q hq => ?_⟩
          have k : Out a.c_BadText a.c_BadName H E (rok (n, i + 1)) _ := k
          exact k.ok q _ (Evl.Ex.new hq) upd_same
def rName (ts : List Tok) (i : Nat) : R (Cs × Nat) := match ts[i]? with
  | none => none
  | some t => match t.1 with
    | some (.name w) => rok (w, i + 1)
    | _ => rer false t.2 "want"
def spTakeNm (C1 C2 : Addr) : Sp := fun vs H Q E => ∃ (p : Addr) (ts : List Tok) (i : Nat), vs = [.ref p, .int i] ∧ TkA H p ts ∧ Out C1 C2 H E (rName ts i) fun r => ∀ q H', Evl.Ex H H' → H' q = some (.tup [.str (S r.1), .int (r.2 : Nat)]) → Q (.ref q) H'
theorem ok_take_name (T : Txt K mg a) : FnOk P w K mg base (L2.CX P w) 3 a.f_take_name a.d_take_name ["tokens", "at"] (spTakeNm a.c_BadText a.c_BadName) := by
  refine T.F_take_name.okX sc_take_name (fun vs H Q E h => ?_) (fun cdv A outer s H vs Q E hr h => ?_)
  · obtain ⟨_, _, _, rfl, _⟩ := h
    rfl
  · obtain ⟨p, ts, i, rfl, tk, k⟩ := h
    refine ⟨_, (pss_cons (ps_asg (pe_ix ix_tup (pv 0) (pv 1) (fun _ _ => rfl)) (pg_tup rfl (pgs_cons (pg_name (i := 2) sc_take_name.nd rfl (by first | exact Or.inl rfl | exact Or.inr rfl)) (pgs_cons (pg_name (i := 3) sc_take_name.nd rfl (by first | exact Or.inl rfl | exact Or.inr rfl)) (pgs_cons (pg_name (i := 4) sc_take_name.nd rfl (by first | exact Or.inl rfl | exact Or.inr rfl)) pgs_nil)))))
  (pss_cons (ps_if (pt_cmpR op_ne (pv 2) pe_str (nomark _)) (pss_one (ps_raise rfl (takes_of rfl rfl rfl rfl) (pmk_oex T.x_BadText T.xi_BadText T.xt_BadText (ok_BadText_init T) (hr.mono (by decide)) T.b_BadText___init__ .nil pass0 rfl T.m_BadText (pa_cons (pv 4) (pa_cons pe_str pa_nil)))))
    pss_nil)
  (pss_one (ps_ret (pe_tup (pa_cons (pv 3) (pa_cons (pe_op op_add (pv 1) pe_int) pa_nil))))))), ?_⟩
    unfold rName at k
    cases e : ts[i]? with
    | none => rw [e] at k; exact k.no.elim
    | some t =>
      rw [e] at k
      walk_at "sm"
      refine tkA_ix tk e fun b hb => ?_
      rw [tkV_eq] at hb
      refine ⟨b, rfl, _, .inl (.inl hb), rfl, ?_⟩
      walk_at "sm"
      obtain ⟨o, j⟩ := t
      cases o with
      | none => exact iteP (by show (!decide (("end" : Str) = "name")) = true; decide +kernel) (mk2 (Out.er1 (show Out a.c_BadText a.c_BadName H E (rer false j "want" : R (Cs × Nat)) _ from k)))
      | some kd => cases kd with
        | word z => exact iteP (by show (!decide (("word" : Str) = "name")) = true; decide +kernel) (mk2 (Out.er1 (show Out a.c_BadText a.c_BadName H E (rer false j "want" : R (Cs × Nat)) _ from k)))
        | num z => exact iteP (by show (!decide (("number" : Str) = "name")) = true; decide +kernel) (mk2 (Out.er1 (show Out a.c_BadText a.c_BadName H E (rer false j "want" : R (Cs × Nat)) _ from k)))
        | sign z => exact iteP (by show (!decide (("sign" : Str) = "name")) = true; decide +kernel) (mk2 (Out.er1 (show Out a.c_BadText a.c_BadName H E (rer false j "want" : R (Cs × Nat)) _ from k)))
        | name n =>
          refine iteN (by show ¬ (!decide (("name" : Str) = "name")) = true; decide +kernel) ⟨sz (by decide), fun q hq => ?_⟩
          have k : Out a.c_BadText a.c_BadName H E (rok (n, i + 1)) _ := k
          exact k.ok q _ (Evl.Ex.new hq) upd_same
def spChk (C1 C2 : Addr) : Sp := fun vs H Q E => ∃ (d i : Nat), vs = [.int d, .int i] ∧ Out C1 C2 H E (rChk d i) fun d => Q (.int (d : Nat)) H
theorem ok_check_depth (T : Txt K mg a) : FnOk P w K mg base (L2.CX P w) 3 a.f_check_depth a.d_check_depth ["depth", "spot"] (spChk a.c_BadText a.c_BadName) := by
  refine T.F_check_depth.okX sc_check_depth (fun vs H Q E h => ?_) (fun cdv A outer s H vs Q E hr h => ?_)
  · obtain ⟨_, _, rfl, _⟩ := h
    rfl
  · obtain ⟨d, i, rfl, k⟩ := h
    refine ⟨_, (pss_cons (ps_if (pt_cmpR op_gt (pv 0) (pe_glob rfl T.g_MOST_DEPTH.choose_spec.1 T.g_MOST_DEPTH.choose_spec.2) (nomark _)) (pss_one (ps_raise rfl (takes_of rfl rfl rfl rfl) (pmk_oex T.x_BadText T.xi_BadText T.xt_BadText (ok_BadText_init T) (hr.mono (by decide)) T.b_BadText___init__ .nil pass0 rfl T.m_BadText (pa_cons (pv 1) (pa_cons pe_str pa_nil)))))
    pss_nil)
  (pss_one (ps_ret (pv 0)))), ?_⟩
    unfold rChk at k
    walk_at "sm"
    refine ite2 (fun h => ?_) (fun h => ?_)
    · rw [if_pos (by omega)] at k
      exact mk2 k.er1
    · rw [if_neg (by omega)] at k
      exact k.ok
end

/-! ### what stands around a reading -/
def NmA (K : PySem.W.Frag) (H : Hp) (v : V) : Option (List Cs) → Prop
  | none => v = .non
  | some l => ∃ p, v = .ref p ∧ (SqL K H p (l.map fun w => V.str (S w)) ∨ SqT K H p (l.map fun w => V.str (S w)))
def fnV (f : Fun3) : List V := [.str (S f.1), .int (f.2.1 : Nat), .int (f.2.2 : Nat)]
def FnA (H : Hp) (p : Addr) (fs : List Fun3) : Prop := ∃ xs, H p = some (.tup xs) ∧ ToksAt H xs (fs.map fnV)
structure RdA (K : PySem.W.Frag) (H : Hp) (p : Addr) (nv : V) (f : Addr) (ts : List Tok) (ns : Option (List Cs)) (fs : List Fun3) : Prop where
  tk : TkA H p ts
  nm : NmA K H nv ns
  fn : FnA H f fs
  sg : ∀ t ∈ ts, ∀ s, t.1 = some (.sign s) → s ∈ sgs
  ln : ts.length ≤ 90000
  lf : fs.length ≤ 1000
theorem NmA.go {K : PySem.W.Frag} {H H' : Hp} {v : V} {o : Option (List Cs)} (e : Evl.Ex H H') (h : NmA K H v o) : NmA K H' v o := by
  cases o with
  | none => exact h
  | some l =>
    obtain ⟨p, h1, h2⟩ := h
    exact ⟨p, h1, h2.elim (fun z => .inl (Evl.ex_l e z)) fun z => .inr (Evl.ex_t e z)⟩
theorem FnA.go {H H' : Hp} {p : Addr} {fs : List Fun3} (e : Tp H H') (h : FnA H p fs) : FnA H' p fs := by
  obtain ⟨xs, h1, h2⟩ := h
  exact ⟨xs, e _ _ h1, Paired.mapP h2 fun _ _ ⟨b, e1, e2⟩ => ⟨b, e1, e b _ e2⟩⟩
theorem RdA.go {K : PySem.W.Frag} {H H' : Hp} {p : Addr} {nv : V} {f : Addr} {ts : List Tok} {ns : Option (List Cs)} {fs : List Fun3} (e : Evl.Ex H H') (h : RdA K H p nv f ts ns fs) : RdA K H' p nv f ts ns fs :=
  ⟨h.tk.go (Tp.ex e), h.nm.go e, h.fn.go (Tp.ex e), h.sg, h.ln, h.lf⟩
def K3 (H : Hp) (Q : VK) (r : Ex3) : Prop := ∀ q x H', Evl.Ex H H' → H' q = some (.tup [x, .int (r.2.1 : Nat), .int (r.2.2 : Nat)]) → At H' x r.1 → Q (.ref q) H'
theorem K3.go {H H1 : Hp} {Q : VK} {r : Ex3} (h : K3 H Q r) (e : Evl.Ex H H1) : K3 H1 Q r := fun q x H' e' => h q x H' (e.trans e')
def KP (H : Hp) (Q : VK) (r : List PyData × Nat × Nat) : Prop := ∀ q t xs H', Evl.Ex H H' → H' q = some (.tup [.ref t, .int (r.2.1 : Nat), .int (r.2.2 : Nat)]) → H' t = some (.tup xs) → AtAll H' xs r.1 → Q (.ref q) H'
abbrev G4 := List Tok → Option (List Cs) → List Fun3 → Nat → R Ex3
def spR (K : PySem.W.Frag) (C1 C2 : Addr) (g : G4) : Sp := fun vs H Q E => ∃ (p : Addr) (i : Nat) (nv : V) (f : Addr) (ts : List Tok) (ns : Option (List Cs)) (fs : List Fun3), vs = [.ref p, .int i, nv, .ref f] ∧ RdA K H p nv f ts ns fs ∧ Out C1 C2 H E (g ts ns fs i) (K3 H Q)
def spDeep (K : PySem.W.Frag) (C1 C2 : Addr) (k : Nat) : Sp := fun vs H Q E => ∃ (p : Addr) (i : Nat) (nv : V) (f : Addr) (least : Nat) (ts : List Tok) (ns : Option (List Cs)) (fs : List Fun3), vs = [.ref p, .int i, nv, .ref f, .int least] ∧ RdA K H p nv f ts ns fs ∧ Out C1 C2 H E (rDeep ts ns fs k i least) (K3 H Q)
def spParts (K : PySem.W.Frag) (C1 C2 : Addr) (k : Nat) : Sp := fun vs H Q E => ∃ (p : Addr) (i : Nat) (nv : V) (f : Addr) (ts : List Tok) (ns : Option (List Cs)) (fs : List Fun3), vs = [.ref p, .int i, nv, .ref f] ∧ RdA K H p nv f ts ns fs ∧ Out C1 C2 H E (rPartsA (rDeep ts ns fs k) ts i) (KP H Q)
def ivParts (K : PySem.W.Frag) (C1 C2 : Addr) (H : Hp) (Q : VK) (E : XK) (k : Nat) (p : Addr) (nv : V) (f : Addr) (ts : List Tok) (ns : Option (List Cs)) (fs : List Fun3) : Nat → L2.St → Hp → Prop := fun n σ H' => ∃ (l : Addr) (xs : List V) (acc : List PyData) (gr i : Nat) (v6 v7 : Option V),
  σ = [some (.ref p), some (.int i), some nv, some (.ref f), some (.ref l), some (.int gr), v6, v7] ∧ H' l = some (.lst xs) ∧ H l = none ∧ AtAll H' xs acc ∧ Evl.Ex H H' ∧ acc.length + n ≤ 90000 ∧ Out C1 C2 H E (rParts (rDeep ts ns fs k) ts n acc gr i) (KP H Q)
theorem at_nums {H : Hp} : ∀ l : List Nat, AtAll H (l.map fun n => V.int (n : Nat)) (l.map fun n => PyData.int (n : Nat))
  | [] => .nil
  | n :: l => .cons (.int _) (at_nums l)
theorem inV_sizes (n : Nat) : inV (.int (n : Nat)) [.int 1, .int 2, .int 4, .int 8, .int 16] = [1, 2, 4, 8, 16].contains n := by
  show (((1 : Int) == (n : Int)) || (((2 : Int) == (n : Int)) || (((4 : Int) == (n : Int)) || (((8 : Int) == (n : Int)) || (((16 : Int) == (n : Int)) || false))))) = _
  apply Bool.eq_iff_iff.mpr
  simp
  omega
theorem kind_num {t : Tok} (h : tkKind t = ("number" : Str)) : ∃ n, t.1 = some (.num n) := by
  obtain ⟨o, i⟩ := t
  cases o with
  | none => exact absurd h (by show ¬ ("end" : Str) = "number"; decide +kernel)
  | some k => cases k with
    | word w => exact absurd h (by show ¬ ("word" : Str) = "number"; decide +kernel)
    | name w => exact absurd h (by show ¬ ("name" : Str) = "number"; decide +kernel)
    | num n => exact ⟨n, rfl⟩
    | sign w => exact absurd h (by show ¬ ("sign" : Str) = "number"; decide +kernel)
theorem kind_nm {t : Tok} (h : tkKind t = ("name" : Str)) : ∃ n, t.1 = some (.name n) := by
  obtain ⟨o, i⟩ := t
  cases o with
  | none => exact absurd h (by show ¬ ("end" : Str) = "name"; decide +kernel)
  | some k => cases k with
    | word w => exact absurd h (by show ¬ ("word" : Str) = "name"; decide +kernel)
    | num w => exact absurd h (by show ¬ ("number" : Str) = "name"; decide +kernel)
    | name n => exact ⟨n, rfl⟩
    | sign w => exact absurd h (by show ¬ ("sign" : Str) = "name"; decide +kernel)
theorem nuMax2_int (x y : Nat) : nuMax2 (.int (x : Nat)) (.int (y : Nat)) = some (.int ((max x y : Nat) : Int)) := by
  show some (if decide ((x : Int) < (y : Int)) = true then V.int (y : Nat) else V.int (x : Nat)) = _
  by_cases h : x < y
  · rw [if_pos (by simpa using h), Nat.max_eq_right (by omega)]
  · rw [if_neg (by simpa using h), Nat.max_eq_left (by omega)]
theorem op_mk {H : Hp} {ks ds : List PyData} {kv dv : List V} {p1 p2 p3 : Addr} (hk : AtAll H kv ks) (hd : AtAll H dv ds) (n1 : H p1 = none) (n2 : L2.upd H p1 (.tup kv) p2 = none) (n3 : L2.upd (L2.upd H p1 (.tup kv)) p2 (.tup dv) p3 = none) :
    At (L2.upd (L2.upd (L2.upd H p1 (.tup kv)) p2 (.tup dv)) p3 (.tup [.str "op", .ref p1, .ref p2])) (.ref p3) (dOp ks ds) ∧ Evl.Ex H (L2.upd (L2.upd (L2.upd H p1 (.tup kv)) p2 (.tup dv)) p3 (.tup [.str "op", .ref p1, .ref p2])) := by
  have e1 : Evl.Ex H _ := Evl.Ex.new (o := .tup kv) n1
  have e2 : Evl.Ex _ _ := Evl.Ex.new (o := .tup dv) n2
  have e3 : Evl.Ex _ _ := Evl.Ex.new (o := .tup [.str "op", .ref p1, .ref p2]) n3
  refine ⟨.tup upd_same (.cons (.str _) (.cons (.tup (e3 _ _ (e2 _ _ upd_same)) (hk.ex (e1.trans (e2.trans e3)))) (.cons (.tup (e3 _ _ upd_same) (hd.ex (e1.trans (e2.trans e3)))) .nil))), e1.trans (e2.trans e3)⟩
theorem max_cast (x y : Nat) : (if (y : Int) > (x : Int) then (y : Int) else (x : Int)) = ((max x y : Nat) : Int) := by split <;> omega
section
variable {P : Program} {w : World} {K : PySem.W.Frag} {mg : Str → Option Value} {base : Heap} {a : Ad}
theorem ok_read_parts (T : Txt K mg a) (k : Nat) (ok_read_deep : Txt K mg a → FnOk P w K mg base (L2.CX P w) (5 * k + 4) a.f_read_deep a.d_read_deep ["tokens", "at", "names", "funs", "least"] (spDeep K a.c_BadText a.c_BadName k)) :
    FnOk P w K mg base (L2.CX P w) (5 * k + 5) a.f_read_parts a.d_read_parts ["tokens", "at", "names", "funs"] (spParts K a.c_BadText a.c_BadName k) := by
  refine T.F_read_parts.okX sc_read_parts (fun vs H Q E h => ?_) (fun cdv A outer s H vs Q E hr h => ?_)
  · obtain ⟨_, _, _, _, _, _, _, rfl, _⟩ := h
    rfl
  · obtain ⟨p, i, nv, f, ts, ns, fs, rfl, rd, z⟩ := h
    refine ⟨_, (pss_cons (ps_if (pt_val (pe_call (ok_is_sign T) (hr.mono (by omega)) rfl T.m_is_sign T.F_is_sign.kp T.b_is_sign .nil pass0 (pa_cons (pe_ix ix_tup (pv 0) (pv 1) (fun _ _ => rfl)) (pa_cons pe_str pa_nil)))) (pss_one (ps_ret (pe_tup (pa_cons (pe_tup pa_nil) (pa_cons pe_int (pa_cons (pe_op op_add (pv 1) pe_int) pa_nil))))))
    pss_nil)
  (pss_cons (ps_par (by rfl) sc_read_parts.nd (i := 4) (j := 5) rfl rfl (by decide) rfl rfl (pa_cons (pe_lst pa_nil) (pa_cons pe_int pa_nil)) (by rfl))
  (pss_one (ps_while (passes_of rfl) (pt_val pe_bl) (pss_cons (ps_asg (pe_call (ok_read_deep T) (hr.mono (by omega)) rfl T.m_read_deep T.F_read_deep.kp T.b_read_deep .nil (passes_call (takes_of rfl rfl rfl rfl) (fun _ _ _ _ q => q)) (pa_cons (pv 0) (pa_cons (pv 1) (pa_cons (pv 2) (pa_cons (pv 3) (pa_cons pe_int pa_nil)))))) (pg_tup rfl (pgs_cons (pg_name (i := 6) sc_read_parts.nd rfl (by first | exact Or.inl rfl | exact Or.inr rfl)) (pgs_cons (pg_name (i := 7) sc_read_parts.nd rfl (by first | exact Or.inl rfl | exact Or.inr rfl)) (pgs_cons (pg_name (i := 1) sc_read_parts.nd rfl (by first | exact Or.inl rfl | exact Or.inr rfl)) pgs_nil)))))
  (pss_cons (ps_expr (pe_bm PySem.F.plainAttrs_list PySem.F.slot_list_append PySem.F.type_list_append mt_append (pv 4) (pa_cons (pv 6) pa_nil)))
  (pss_cons (ps_set (i := 5) sc_read_parts.nd rfl (by first | exact Or.inl rfl | exact Or.inr rfl) (pe_callB (call_max2 rfl) (by rfl) T.z_max (by decide +kernel) (pa_cons (pv 5) (pa_cons (pv 7) pa_nil))))
  (pss_cons (ps_if (pt_not (pt_val (pe_call (ok_is_sign T) (hr.mono (by omega)) rfl T.m_is_sign T.F_is_sign.kp T.b_is_sign .nil pass0 (pa_cons (pe_ix ix_tup (pv 0) (pv 1) (fun _ _ => rfl)) (pa_cons pe_str pa_nil))))) (pss_one (ps_ret (pe_tup (pa_cons (pe_callTy call_tuple_of (by rfl) T.z_tuple (by decide +kernel) (pa_cons (pv 4) pa_nil)) (pa_cons (pv 5) (pa_cons (pe_call (ok_take_sign T) (hr.mono (by omega)) rfl T.m_take_sign T.F_take_sign.kp T.b_take_sign .nil (passes_call (takes_of rfl rfl rfl rfl) (fun _ _ _ _ q => q)) (pa_cons (pv 0) (pa_cons (pv 1) (pa_cons pe_str pa_nil)))) pa_nil))))))
    pss_nil)
  (pss_one (ps_aug (i := 1) sc_read_parts.nd rfl (by first | exact Or.inl rfl | exact Or.inr rfl) pe_int ip_add)))))))))), ?_⟩
    unfold rPartsA at z
    cases e : ts[i]? with
    | none => rw [e] at z; exact z.no.elim
    | some t =>
      rw [e] at z
      walk_at "sm"
      refine tkA_ix rd.tk e fun b hb => ?_
      refine ⟨b, t, [41], rfl, hb, fun H1 e1 => ⟨_, rfl, ?_⟩⟩
      have z : Out a.c_BadText a.c_BadName H E (if isS t [41] = true then rok ([], 0, i + 1) else rParts (rDeep ts ns fs k) ts ts.length [] 0 i) _ := z
      cases hs : isS t [41] with
      | true =>
        rw [hs, if_pos rfl] at z
        refine iteT ⟨sz (by decide), fun q hq => ⟨sz (by decide), fun q2 hq2 => ?_⟩⟩
        exact z.ok q2 q [] _ (e1.trans ((Evl.Ex.new hq).trans (Evl.Ex.new hq2))) upd_same (by rw [upd_ne (ne_of_none upd_same hq2)]; exact upd_same) .nil
      | false =>
        rw [hs, if_neg (by decide)] at z
        refine iteF ⟨sz (by decide), fun l hl => ?_⟩
        walk_at "sm"
        refine ⟨ivParts K a.c_BadText a.c_BadName H Q E k p nv f ts ns fs, ⟨ts.length, l, [], [], 0, i, none, none, rfl, upd_same, Evl.fresh_back e1 hl, .nil, e1.trans (Evl.Ex.new hl), ?_, z⟩, ?_⟩
        · have := rd.ln
          show 0 + ts.length ≤ 90000
          omega
        rintro n σ H2 ⟨l, xs, acc, gr, i, v6, v7, rfl, hl2, hl0, ha, e2, hn, z⟩
        cases n with
        | zero => exact z.no.elim
        | succ n =>
          walk_at "sm"
          refine ⟨below (ivParts K a.c_BadText a.c_BadName H Q E k p nv f ts ns fs) (n + 1), fun _ _ h => h, p, i, nv, f, 0, ts, ns, fs, rfl, rd.go e2, ?_⟩
          refine (z.bnd.go e2).imp fun r z q x H3 e3 hq hx => ?_
          refine ⟨q, rfl, _, .inl (.inl hq), rfl, ?_⟩
          have hl3 := e3 _ _ hl2
          walk_at "sm"
          have hxl := ha.len
          refine ⟨.inl ⟨rfl, _, SqL.of hl3⟩, l, xs, x, rfl, rfl, hl3, Nat.lt_of_le_of_lt (show xs.length ≤ 90000 by omega) (by decide), ?_⟩
          have e4 : Evl.Ex H (upd H3 l (.lst (xs ++ [x]))) := Evl.Ex.mut (e2.trans e3) hl0
          have ha4 : AtAll (upd H3 l (.lst (xs ++ [x]))) (xs ++ [x]) (acc ++ [r.1]) := AtAll.go (Tp.upd hl3) _ _ ((ha.ex e3).snoc hx)
          have hl4 : upd H3 l (.lst (xs ++ [x])) l = some (.lst (xs ++ [x])) := upd_same
          generalize upd H3 l (.lst (xs ++ [x])) = H4 at *
          have zz := z
          cases et : ts[r.2.2]? with
          | none => rw [et] at z; exact z.no.elim
          | some u =>
            rw [et] at z
            have z : Out a.c_BadText a.c_BadName H E (if isS u [44] = true then rParts (rDeep ts ns fs k) ts n (acc ++ [r.1]) (max gr r.2.1) (r.2.2 + 1) else bnd (rSign ts r.2.2 [41]) fun j => rok (acc ++ [r.1], max gr r.2.1, j)) (KP H Q) := z
            refine tkA_ix (rd.tk.go (Tp.ex e4)) et fun b hb => ⟨b, u, [44], rfl, hb, fun H5 e5 => ⟨_, rfl, ?_⟩⟩
            have e45 : Evl.Ex H H5 := e4.trans e5
            cases hs : isS u [44] with
            | true =>
              rw [hs, if_pos rfl] at z
              refine iteF ⟨n, by omega, l, xs ++ [x], acc ++ [r.1], max gr r.2.1, r.2.2 + 1, some x, some (.int (r.2.1 : Nat)), ?_, e5 _ _ hl4, hl0, ha4.ex e5, e45, ?_, z⟩
              · rw [← max_cast]
                rfl
              · rw [List.length_append, List.length_singleton]; omega
            | false =>
              rw [hs, if_neg (by decide)] at z
              refine iteT ⟨_, .inl ⟨SqL.of (e5 _ _ hl4), fun t ht => ?_⟩⟩
              have e6 : Evl.Ex H (upd H5 t (.tup (xs ++ [x]))) := e45.trans (Evl.Ex.new ht)
              have ha6 := (ha4.ex e5).ex (Evl.Ex.new (o := .tup (xs ++ [x])) ht)
              have ht6 : upd H5 t (.tup (xs ++ [x])) t = some (.tup (xs ++ [x])) := upd_same
              generalize upd H5 t (.tup (xs ++ [x])) = H6 at *
              refine ⟨p, ts, r.2.2, [41], rfl, rd.tk.go (Tp.ex e6), (z.bnd.go e6).imp fun j z H7 e7 => ⟨sz (by decide), fun o ho => ?_⟩⟩
              rw [max_cast]
              exact z.ok o t (xs ++ [x]) _ (e6.trans (e7.trans (Evl.Ex.new ho))) upd_same ((Evl.Ex.new ho) _ _ (e7 _ _ ht6)) ((ha6.ex e7).ex (Evl.Ex.new ho))
end
/-! ### a call of a fun -/
theorem lcg_tup {K : PySem.W.Frag} {a : Addr} {xs : List V} {g : TG} {tt : TT} {te : TE} {vs : List Nat} {σ : L2.St} {H1 : Hp} {Q : VK} (Pv : Addr → Nat → Hp → Prop) (h0 : ∀ D, H1 D = none → Pv D 0 (upd H1 D (.lst []))) (hl : ∀ D i H, H1 D = none → i ≤ xs.length → Pv D i H → SqT K H a xs)
    (hs : ∀ D i x H, H1 D = none → xs[i]? = some x → Pv D i H → g x (wipe σ vs) H fun σ2 H2 => wipe σ2 vs = wipe σ vs ∧ tt σ2 H2 fun b H3 =>
      if b = true then te σ2 H3 fun y H4 => ∃ acc, H4 D = some (.lst acc) ∧ acc.length < sizeLine ∧ Pv D (i + 1) (upd H4 D (.lst (acc ++ [y]))) else Pv D (i + 1) H3) (hd : ∀ D H, H1 D = none → Pv D xs.length H → Q (.ref D) H) : LcG (Itt K a) g tt te vs σ Q H1 :=
  fun D hD => lc_tup (Qd := fun H => Q (.ref D) H) (Pv D) (h0 D hD) (fun i H hi h => hl D i H hD hi h) (fun i x H hi h => hs D i x H hD hi h) fun H h => hd D H hD h
def rCallA (sub : Sub) (ts : List Tok) (fs : List Fun3) (i : Nat) : R Ex3 := match ts[i]? with
  | some (some (.name w), s) => rCall sub ts fs w s i
  | _ => none
def rNamedA (sub : Sub) (ts : List Tok) (ns : Option (List Cs)) (fs : List Fun3) (i : Nat) : R Ex3 := match ts[i]? with
  | some (some (.name w), s) => rNamed sub ts ns fs w s i
  | _ => none
/-- ys are those of the funs that are called so; what matters is the first -/
def FndI (nm : Cs) (l : List Fun3) (H : Hp) (ys : List V) : Prop := (l.find? (fun f => decide (f.1 = nm)) = none → ys = []) ∧ ∀ f, l.find? (fun f => decide (f.1 = nm)) = some f → ∃ b r, ys = .ref b :: r ∧ H b = some (.tup (fnV f))
theorem FndI.go {nm : Cs} {l : List Fun3} {H H' : Hp} {ys : List V} (h : FndI nm l H ys) (e : Tp H H') : FndI nm l H' ys := ⟨h.1, fun f q => by
  obtain ⟨b, r, h1, h2⟩ := h.2 f q
  exact ⟨b, r, h1, e _ _ h2⟩⟩
theorem FndI.no {nm : Cs} {l : List Fun3} {H : Hp} {ys : List V} {f : Fun3} (h : FndI nm l H ys) (n : f.1 ≠ nm) : FndI nm (l ++ [f]) H ys := by
  have e : (l ++ [f]).find? (fun f => decide (f.1 = nm)) = l.find? (fun f => decide (f.1 = nm)) := by
    rw [List.find?_append, List.find?_cons, decide_eq_false n]
    show (l.find? _).or none = _
    cases l.find? _ <;> rfl
  unfold FndI
  rw [e]
  exact h
theorem FndI.yes {nm : Cs} {l : List Fun3} {H : Hp} {ys : List V} {f : Fun3} {b : Addr} (h : FndI nm l H ys) (n : f.1 = nm) (hb : H b = some (.tup (fnV f))) : FndI nm (l ++ [f]) H (ys ++ [.ref b]) := by
  have e : (l ++ [f]).find? (fun f => decide (f.1 = nm)) = (l.find? (fun f => decide (f.1 = nm))).or (some f) := by
    rw [List.find?_append, List.find?_cons, decide_eq_true n]
  unfold FndI
  rw [e]
  cases q : l.find? (fun f => decide (f.1 = nm)) with
  | none =>
    refine ⟨fun z => (by cases z), fun g z => ?_⟩
    cases z
    exact ⟨b, [], by rw [h.1 q]; rfl, hb⟩
  | some g =>
    refine ⟨fun z => (by cases z), fun g' z => ?_⟩
    cases z
    obtain ⟨c, r, h1, h2⟩ := h.2 g q
    exact ⟨c, r ++ [.ref b], by rw [h1]; rfl, h2⟩
theorem at_tok {α : Type} {ts : List Tok} {i : Nat} {C1 C2 : Addr} {H : Hp} {E : XK} {kk : α → Prop} {f : Tok → R α} (z : Out C1 C2 H E (atT ts i f) kk) : ∃ t, ts[i]? = some t ∧ Out C1 C2 H E (f t) kk := by
  unfold atT at z
  split at z
  · exact ⟨_, by assumption, z⟩
  · exact z.no.elim
theorem flat_Ss (l : List Cs) : (l.map fun w => V.str (S w)).all flatV = true := by
  induction l with
  | nil => rfl
  | cons s l ih => rw [List.map_cons, List.all_cons, ih]; rfl
theorem inV_Ss (w : Cs) (l : List Cs) : inV (.str (S w)) (l.map fun w => V.str (S w)) = l.contains w := by
  induction l with
  | nil => rfl
  | cons s l ih =>
    show (eqV (V.str (S s)) (V.str (S w)) || inV (.str (S w)) (l.map fun w => V.str (S w))) = _
    rw [ih, List.contains_cons]
    congr 1
    show (S s == S w) = (w == s)
    rw [SX.S_beq]
    exact BEq.comm
theorem name_at {sub : Sub} {ts : List Tok} {i : Nat} {C1 C2 : Addr} {H : Hp} {E : XK} {kk : Ex3 → Prop} {f : Cs → Nat → R Ex3} (z : Out C1 C2 H E (match ts[i]? with | some (some (.name w), s) => f w s | _ => none) kk) : ∃ w s, ts[i]? = some (some (.name w), s) ∧ Out C1 C2 H E (f w s) kk := by
  split at z
  · exact ⟨_, _, by assumption, z⟩
  · exact z.no.elim
section
variable {P : Program} {w : World} {K : PySem.W.Frag} {mg : Str → Option Value} {base : Heap} {a : Ad}
theorem ok_read_call (T : Txt K mg a) (k : Nat) (ok_read_deep : Txt K mg a → FnOk P w K mg base (L2.CX P w) (5 * k + 4) a.f_read_deep a.d_read_deep ["tokens", "at", "names", "funs", "least"] (spDeep K a.c_BadText a.c_BadName k)) :
    FnOk P w K mg base (L2.CX P w) (5 * k + 6) a.f_read_call a.d_read_call ["tokens", "at", "names", "funs"] (spR K a.c_BadText a.c_BadName fun ts ns fs => rCallA (rDeep ts ns fs k) ts fs) := by
  have ok_read_parts := fun T : Txt K mg a => ok_read_parts (P := P) (w := w) (base := base) T k ok_read_deep
  refine T.F_read_call.okX sc_read_call (fun vs H Q E h => ?_) (fun cdv A outer s H vs Q E hr h => ?_)
  · obtain ⟨_, _, _, _, _, _, _, rfl, _⟩ := h
    rfl
  · obtain ⟨p, i, nv, f, ts, ns, fs, rfl, rd, z⟩ := h
    refine ⟨_, (pss_cons (ps_asg (pe_ix ix_tup (pv 0) (pv 1) (fun _ _ => rfl)) (pg_tup rfl (pgs_cons (pg_name (i := 4) sc_read_call.nd rfl (by first | exact Or.inl rfl | exact Or.inr rfl)) (pgs_cons (pg_name (i := 5) sc_read_call.nd rfl (by first | exact Or.inl rfl | exact Or.inr rfl)) (pgs_cons (pg_name (i := 6) sc_read_call.nd rfl (by first | exact Or.inl rfl | exact Or.inr rfl)) pgs_nil)))))
  (pss_cons (ps_setLc (i := 7) (own := [("fun", 12)]) (g := gName 12)  rfl sc_read_call.nd rfl rfl (sw_true rfl rfl rfl (by decide +kernel)) (pi_tup (pv 3)) (blkOk_by (own := [("fun", 12)]) (N := ["tokens", "at", "names", "funs", "_", "name", "spot", "found", "parts", "depth", "many", "fun_depth", "fun"]) (sc := defScope s_read_call) (by decide +kernel)) (fun _ _ _ _ _ => pg_name (i := 12) sc_read_call.nd rfl (Or.inl rfl)) (fun _ _ _ _ _ => (pts_one (pt_cmpR op_eq (pe_ix ix_tup_b (pv 12) pe_int (fun _ _ => rfl)) (pv 5) (nomark _)))) (fun _ _ _ _ _ => (pv 12)))
  (pss_cons (ps_if (pt_not (pt_truth (pv 7) (by intro _; rfl))) (pss_one (ps_raise rfl (takes_of rfl rfl rfl rfl) (pmk_oex T.x_BadName T.xi_BadName T.xt_BadName (ok_BadName_init T) (hr.mono (by omega)) T.b_BadName___init__ .nil pass0 rfl T.m_BadName (pa_cons (pv 6) (pa_cons pe_str pa_nil)))))
    pss_nil)
  (pss_cons (ps_asg (pe_call (ok_read_parts T) (hr.mono (by omega)) rfl T.m_read_parts T.F_read_parts.kp T.b_read_parts .nil (passes_call (takes_of rfl rfl rfl rfl) (fun _ _ _ _ q => q)) (pa_cons (pv 0) (pa_cons (pe_op op_add (pv 1) pe_int) (pa_cons (pv 2) (pa_cons (pv 3) pa_nil))))) (pg_tup rfl (pgs_cons (pg_name (i := 8) sc_read_call.nd rfl (by first | exact Or.inl rfl | exact Or.inr rfl)) (pgs_cons (pg_name (i := 9) sc_read_call.nd rfl (by first | exact Or.inl rfl | exact Or.inr rfl)) (pgs_cons (pg_name (i := 1) sc_read_call.nd rfl (by first | exact Or.inl rfl | exact Or.inr rfl)) pgs_nil)))))
  (pss_cons (ps_asg (pe_ix ix_list (pv 7) pe_int (fun _ _ => rfl)) (pg_tup rfl (pgs_cons (pg_name (i := 4) sc_read_call.nd rfl (by first | exact Or.inl rfl | exact Or.inr rfl)) (pgs_cons (pg_name (i := 10) sc_read_call.nd rfl (by first | exact Or.inl rfl | exact Or.inr rfl)) (pgs_cons (pg_name (i := 11) sc_read_call.nd rfl (by first | exact Or.inl rfl | exact Or.inr rfl)) pgs_nil)))))
  (pss_cons (ps_if (pt_cmpR op_ne (pe_callB call_len_seq (by rfl) T.z_len (by decide +kernel) (pa_cons (pv 8) pa_nil)) (pv 10) (nomark _)) (pss_one (ps_raise rfl (takes_of rfl rfl rfl rfl) (pmk_oex T.x_BadName T.xi_BadName T.xt_BadName (ok_BadName_init T) (hr.mono (by omega)) T.b_BadName___init__ .nil pass0 rfl T.m_BadName (pa_cons (pv 6) (pa_cons pe_str pa_nil)))))
    pss_nil)
  (pss_cons (ps_set (i := 9) sc_read_call.nd rfl (by first | exact Or.inl rfl | exact Or.inr rfl) (pe_call (ok_check_depth T) (hr.mono (by omega)) rfl T.m_check_depth T.F_check_depth.kp T.b_check_depth .nil (passes_call (takes_of rfl rfl rfl rfl) (fun _ _ _ _ q => q)) (pa_cons (pe_op op_add pe_int (pe_callB (call_max2 rfl) (by rfl) T.z_max (by decide +kernel) (pa_cons (pv 9) (pa_cons (pv 11) pa_nil)))) (pa_cons (pv 6) pa_nil))))
  (pss_one (ps_ret (pe_tup (pa_cons (pe_tup (pa_cons pe_str (pa_cons (pv 5) (pa_cons (pv 8) pa_nil)))) (pa_cons (pv 9) (pa_cons (pv 1) pa_nil))))))))))))), ?_⟩
    obtain ⟨nm, sp, e, z⟩ := name_at (sub := rDeep ts ns fs k) z
    walk_at "sm"
    refine tkA_ix rd.tk e fun b hb => ⟨b, rfl, _, .inl (.inl hb), rfl, ?_⟩
    walk_at "sm"
    obtain ⟨fxs, hf, hfx⟩ := rd.fn
    have hfl : fxs.length = fs.length := by have := paired_len hfx; rwa [List.length_map] at this
    have hlf := rd.lf
    refine ⟨_, _, rfl, _, _, rfl, _, _, rfl, rfl, ⟨_, SqT.of hf⟩, lcg_tup (xs := fxs) (fun D i H' => Evl.Ex H H' ∧ ∃ ys, H' D = some (.lst ys) ∧ ys.length ≤ i ∧ FndI nm (fs.take i) H' ys)
      (fun D hD => ⟨Evl.Ex.new hD, [], upd_same, Nat.le_refl _, fun _ => rfl, fun _ q => by cases q⟩) (fun D i H' _ _ h => SqT.of (h.1 _ _ hf)) (fun D i x H' hD hi h => ?_) (fun D H' hD h => ?_)⟩
    · obtain ⟨e1, ys, hy, hyl, hfi⟩ := h
      have hi2 := (List.getElem?_eq_some_iff.mp hi).1
      have hi3 : i < fs.length := by omega
      obtain ⟨x', h3, b', h4, h5⟩ := paired_at (i := i) hfx (by rw [List.getElem?_map, List.getElem?_eq_getElem hi3]; rfl)
      rw [hi] at h3
      cases h3
      subst h4
      have et : fs.take (i + 1) = fs.take i ++ [fs[i]] := by rw [List.take_add_one, List.getElem?_eq_getElem hi3]; rfl
      walk_at "sm"
      refine ix0 (e1 _ _ h5) ⟨rfl, ?_⟩
      refine ite2 (fun hn => ⟨ys, hy, Nat.lt_of_le_of_lt (show ys.length ≤ 90000 by omega) (by decide), e1.mut hD, _, upd_same, ?_, ?_⟩) (fun hn => ⟨e1, ys, hy, by omega, ?_⟩)
      · rw [List.length_append, List.length_singleton]; omega
      · rw [et]
        refine FndI.yes (hfi.go (Tp.upd hy)) (S_inj (V.str.inj hn)) ?_
        rw [upd_ne (ne_of (e1 _ _ h5) hy (by intro z; cases z))]
        exact e1 _ _ h5
      · rw [et]
        exact hfi.no fun q => hn (by rw [q]; rfl)
    · obtain ⟨e1, ys, hy, hyl, hfi⟩ := h
      rw [hfl, List.take_length] at hfi
      unfold rCall at z
      cases ef : fs.find? (fun f => decide (f.1 = nm)) with
      | none =>
        rw [ef] at z
        have hy0 := hfi.1 ef
        subst hy0
        have z : Out a.c_BadText a.c_BadName H E (rer true sp "elder") (K3 H Q) := z
        exact ⟨false, .inl ⟨[], SqL.of hy, rfl⟩, iteT (mk2 (z.er2.go e1))⟩
      | some g =>
        rw [ef] at z
        obtain ⟨c, r, hy1, hc⟩ := hfi.2 g ef
        subst hy1
        have z : Out a.c_BadText a.c_BadName H E (bnd (rPartsA (rDeep ts ns fs k) ts (i + 2)) fun r => if r.1.length = g.2.1 then bnd (rChk (1 + max r.2.1 g.2.2) sp) fun d => rok (.tuple [.str "call", .str (S nm), .tuple r.1], d, r.2.2) else rer true sp "many") (K3 H Q) := z
        refine ⟨true, .inl ⟨_, SqL.of hy, rfl⟩, iteF ⟨p, i + 2, nv, f, ts, ns, fs, rfl, rd.go e1, (z.bnd.go e1).imp fun r z q t xs H2 e2 hq ht hxs => ⟨q, rfl, _, .inl (.inl hq), rfl, ?_⟩⟩⟩
        have e12 := e1.trans e2
        have hxl := hxs.len
        walk_at "sm"
        refine ixl (SqL.of (e2 _ _ hy)) (atI_nat (j := 0) rfl) ⟨c, rfl, _, .inl (.inl (e2 _ _ hc)), rfl, _, _, rfl, _, _, rfl, _, _, rfl, rfl, _, .inr (SqT.of ht), rfl, ?_⟩
        refine ite2 (fun hn => ?_) (fun hn => ?_)
        · rw [if_neg (by intro q; rw [hxl, q] at hn; simp at hn)] at z
          exact mk2 (z.er2.go e12)
        · rw [if_pos (by rw [hxl] at hn; simp at hn; omega)] at z
          refine ⟨_, rfl, ?_⟩
          rw [max_cast]
          refine ⟨1 + max r.2.1 g.2.2, sp, rfl, (z.bnd.go e12).imp fun d z => ⟨sz (by decide), fun t2 ht2 => ⟨sz (by decide), fun o ho => ?_⟩⟩⟩
          have e3 := Evl.Ex.new (o := .tup [V.str "call", (Tk.name nm).val, V.ref t]) ht2
          have hu : upd H2 t2 (.tup [V.str "call", (Tk.name nm).val, V.ref t]) t2 = some (.tup [V.str "call", (Tk.name nm).val, V.ref t]) := upd_same
          have hat : At (upd H2 t2 (.tup [V.str "call", (Tk.name nm).val, V.ref t])) (.ref t2) (.tuple [.str "call", .str (S nm), .tuple r.1]) :=
            .tup hu (.cons (.str _) (.cons (.str _) (.cons (.tup (e3 _ _ ht) (hxs.ex e3)) .nil)))
          exact z.ok o (.ref t2) _ (e12.trans (e3.trans (Evl.Ex.new ho))) upd_same (hat.ex (Evl.Ex.new ho))
theorem ok_read_named
    (T : Txt K mg a) (k : Nat) (ok_read_deep : Txt K mg a → FnOk P w K mg base (L2.CX P w) (5 * k + 4) a.f_read_deep a.d_read_deep ["tokens", "at", "names", "funs", "least"] (spDeep K a.c_BadText a.c_BadName k)) :
    FnOk P w K mg base (L2.CX P w) (5 * k + 7) a.f_read_named a.d_read_named ["tokens", "at", "names", "funs"] (spR K a.c_BadText a.c_BadName fun ts ns fs => rNamedA (rDeep ts ns fs k) ts ns fs) := by
  have ok_read_call := fun T : Txt K mg a => ok_read_call (P := P) (w := w) (base := base) T k ok_read_deep
  refine T.F_read_named.okX sc_read_named (fun vs H Q E h => ?_) (fun cdv A outer s H vs Q E hr h => ?_)
  · obtain ⟨_, _, _, _, _, _, _, rfl, _⟩ := h
    rfl
  · obtain ⟨p, i, nv, f, ts, ns, fs, rfl, rd, z⟩ := h
    refine ⟨_, (pss_cons (ps_asg (pe_ix ix_tup (pv 0) (pv 1) (fun _ _ => rfl)) (pg_tup rfl (pgs_cons (pg_name (i := 4) sc_read_named.nd rfl (by first | exact Or.inl rfl | exact Or.inr rfl)) (pgs_cons (pg_name (i := 5) sc_read_named.nd rfl (by first | exact Or.inl rfl | exact Or.inr rfl)) (pgs_cons (pg_name (i := 6) sc_read_named.nd rfl (by first | exact Or.inl rfl | exact Or.inr rfl)) pgs_nil)))))
  (pss_cons (ps_if (pt_val (pe_call (ok_is_sign T) (hr.mono (by omega)) rfl T.m_is_sign T.F_is_sign.kp T.b_is_sign .nil pass0 (pa_cons (pe_ix ix_tup (pv 0) (pe_op op_add (pv 1) pe_int) (fun _ _ => rfl)) (pa_cons pe_str pa_nil)))) (pss_one (ps_ret (pe_call (ok_read_call T) (hr.mono (by omega)) rfl T.m_read_call T.F_read_call.kp T.b_read_call .nil (passes_call (takes_of rfl rfl rfl rfl) (fun _ _ _ _ q => q)) (pa_cons (pv 0) (pa_cons (pv 1) (pa_cons (pv 2) (pa_cons (pv 3) pa_nil)))))))
    pss_nil)
  (pss_cons (ps_if (PW.pt (pw_and (pt_cmpR op_notN (pv 2) pe_non (nomark _)) (pw_and1 (pt_cmpR op_notIn_seq (pv 5) (pv 2) (by rfl))))) (pss_one (ps_raise rfl (takes_of rfl rfl rfl rfl) (pmk_oex T.x_BadName T.xi_BadName T.xt_BadName (ok_BadName_init T) (hr.mono (by omega)) T.b_BadName___init__ .nil pass0 rfl T.m_BadName (pa_cons (pv 6) (pa_cons pe_str pa_nil)))))
    pss_nil)
  (pss_one (ps_ret (pe_tup (pa_cons (pe_tup (pa_cons pe_str (pa_cons (pv 5) pa_nil))) (pa_cons pe_int (pa_cons (pe_op op_add (pv 1) pe_int) pa_nil))))))))), ?_⟩
    obtain ⟨nm, sp, e, z⟩ := name_at (sub := rDeep ts ns fs k) z
    unfold rNamed at z
    cases e1 : ts[i + 1]? with
    | none => rw [e1] at z; exact z.no.elim
    | some u =>
      rw [e1] at z
      have z : Out a.c_BadText a.c_BadName H E (if isS u [40] = true then rCall (rDeep ts ns fs k) ts fs nm sp i else rNm1 ns nm sp i) (K3 H Q) := z
      walk_at "sm"
      refine tkA_ix rd.tk e fun b hb => ⟨b, rfl, _, .inl (.inl hb), rfl, ?_⟩
      walk_at "sm"
      refine ⟨_, _, rfl, _, _, rfl, _, _, rfl, rfl, tkA_ix rd.tk e1 fun c hc => ⟨c, u, [40], rfl, hc, fun H1 e2 => ⟨_, rfl, ?_⟩⟩⟩
      cases hs : isS u [40] with
      | true =>
        rw [hs, if_pos rfl] at z
        refine iteT ⟨p, i, nv, f, ts, ns, fs, rfl, rd.go e2, ?_⟩
        have ec : rCallA (rDeep ts ns fs k) ts fs i = rCall (rDeep ts ns fs k) ts fs nm sp i := by unfold rCallA; rw [e]
        show Out _ _ H1 E (rCallA (rDeep ts ns fs k) ts fs i) _
        rw [ec]
        exact (z.go e2).imp fun r h => h.go e2
      | false =>
        rw [hs, if_neg (by decide)] at z
        refine iteF ?_
        have fin : ∀ H2, Evl.Ex H H2 → Out a.c_BadText a.c_BadName H E (rok (.tuple [.str "name", .str (S nm)], 1, i + 1)) (K3 H Q) → 0 + 1 + 1 ≤ sizeLine ∧ ∀ t, H2 t = none → 0 + 1 + 1 + 1 ≤ sizeLine ∧ ∀ o, upd H2 t (.tup [V.str "name", (Tk.name nm).val]) o = none →
            Q (.ref o) (upd (upd H2 t (.tup [V.str "name", (Tk.name nm).val])) o (.tup [.ref t, .int 1, .int (i + 1)])) := fun H2 e3 z => ⟨sz (by decide), fun t ht => ⟨sz (by decide), fun o ho =>
          z.ok o (.ref t) _ (e3.trans ((Evl.Ex.new ht).trans (Evl.Ex.new ho))) upd_same (At.ex (Evl.Ex.new ho) (.tup upd_same (.cons (.str _) (.cons (.str _) .nil))))⟩⟩
        have hnm := (rd.go e2).nm
        unfold rNm1 at z
        cases ns with
        | none =>
          have hv : nv = .non := hnm
          subst hv
          exact iteF (fin H1 e2 z)
        | some l =>
          obtain ⟨q, hv, hq⟩ := hnm
          subst hv
          have z : Out a.c_BadText a.c_BadName H E (if l.contains nm = true then rok (.tuple [.str "name", .str (S nm)], 1, i + 1) else rer true sp "unknown") (K3 H Q) := z
          refine iteT ⟨q, _, rfl, hq, rfl, flat_Ss l, ⟨_, rfl, ?_⟩⟩
          rw [show (Tk.name nm).val = V.str (S nm) from rfl, inV_Ss]
          cases hc : l.contains nm with
          | true =>
            rw [hc, if_pos rfl] at z
            exact iteF (fin H1 e2 z)
          | false =>
            rw [hc, if_neg (by decide)] at z
            exact iteT (mk2 (z.er2.go e2))
theorem ok_read_pick
    (T : Txt K mg a) (k : Nat) (ok_read_deep : Txt K mg a → FnOk P w K mg base (L2.CX P w) (5 * k + 4) a.f_read_deep a.d_read_deep ["tokens", "at", "names", "funs", "least"] (spDeep K a.c_BadText a.c_BadName k)) :
    FnOk P w K mg base (L2.CX P w) (5 * k + 5) a.f_read_pick a.d_read_pick ["tokens", "at", "names", "funs"] (spR K a.c_BadText a.c_BadName fun ts ns fs i => atT ts i fun t => rPick (rDeep ts ns fs k) ts t.2 i) := by
  refine T.F_read_pick.okX sc_read_pick (fun vs H Q E h => ?_) (fun cdv A outer s H vs Q E hr h => ?_)
  · obtain ⟨_, _, _, _, _, _, _, rfl, _⟩ := h
    rfl
  · obtain ⟨p, i, nv, f, ts, ns, fs, rfl, rd, z⟩ := h
    refine ⟨_, (pss_cons (ps_set (i := 4) sc_read_pick.nd rfl (by first | exact Or.inl rfl | exact Or.inr rfl) (pe_ix ix_tup (pe_ix ix_tup (pv 0) (pv 1) (fun _ _ => rfl)) pe_int (fun _ _ => rfl)))
  (pss_cons (ps_set (i := 1) sc_read_pick.nd rfl (by first | exact Or.inl rfl | exact Or.inr rfl) (pe_call (ok_take_sign T) (hr.mono (by omega)) rfl T.m_take_sign T.F_take_sign.kp T.b_take_sign .nil (passes_call (takes_of rfl rfl rfl rfl) (fun _ _ _ _ q => q)) (pa_cons (pv 0) (pa_cons (pe_op op_add (pv 1) pe_int) (pa_cons pe_str pa_nil)))))
  (pss_cons (ps_asg (pe_call (ok_read_deep T) (hr.mono (by omega)) rfl T.m_read_deep T.F_read_deep.kp T.b_read_deep .nil (passes_call (takes_of rfl rfl rfl rfl) (fun _ _ _ _ q => q)) (pa_cons (pv 0) (pa_cons (pv 1) (pa_cons (pv 2) (pa_cons (pv 3) (pa_cons pe_int pa_nil)))))) (pg_tup rfl (pgs_cons (pg_name (i := 5) sc_read_pick.nd rfl (by first | exact Or.inl rfl | exact Or.inr rfl)) (pgs_cons (pg_name (i := 6) sc_read_pick.nd rfl (by first | exact Or.inl rfl | exact Or.inr rfl)) (pgs_cons (pg_name (i := 1) sc_read_pick.nd rfl (by first | exact Or.inl rfl | exact Or.inr rfl)) pgs_nil)))))
  (pss_cons (ps_set (i := 1) sc_read_pick.nd rfl (by first | exact Or.inl rfl | exact Or.inr rfl) (pe_call (ok_take_sign T) (hr.mono (by omega)) rfl T.m_take_sign T.F_take_sign.kp T.b_take_sign .nil (passes_call (takes_of rfl rfl rfl rfl) (fun _ _ _ _ q => q)) (pa_cons (pv 0) (pa_cons (pv 1) (pa_cons pe_str pa_nil)))))
  (pss_cons (ps_asg (pe_call (ok_read_deep T) (hr.mono (by omega)) rfl T.m_read_deep T.F_read_deep.kp T.b_read_deep .nil (passes_call (takes_of rfl rfl rfl rfl) (fun _ _ _ _ q => q)) (pa_cons (pv 0) (pa_cons (pv 1) (pa_cons (pv 2) (pa_cons (pv 3) (pa_cons pe_int pa_nil)))))) (pg_tup rfl (pgs_cons (pg_name (i := 7) sc_read_pick.nd rfl (by first | exact Or.inl rfl | exact Or.inr rfl)) (pgs_cons (pg_name (i := 8) sc_read_pick.nd rfl (by first | exact Or.inl rfl | exact Or.inr rfl)) (pgs_cons (pg_name (i := 1) sc_read_pick.nd rfl (by first | exact Or.inl rfl | exact Or.inr rfl)) pgs_nil)))))
  (pss_cons (ps_set (i := 1) sc_read_pick.nd rfl (by first | exact Or.inl rfl | exact Or.inr rfl) (pe_call (ok_take_sign T) (hr.mono (by omega)) rfl T.m_take_sign T.F_take_sign.kp T.b_take_sign .nil (passes_call (takes_of rfl rfl rfl rfl) (fun _ _ _ _ q => q)) (pa_cons (pv 0) (pa_cons (pv 1) (pa_cons pe_str pa_nil)))))
  (pss_cons (ps_asg (pe_call (ok_read_deep T) (hr.mono (by omega)) rfl T.m_read_deep T.F_read_deep.kp T.b_read_deep .nil (passes_call (takes_of rfl rfl rfl rfl) (fun _ _ _ _ q => q)) (pa_cons (pv 0) (pa_cons (pv 1) (pa_cons (pv 2) (pa_cons (pv 3) (pa_cons pe_int pa_nil)))))) (pg_tup rfl (pgs_cons (pg_name (i := 9) sc_read_pick.nd rfl (by first | exact Or.inl rfl | exact Or.inr rfl)) (pgs_cons (pg_name (i := 10) sc_read_pick.nd rfl (by first | exact Or.inl rfl | exact Or.inr rfl)) (pgs_cons (pg_name (i := 1) sc_read_pick.nd rfl (by first | exact Or.inl rfl | exact Or.inr rfl)) pgs_nil)))))
  (pss_cons (ps_set (i := 1) sc_read_pick.nd rfl (by first | exact Or.inl rfl | exact Or.inr rfl) (pe_call (ok_take_sign T) (hr.mono (by omega)) rfl T.m_take_sign T.F_take_sign.kp T.b_take_sign .nil (passes_call (takes_of rfl rfl rfl rfl) (fun _ _ _ _ q => q)) (pa_cons (pv 0) (pa_cons (pv 1) (pa_cons pe_str pa_nil)))))
  (pss_cons (ps_set (i := 11) sc_read_pick.nd rfl (by first | exact Or.inl rfl | exact Or.inr rfl) (pe_call (ok_check_depth T) (hr.mono (by omega)) rfl T.m_check_depth T.F_check_depth.kp T.b_check_depth .nil (passes_call (takes_of rfl rfl rfl rfl) (fun _ _ _ _ q => q)) (pa_cons (pe_op op_add pe_int (pe_callB (call_max3Nu rfl) (by rfl) T.z_max (by decide +kernel) (pa_cons (pv 6) (pa_cons (pv 8) (pa_cons (pv 10) pa_nil))))) (pa_cons (pv 4) pa_nil))))
  (pss_one (ps_ret (pe_tup (pa_cons (pe_tup (pa_cons pe_str (pa_cons (pe_tup (pa_cons pe_str pa_nil)) (pa_cons (pe_tup (pa_cons (pv 5) (pa_cons (pv 7) (pa_cons (pv 9) pa_nil)))) pa_nil)))) (pa_cons (pv 11) (pa_cons (pv 1) pa_nil))))))))))))))), ?_⟩
    obtain ⟨t, e, z⟩ := at_tok z
    unfold rPick at z
    walk_at "sm"
    refine tkA_ix rd.tk e fun b hb => ?_
    rw [tkV_eq] at hb
    refine ix2 hb ⟨p, ts, i + 1, [40], rfl, rd.tk, z.bnd.imp fun j1 z H1 e1 => ?_⟩
    refine ⟨p, j1, nv, f, 0, ts, ns, fs, rfl, rd.go e1, (z.bnd.go e1).imp fun x z qx vx H2 ex hqx hx => ⟨qx, rfl, _, .inl (.inl hqx), rfl, ?_⟩⟩
    have g2 := e1.trans ex
    walk_at "sm"
    refine ⟨p, ts, _, [44], rfl, (rd.go g2).tk, (z.bnd.go g2).imp fun j2 z H3 e3 => ?_⟩
    have g3 := g2.trans e3
    refine ⟨p, j2, nv, f, 0, ts, ns, fs, rfl, rd.go g3, (z.bnd.go g3).imp fun y z qy vy H4 ey hqy hy => ⟨qy, rfl, _, .inl (.inl hqy), rfl, ?_⟩⟩
    have g4 := g3.trans ey
    walk_at "sm"
    refine ⟨p, ts, _, [44], rfl, (rd.go g4).tk, (z.bnd.go g4).imp fun j3 z H5 e5 => ?_⟩
    have g5 := g4.trans e5
    refine ⟨p, j3, nv, f, 0, ts, ns, fs, rfl, rd.go g5, (z.bnd.go g5).imp fun u z qz vz H6 ez hqz hz => ⟨qz, rfl, _, .inl (.inl hqz), rfl, ?_⟩⟩
    have g6 := g5.trans ez
    walk_at "sm"
    refine ⟨p, ts, _, [41], rfl, (rd.go g6).tk, (z.bnd.go g6).imp fun j4 z H7 e7 => ?_⟩
    have g7 := g6.trans e7
    refine ⟨_, _, _, .int ((max (max x.2.1 y.2.1) u.2.1 : Nat) : Int), rfl, ?_, _, rfl, ?_⟩
    · show (nuMax2 (.int (x.2.1 : Nat)) (.int (y.2.1 : Nat))).bind (fun m => nuMax2 m (.int (u.2.1 : Nat))) = _
      rw [nuMax2_int]
      exact nuMax2_int _ _
    refine ⟨1 + max (max x.2.1 y.2.1) u.2.1, t.2, rfl, (z.bnd.go g7).imp fun d z => ⟨sz (by decide), fun p1 n1 => ⟨sz (by decide), fun p2 n2 => ⟨sz (by decide), fun p3 n3 => ⟨sz (by decide), fun o ho => ?_⟩⟩⟩⟩⟩
    have hx7 : At H7 vx x.1 := hx.ex (e3.trans (ey.trans (e5.trans (ez.trans e7))))
    have hy7 : At H7 vy y.1 := hy.ex (e5.trans (ez.trans e7))
    have hz7 : At H7 vz u.1 := hz.ex e7
    obtain ⟨m1, m2⟩ := op_mk (ks := [.str "pick"]) (.cons (.str _) .nil) (.cons hx7 (.cons hy7 (.cons hz7 .nil))) n1 n2 n3
    exact z.ok o (.ref p3) _ (g7.trans (m2.trans (Evl.Ex.new ho))) upd_same (m1.ex (Evl.Ex.new ho))
def spNums (C1 C2 : Addr) : Sp := fun vs H Q E => ∃ (p : Addr) (ts : List Tok) (i : Nat), vs = [.ref p, .int i] ∧ TkA H p ts ∧ ts.length ≤ 90000 ∧ Out C1 C2 H E (rNumsA ts i) fun r => ∀ q t H', Evl.Ex H H' → H' q = some (.tup [.ref t, .int (r.2 : Nat)]) → H' t = some (.tup (r.1.map fun n => V.int (n : Nat))) → Q (.ref q) H'
def ivNums (C1 C2 : Addr) (H : Hp) (Q : VK) (E : XK) (p : Addr) (ts : List Tok) : Nat → L2.St → Hp → Prop := fun n σ H' => ∃ (l : Addr) (acc : List Nat) (i m : Nat), σ = [some (.ref p), some (.int i), some (.int m), some (.ref l), none] ∧ H' l = some (.lst (acc.map fun n => V.int (n : Nat))) ∧ H l = none ∧ Evl.Ex H H' ∧ acc.length + n ≤ 90001 ∧
  Out C1 C2 H E (rNums ts n acc i) fun r => ∀ q t H', Evl.Ex H H' → H' q = some (.tup [.ref t, .int (r.2 : Nat)]) → H' t = some (.tup (r.1.map fun n => V.int (n : Nat))) → Q (.ref q) H'
theorem ok_read_numbers (T : Txt K mg a) : FnOk P w K mg base (L2.CX P w) 4 a.f_read_numbers a.d_read_numbers ["tokens", "at"] (spNums a.c_BadText a.c_BadName) := by
  refine T.F_read_numbers.okX sc_read_numbers (fun vs H Q E h => ?_) (fun cdv A outer s H vs Q E hr h => ?_)
  · obtain ⟨_, _, _, rfl, _⟩ := h
    rfl
  · obtain ⟨p, ts, i, rfl, tk, hl, z⟩ := h
    refine ⟨_, (pss_cons (ps_asg (pe_call (ok_take_number T) (hr.mono (by decide)) rfl T.m_take_number T.F_take_number.kp T.b_take_number .nil (passes_call (takes_of rfl rfl rfl rfl) (fun _ _ _ _ q => q)) (pa_cons (pv 0) (pa_cons (pv 1) pa_nil))) (pg_tup rfl (pgs_cons (pg_name (i := 2) sc_read_numbers.nd rfl (by first | exact Or.inl rfl | exact Or.inr rfl)) (pgs_cons (pg_name (i := 1) sc_read_numbers.nd rfl (by first | exact Or.inl rfl | exact Or.inr rfl)) pgs_nil))))
  (pss_cons (ps_set (i := 3) sc_read_numbers.nd rfl (by first | exact Or.inl rfl | exact Or.inr rfl) (pe_lst (pa_cons (pv 2) pa_nil)))
  (pss_cons (ps_while (passes_of rfl) (pt_val (pe_call (ok_is_sign T) (hr.mono (by decide)) rfl T.m_is_sign T.F_is_sign.kp T.b_is_sign .nil pass0 (pa_cons (pe_ix ix_tup (pv 0) (pv 1) (fun _ _ => rfl)) (pa_cons pe_str pa_nil)))) (pss_cons (ps_asg (pe_call (ok_take_number T) (hr.mono (by decide)) rfl T.m_take_number T.F_take_number.kp T.b_take_number .nil (passes_call (takes_of rfl rfl rfl rfl) (fun _ _ _ _ q => q)) (pa_cons (pv 0) (pa_cons (pe_op op_add (pv 1) pe_int) pa_nil))) (pg_tup rfl (pgs_cons (pg_name (i := 2) sc_read_numbers.nd rfl (by first | exact Or.inl rfl | exact Or.inr rfl)) (pgs_cons (pg_name (i := 1) sc_read_numbers.nd rfl (by first | exact Or.inl rfl | exact Or.inr rfl)) pgs_nil))))
  (pss_one (ps_expr (pe_bm PySem.F.plainAttrs_list PySem.F.slot_list_append PySem.F.type_list_append mt_append (pv 3) (pa_cons (pv 2) pa_nil))))))
  (pss_cons (ps_set (i := 4) sc_read_numbers.nd rfl (by first | exact Or.inl rfl | exact Or.inr rfl) (pe_call (ok_take_sign T) (hr.mono (by decide)) rfl T.m_take_sign T.F_take_sign.kp T.b_take_sign .nil (passes_call (takes_of rfl rfl rfl rfl) (fun _ _ _ _ q => q)) (pa_cons (pv 0) (pa_cons (pv 1) (pa_cons pe_str pa_nil)))))
  (pss_cons (ps_if (pt_cmpR op_notIn_seq (pe_callB call_len_seq (by rfl) T.z_len (by decide +kernel) (pa_cons (pv 3) pa_nil)) (pe_glob rfl T.g_TABLE_SIZES.choose_spec.1 T.g_TABLE_SIZES.choose_spec.2) (by rfl)) (pss_one (ps_raise rfl (takes_of rfl rfl rfl rfl) (pmk_oex T.x_BadText T.xi_BadText T.xt_BadText (ok_BadText_init T) (hr.mono (by decide)) T.b_BadText___init__ .nil pass0 rfl T.m_BadText (pa_cons (pe_ix ix_tup (pe_ix ix_tup (pv 0) (pv 1) (fun _ _ => rfl)) pe_int (fun _ _ => rfl)) (pa_cons pe_str pa_nil)))))
    pss_nil)
  (pss_one (ps_ret (pe_tup (pa_cons (pe_callTy call_tuple_of (by rfl) T.z_tuple (by decide +kernel) (pa_cons (pv 3) pa_nil)) (pa_cons (pv 4) pa_nil)))))))))), ?_⟩
    unfold rNumsA at z
    walk_at "sm"
    refine ⟨p, ts, i, rfl, tk, z.bnd.imp fun r z q H1 e1 hq => ⟨q, rfl, _, .inl (.inl hq), rfl, ?_⟩⟩
    walk_at "sm"
    refine ⟨sz (by decide), fun l hl1 => ⟨ivNums a.c_BadText a.c_BadName H Q E p ts, ⟨ts.length, l, [r.1], r.2, r.1, rfl, upd_same, Evl.fresh_back e1 hl1, e1.trans (Evl.Ex.new hl1), ?_, z⟩, ?_⟩⟩
    · show 1 + ts.length ≤ 90001
      omega
    rintro n σ H2 ⟨l, acc, i, m, rfl, hl2, hl0, e2, hn, z⟩
    cases n with
    | zero => exact z.no.elim
    | succ n =>
      obtain ⟨u, e, z⟩ := at_tok z
      walk_at "sm"
      refine tkA_ix (tk.go (Tp.ex e2)) e fun b hb => ⟨b, u, [44], rfl, hb, fun H3 e3 => ⟨_, rfl, ?_⟩⟩
      have g3 := e2.trans e3
      cases hs : isS u [44] with
      | true =>
        rw [hs, if_pos rfl] at z
        refine iteT ⟨below (ivNums a.c_BadText a.c_BadName H Q E p ts) (n + 1), fun _ _ h => h, p, ts, i + 1, rfl, tk.go (Tp.ex g3), (z.bnd.go g3).imp fun r z q H4 e4 hq => ⟨q, rfl, _, .inl (.inl hq), rfl, _, _, rfl, _, _, rfl, rfl, ?_⟩⟩
        have hl4 := e4 _ _ (e3 _ _ hl2)
        refine ⟨.inl ⟨rfl, _, SqL.of hl4⟩, l, _, _, rfl, rfl, hl4, ?_, ?_⟩
        · rw [List.length_map]; exact Nat.lt_of_le_of_lt (show acc.length ≤ 90001 by omega) (by decide)
        · refine ⟨n, by omega, l, acc ++ [r.1], r.2, r.1, rfl, ?_, hl0, (g3.trans e4).mut hl0, ?_, z⟩
          · rw [upd_same, List.map_append]; rfl
          · rw [List.length_append, List.length_singleton]; omega
      | false =>
        rw [hs, if_neg (by decide)] at z
        refine iteF ⟨p, ts, i, [93], rfl, tk.go (Tp.ex g3), (z.bnd.go g3).imp fun j z H4 e4 => ?_⟩
        have hl4 := e4 _ _ (e3 _ _ hl2)
        have g4 := g3.trans e4
        refine ⟨_, .inl (SqL.of hl4), ni_tup (T.t_TABLE_SIZES H4) rfl (by decide +kernel) ⟨_, rfl, ?_⟩⟩
        rw [List.length_map, inV_sizes]
        cases hc : [1, 2, 4, 8, 16].contains acc.length with
        | false =>
          rw [hc, if_neg (by decide)] at z
          refine iteT (tkA_ix (tk.go (Tp.ex g4)) e fun b hb => ?_)
          rw [tkV_eq] at hb
          exact ix2 hb (mk2 (z.er1.go g4))
        | true =>
          rw [hc, if_pos rfl] at z
          refine iteF ⟨_, .inl ⟨SqL.of hl4, fun t ht => ⟨sz (by decide), fun o ho => ?_⟩⟩⟩
          exact z.ok o t _ (g4.trans ((Evl.Ex.new ht).trans (Evl.Ex.new ho))) upd_same ((Evl.Ex.new ho) _ _ upd_same)
theorem ok_read_table
    (T : Txt K mg a) (k : Nat) (ok_read_deep : Txt K mg a → FnOk P w K mg base (L2.CX P w) (5 * k + 4) a.f_read_deep a.d_read_deep ["tokens", "at", "names", "funs", "least"] (spDeep K a.c_BadText a.c_BadName k)) :
    FnOk P w K mg base (L2.CX P w) (5 * k + 5) a.f_read_table a.d_read_table ["tokens", "at", "names", "funs"] (spR K a.c_BadText a.c_BadName fun ts ns fs i => atT ts i fun t => rTable (rDeep ts ns fs k) ts t.2 i) := by
  refine T.F_read_table.okX sc_read_table (fun vs H Q E h => ?_) (fun cdv A outer s H vs Q E hr h => ?_)
  · obtain ⟨_, _, _, _, _, _, _, rfl, _⟩ := h
    rfl
  · obtain ⟨p, i, nv, f, ts, ns, fs, rfl, rd, z⟩ := h
    refine ⟨_, (pss_cons (ps_set (i := 4) sc_read_table.nd rfl (by first | exact Or.inl rfl | exact Or.inr rfl) (pe_ix ix_tup (pe_ix ix_tup (pv 0) (pv 1) (fun _ _ => rfl)) pe_int (fun _ _ => rfl)))
  (pss_cons (ps_asg (pe_call (ok_read_numbers T) (hr.mono (by omega)) rfl T.m_read_numbers T.F_read_numbers.kp T.b_read_numbers .nil (passes_call (takes_of rfl rfl rfl rfl) (fun _ _ _ _ q => q)) (pa_cons (pv 0) (pa_cons (pe_call (ok_take_sign T) (hr.mono (by omega)) rfl T.m_take_sign T.F_take_sign.kp T.b_take_sign .nil (passes_call (takes_of rfl rfl rfl rfl) (fun _ _ _ _ q => q)) (pa_cons (pv 0) (pa_cons (pe_op op_add (pv 1) pe_int) (pa_cons pe_str pa_nil)))) pa_nil))) (pg_tup rfl (pgs_cons (pg_name (i := 5) sc_read_table.nd rfl (by first | exact Or.inl rfl | exact Or.inr rfl)) (pgs_cons (pg_name (i := 1) sc_read_table.nd rfl (by first | exact Or.inl rfl | exact Or.inr rfl)) pgs_nil))))
  (pss_cons (ps_set (i := 1) sc_read_table.nd rfl (by first | exact Or.inl rfl | exact Or.inr rfl) (pe_call (ok_take_sign T) (hr.mono (by omega)) rfl T.m_take_sign T.F_take_sign.kp T.b_take_sign .nil (passes_call (takes_of rfl rfl rfl rfl) (fun _ _ _ _ q => q)) (pa_cons (pv 0) (pa_cons (pv 1) (pa_cons pe_str pa_nil)))))
  (pss_cons (ps_asg (pe_call (ok_read_deep T) (hr.mono (by omega)) rfl T.m_read_deep T.F_read_deep.kp T.b_read_deep .nil (passes_call (takes_of rfl rfl rfl rfl) (fun _ _ _ _ q => q)) (pa_cons (pv 0) (pa_cons (pv 1) (pa_cons (pv 2) (pa_cons (pv 3) (pa_cons pe_int pa_nil)))))) (pg_tup rfl (pgs_cons (pg_name (i := 6) sc_read_table.nd rfl (by first | exact Or.inl rfl | exact Or.inr rfl)) (pgs_cons (pg_name (i := 7) sc_read_table.nd rfl (by first | exact Or.inl rfl | exact Or.inr rfl)) (pgs_cons (pg_name (i := 1) sc_read_table.nd rfl (by first | exact Or.inl rfl | exact Or.inr rfl)) pgs_nil)))))
  (pss_cons (ps_set (i := 1) sc_read_table.nd rfl (by first | exact Or.inl rfl | exact Or.inr rfl) (pe_call (ok_take_sign T) (hr.mono (by omega)) rfl T.m_take_sign T.F_take_sign.kp T.b_take_sign .nil (passes_call (takes_of rfl rfl rfl rfl) (fun _ _ _ _ q => q)) (pa_cons (pv 0) (pa_cons (pv 1) (pa_cons pe_str pa_nil)))))
  (pss_one (ps_ret (pe_tup (pa_cons (pe_tup (pa_cons pe_str (pa_cons (pe_tup (pa_cons pe_str (pa_cons (pv 5) pa_nil))) (pa_cons (pe_tup (pa_cons (pv 6) pa_nil)) pa_nil)))) (pa_cons (pe_call (ok_check_depth T) (hr.mono (by omega)) rfl T.m_check_depth T.F_check_depth.kp T.b_check_depth .nil (passes_call (takes_of rfl rfl rfl rfl) (fun _ _ _ _ q => q)) (pa_cons (pe_op op_add (pv 7) pe_int) (pa_cons (pv 4) pa_nil))) (pa_cons (pv 1) pa_nil))))))))))), ?_⟩
    obtain ⟨t, e, z⟩ := at_tok z
    unfold rTable at z
    walk_at "sm"
    refine tkA_ix rd.tk e fun b hb => ?_
    rw [tkV_eq] at hb
    refine ix2 hb ⟨p, ts, i + 1, [91], rfl, rd.tk, z.bnd.imp fun j1 z H1 e1 => ?_⟩
    refine ⟨p, ts, j1, rfl, (rd.go e1).tk, rd.ln, (z.bnd.go e1).imp fun l z q tn H2 e2 hq hn => ⟨q, rfl, _, .inl (.inl hq), rfl, ?_⟩⟩
    have g2 := e1.trans e2
    walk_at "sm"
    refine ⟨p, ts, _, [40], rfl, (rd.go g2).tk, (z.bnd.go g2).imp fun j2 z H3 e3 => ?_⟩
    have g3 := g2.trans e3
    refine ⟨p, j2, nv, f, 0, ts, ns, fs, rfl, rd.go g3, (z.bnd.go g3).imp fun x z qx vx H4 ex hqx hx => ⟨qx, rfl, _, .inl (.inl hqx), rfl, ?_⟩⟩
    have g4 := g3.trans ex
    walk_at "sm"
    refine ⟨p, ts, _, [41], rfl, (rd.go g4).tk, (z.bnd.go g4).imp fun j4 z H5 e5 => ?_⟩
    have g5 := g4.trans e5
    refine ⟨sz (by decide), fun p1 n1 => ⟨sz (by decide), fun p2 n2 => ⟨sz (by decide), fun p3 n3 => ?_⟩⟩⟩
    have hx5 : At H5 vx x.1 := hx.ex e5
    have hn5 : At H5 (.ref tn) (dNs l.1) := .tup ((e3.trans (ex.trans e5)) _ _ hn) (at_nums _)
    obtain ⟨m1, m2⟩ := op_mk (ks := [.str "table", dNs l.1]) (.cons (.str _) (.cons hn5 .nil)) (.cons hx5 .nil) n1 n2 n3
    refine ⟨x.2.1 + 1, t.2, rfl, (z.bnd.go (g5.trans m2)).imp fun d z => ⟨sz (by decide), fun o ho => ?_⟩⟩
    exact z.ok o (.ref p3) _ ((g5.trans m2).trans (Evl.Ex.new ho)) upd_same (m1.ex (Evl.Ex.new ho))
theorem ok_read_part
    (T : Txt K mg a) (k : Nat) (ok_read_deep : Txt K mg a → FnOk P w K mg base (L2.CX P w) (5 * k + 4) a.f_read_deep a.d_read_deep ["tokens", "at", "names", "funs", "least"] (spDeep K a.c_BadText a.c_BadName k)) :
    FnOk P w K mg base (L2.CX P w) (5 * k + 8) a.f_read_part a.d_read_part ["tokens", "at", "names", "funs"] (spR K a.c_BadText a.c_BadName fun ts ns fs => rPart (rDeep ts ns fs k) ts ns fs) := by
  have ok_read_named := fun T : Txt K mg a => ok_read_named (P := P) (w := w) (base := base) T k ok_read_deep
  have ok_read_pick := fun T : Txt K mg a => ok_read_pick (P := P) (w := w) (base := base) T k ok_read_deep
  have ok_read_table := fun T : Txt K mg a => ok_read_table (P := P) (w := w) (base := base) T k ok_read_deep
  refine T.F_read_part.okX sc_read_part (fun vs H Q E h => ?_) (fun cdv A outer s H vs Q E hr h => ?_)
  · obtain ⟨_, _, _, _, _, _, _, rfl, _⟩ := h
    rfl
  · obtain ⟨p, i, nv, f, ts, ns, fs, rfl, rd, z⟩ := h
    refine ⟨_, (pss_cons (ps_asg (pe_ix ix_tup (pv 0) (pv 1) (fun _ _ => rfl)) (pg_tup rfl (pgs_cons (pg_name (i := 4) sc_read_part.nd rfl (by first | exact Or.inl rfl | exact Or.inr rfl)) (pgs_cons (pg_name (i := 5) sc_read_part.nd rfl (by first | exact Or.inl rfl | exact Or.inr rfl)) (pgs_cons (pg_name (i := 6) sc_read_part.nd rfl (by first | exact Or.inl rfl | exact Or.inr rfl)) pgs_nil)))))
  (pss_cons (ps_if (pt_cmpR op_eq (pv 4) pe_str (nomark _)) (pss_one (ps_ret (pe_tup (pa_cons (pe_tup (pa_cons pe_str (pa_cons (pv 5) pa_nil))) (pa_cons pe_int (pa_cons (pe_op op_add (pv 1) pe_int) pa_nil))))))
    pss_nil)
  (pss_cons (ps_if (pt_cmpR op_eq (pv 4) pe_str (nomark _)) (pss_one (ps_ret (pe_call (ok_read_named T) (hr.mono (by omega)) rfl T.m_read_named T.F_read_named.kp T.b_read_named .nil (passes_call (takes_of rfl rfl rfl rfl) (fun _ _ _ _ q => q)) (pa_cons (pv 0) (pa_cons (pv 1) (pa_cons (pv 2) (pa_cons (pv 3) pa_nil)))))))
    pss_nil)
  (pss_cons (ps_if (pt_val (pe_call (ok_is_sign T) (hr.mono (by omega)) rfl T.m_is_sign T.F_is_sign.kp T.b_is_sign .nil pass0 (pa_cons (pe_ix ix_tup (pv 0) (pv 1) (fun _ _ => rfl)) (pa_cons pe_str pa_nil)))) (pss_one (ps_ret (pe_call (ok_read_pick T) (hr.mono (by omega)) rfl T.m_read_pick T.F_read_pick.kp T.b_read_pick .nil (passes_call (takes_of rfl rfl rfl rfl) (fun _ _ _ _ q => q)) (pa_cons (pv 0) (pa_cons (pv 1) (pa_cons (pv 2) (pa_cons (pv 3) pa_nil)))))))
    pss_nil)
  (pss_cons (ps_if (pt_val (pe_call (ok_is_sign T) (hr.mono (by omega)) rfl T.m_is_sign T.F_is_sign.kp T.b_is_sign .nil pass0 (pa_cons (pe_ix ix_tup (pv 0) (pv 1) (fun _ _ => rfl)) (pa_cons pe_str pa_nil)))) (pss_one (ps_ret (pe_call (ok_read_table T) (hr.mono (by omega)) rfl T.m_read_table T.F_read_table.kp T.b_read_table .nil (passes_call (takes_of rfl rfl rfl rfl) (fun _ _ _ _ q => q)) (pa_cons (pv 0) (pa_cons (pv 1) (pa_cons (pv 2) (pa_cons (pv 3) pa_nil)))))))
    pss_nil)
  (pss_cons (ps_set (i := 1) sc_read_part.nd rfl (by first | exact Or.inl rfl | exact Or.inr rfl) (pe_call (ok_take_sign T) (hr.mono (by omega)) rfl T.m_take_sign T.F_take_sign.kp T.b_take_sign .nil (passes_call (takes_of rfl rfl rfl rfl) (fun _ _ _ _ q => q)) (pa_cons (pv 0) (pa_cons (pv 1) (pa_cons pe_str pa_nil)))))
  (pss_cons (ps_asg (pe_call (ok_read_deep T) (hr.mono (by omega)) rfl T.m_read_deep T.F_read_deep.kp T.b_read_deep .nil (passes_call (takes_of rfl rfl rfl rfl) (fun _ _ _ _ q => q)) (pa_cons (pv 0) (pa_cons (pv 1) (pa_cons (pv 2) (pa_cons (pv 3) (pa_cons pe_int pa_nil)))))) (pg_tup rfl (pgs_cons (pg_name (i := 7) sc_read_part.nd rfl (by first | exact Or.inl rfl | exact Or.inr rfl)) (pgs_cons (pg_name (i := 8) sc_read_part.nd rfl (by first | exact Or.inl rfl | exact Or.inr rfl)) (pgs_cons (pg_name (i := 1) sc_read_part.nd rfl (by first | exact Or.inl rfl | exact Or.inr rfl)) pgs_nil)))))
  (pss_one (ps_ret (pe_tup (pa_cons (pv 7) (pa_cons (pv 8) (pa_cons (pe_call (ok_take_sign T) (hr.mono (by omega)) rfl T.m_take_sign T.F_take_sign.kp T.b_take_sign .nil (passes_call (takes_of rfl rfl rfl rfl) (fun _ _ _ _ q => q)) (pa_cons (pv 0) (pa_cons (pv 1) (pa_cons pe_str pa_nil)))) pa_nil))))))))))))), ?_⟩
    obtain ⟨t, e, z⟩ := at_tok (f := fun t => match t.1 with
      | some (.num n) => rok (.tuple [.str "number", .int n], 1, i + 1)
      | some (.name w) => rNamed (rDeep ts ns fs k) ts ns fs w t.2 i
      | _ => if isS t wPick = true then rPick (rDeep ts ns fs k) ts t.2 i else if isS t wTable = true then rTable (rDeep ts ns fs k) ts t.2 i else
        bnd (rSign ts i [40]) fun a => bnd (rDeep ts ns fs k a 0) fun x => bnd (rSign ts x.2.2 [41]) fun e => rok (x.1, x.2.1, e)) z
    walk_at "sm"
    refine tkA_ix rd.tk e fun b hb => ?_
    rw [tkV_eq] at hb
    refine ⟨b, rfl, _, .inl (.inl hb), rfl, ?_⟩
    walk_at "sm"
    refine ite2 (fun h1 => ?_) (fun h1 => ite2 (fun h2 => ?_) (fun h2 => ?_))
    · obtain ⟨n, hn⟩ := kind_num h1
      have hv : tkVal t = .int n := by unfold tkVal; rw [hn]; rfl
      rw [hn] at z
      rw [hv]
      have z : Out a.c_BadText a.c_BadName H E (rok (.tuple [.str "number", .int n], 1, i + 1)) (K3 H Q) := z
      exact ⟨sz (by decide), fun q hq => ⟨sz (by decide), fun o ho => z.ok o (.ref q) _ ((Evl.Ex.new hq).trans (Evl.Ex.new ho)) upd_same (At.ex (Evl.Ex.new ho) (.tup upd_same (.cons (.str _) (.cons (.int _) .nil))))⟩⟩
    · obtain ⟨wd, hn⟩ := kind_nm h2
      rw [hn] at z
      have z : Out a.c_BadText a.c_BadName H E (rNamed (rDeep ts ns fs k) ts ns fs wd t.2 i) (K3 H Q) := z
      refine ⟨p, i, nv, f, ts, ns, fs, rfl, rd, ?_⟩
      have ec : rNamedA (rDeep ts ns fs k) ts ns fs i = rNamed (rDeep ts ns fs k) ts ns fs wd t.2 i := by
        unfold rNamedA
        obtain ⟨o, sp⟩ := t
        have hn : o = some (.name wd) := hn
        rw [e, hn]
      show Out _ _ H E (rNamedA (rDeep ts ns fs k) ts ns fs i) _
      rw [ec]
      exact z
    · have z : Out a.c_BadText a.c_BadName H E (if isS t wPick = true then rPick (rDeep ts ns fs k) ts t.2 i else if isS t wTable = true then rTable (rDeep ts ns fs k) ts t.2 i else
        bnd (rSign ts i [40]) fun a => bnd (rDeep ts ns fs k a 0) fun x => bnd (rSign ts x.2.2 [41]) fun e => rok (x.1, x.2.1, e)) (K3 H Q) := by
        obtain ⟨o, sp⟩ := t
        cases o with
        | none => exact z
        | some kd => cases kd with
          | word s => exact z
          | sign s => exact z
          | num n => exact absurd rfl h1
          | name n => exact absurd rfl h2
      have hb2 : H b = some (.tup (tkV t)) := by rw [tkV_eq]; exact hb
      refine tkA_ix rd.tk e fun c hc => ⟨c, t, wPick, rfl, hc, fun H1 e1 => ⟨_, rfl, ?_⟩⟩
      cases hs : isS t wPick with
      | true =>
        rw [hs, if_pos rfl] at z
        refine iteT ⟨p, i, nv, f, ts, ns, fs, rfl, rd.go e1, ?_⟩
        show Out _ _ H1 E (atT ts i fun t => rPick (rDeep ts ns fs k) ts t.2 i) _
        unfold atT
        rw [e]
        exact (z.go e1).imp fun r h => h.go e1
      | false =>
        rw [hs, if_neg (by decide)] at z
        refine iteF (tkA_ix (rd.go e1).tk e fun c hc => ⟨c, t, wTable, rfl, hc, fun H2 e2 => ⟨_, rfl, ?_⟩⟩)
        have g2 := e1.trans e2
        cases hs : isS t wTable with
        | true =>
          rw [hs, if_pos rfl] at z
          refine iteT ⟨p, i, nv, f, ts, ns, fs, rfl, rd.go g2, ?_⟩
          show Out _ _ H2 E (atT ts i fun t => rTable (rDeep ts ns fs k) ts t.2 i) _
          unfold atT
          rw [e]
          exact (z.go g2).imp fun r h => h.go g2
        | false =>
          rw [hs, if_neg (by decide)] at z
          refine iteF ⟨p, ts, i, [40], rfl, (rd.go g2).tk, (z.bnd.go g2).imp fun j z H3 e3 => ?_⟩
          have g3 := g2.trans e3
          refine ⟨p, j, nv, f, 0, ts, ns, fs, rfl, rd.go g3, (z.bnd.go g3).imp fun x z qx vx H4 ex hqx hx => ⟨qx, rfl, _, .inl (.inl hqx), rfl, ?_⟩⟩
          have g4 := g3.trans ex
          walk_at "sm"
          refine ⟨p, ts, x.2.2, [41], rfl, (rd.go g4).tk, (z.bnd.go g4).imp fun j2 z H5 e5 => ⟨sz (by decide), fun o ho => ?_⟩⟩
          exact z.ok o vx _ ((g4.trans e5).trans (Evl.Ex.new ho)) upd_same ((hx.ex e5).ex (Evl.Ex.new ho))
end

theorem kind_sg {t : Tok} (h : tkKind t = ("sign" : Str)) : ∃ n, t.1 = some (.sign n) := by
  obtain ⟨o, i⟩ := t
  cases o with
  | none => exact absurd h (by show ¬ ("end" : Str) = "sign"; decide +kernel)
  | some k => cases k with
    | word w => exact absurd h (by show ¬ ("word" : Str) = "sign"; decide +kernel)
    | num w => exact absurd h (by show ¬ ("number" : Str) = "sign"; decide +kernel)
    | sign n => exact ⟨n, rfl⟩
    | name w => exact absurd h (by show ¬ ("name" : Str) = "sign"; decide +kernel)
theorem op_no {t : Tok} (h : tkKind t ≠ ("sign" : Str)) : opOf t = none := by
  obtain ⟨o, i⟩ := t
  cases o with
  | none => rfl
  | some k => cases k with
    | word w => rfl
    | num w => rfl
    | sign n => exact absurd rfl h
    | name w => rfl
theorem op_sg {t : Tok} {s : Cs} (h : t.1 = some (.sign s)) : opOf t = (strg s).map fun g => (s, g) := by
  unfold opOf
  rw [h]
theorem sh_str (w : Cs) : inV (.str (S w)) [.str "<<", .str ">>"] = isSh w := by
  have e := inV_str w ["<<", ">>"]
  have e2 : inV (.str (S w)) [.str "<<", .str ">>"] = ([[60, 60], [62, 62]] : List Cs).contains w := e
  rw [e2]
  apply Bool.eq_iff_iff.mpr
  unfold isSh
  simp
def ivDeep (C1 C2 : Addr) (H : Hp) (Q : VK) (E : XK) (sub : Sub) (p : Addr) (nv : V) (f : Addr) (least : Nat) (ts : List Tok) : Nat → L2.St → Hp → Prop := fun n σ H' => ∃ (i dep : Nat) (vx : V) (one : PyData) (v7 v8 v9 v10 v11 v12 : Option V),
  σ = [some (.ref p), some (.int i), some nv, some (.ref f), some (.int least), some vx, some (.int dep), v7, v8, v9, v10, v11, v12] ∧ At H' vx one ∧ Evl.Ex H H' ∧ Out C1 C2 H E (rLoop sub ts least n one dep i) (K3 H Q)
section
variable {P : Program} {w : World} {K : PySem.W.Frag} {mg : Str → Option Value} {base : Heap} {a : Ad}
theorem deep_step (T : Txt K mg a) (D : Txd w K a) (k : Nat) (ok_read_deep : Txt K mg a → FnOk P w K mg base (L2.CX P w) (5 * k + 4) a.f_read_deep a.d_read_deep ["tokens", "at", "names", "funs", "least"] (spDeep K a.c_BadText a.c_BadName k)) :
    FnOk P w K mg base (L2.CX P w) (5 * (k + 1) + 4) a.f_read_deep a.d_read_deep ["tokens", "at", "names", "funs", "least"] (spDeep K a.c_BadText a.c_BadName (k + 1)) := by
  have ok_read_part := fun T : Txt K mg a => ok_read_part (P := P) (w := w) (base := base) T k ok_read_deep
  refine T.F_read_deep.okX sc_read_deep (fun vs H Q E h => ?_) (fun cdv A outer s H vs Q E hr h => ?_)
  · obtain ⟨_, _, _, _, _, _, _, _, rfl, _⟩ := h
    rfl
  · obtain ⟨p, i, nv, f, least, ts, ns, fs, rfl, rd, z⟩ := h
    refine ⟨_, (pss_cons (ps_asg (pe_call (ok_read_part T) (hr.mono (by omega)) rfl T.m_read_part T.F_read_part.kp T.b_read_part .nil (passes_call (takes_of rfl rfl rfl rfl) (fun _ _ _ _ q => q)) (pa_cons (pv 0) (pa_cons (pv 1) (pa_cons (pv 2) (pa_cons (pv 3) pa_nil))))) (pg_tup rfl (pgs_cons (pg_name (i := 5) sc_read_deep.nd rfl (by first | exact Or.inl rfl | exact Or.inr rfl)) (pgs_cons (pg_name (i := 6) sc_read_deep.nd rfl (by first | exact Or.inl rfl | exact Or.inr rfl)) (pgs_cons (pg_name (i := 1) sc_read_deep.nd rfl (by first | exact Or.inl rfl | exact Or.inr rfl)) pgs_nil)))))
  (pss_cons (ps_while (passes_of rfl) (PW.pt (pw_and (pt_cmpR op_eq (pe_ix ix_tup (pe_ix ix_tup (pv 0) (pv 1) (fun _ _ => rfl)) pe_int (fun _ _ => rfl)) pe_str (nomark _)) (pw_and1 (pt_cmpR op_ge (pe_kget2 (pe_glob rfl T.g_STRENGTHS.choose_spec.1 T.g_STRENGTHS.choose_spec.2) (pe_ix ix_tup (pe_ix ix_tup (pv 0) (pv 1) (fun _ _ => rfl)) pe_int (fun _ _ => rfl)) (pe_un un_neg pe_int) ⟨rfl, rfl, rfl, rfl⟩) (pv 4) (nomark _))))) (pss_cons (ps_asg (pe_ix ix_tup (pv 0) (pv 1) (fun _ _ => rfl)) (pg_tup rfl (pgs_cons (pg_name (i := 7) sc_read_deep.nd rfl (by first | exact Or.inl rfl | exact Or.inr rfl)) (pgs_cons (pg_name (i := 8) sc_read_deep.nd rfl (by first | exact Or.inl rfl | exact Or.inr rfl)) (pgs_cons (pg_name (i := 9) sc_read_deep.nd rfl (by first | exact Or.inl rfl | exact Or.inr rfl)) pgs_nil)))))
  (pss_cons (ps_if (pt_cmpR op_in_seq (pv 8) (pe_glob rfl T.g_SHIFT_SIGNS.choose_spec.1 T.g_SHIFT_SIGNS.choose_spec.2) (by rfl)) (pss_cons (ps_asg (pe_call (ok_take_number T) (hr.mono (by omega)) rfl T.m_take_number T.F_take_number.kp T.b_take_number .nil (passes_call (takes_of rfl rfl rfl rfl) (fun _ _ _ _ q => q)) (pa_cons (pv 0) (pa_cons (pe_op op_add (pv 1) pe_int) pa_nil))) (pg_tup rfl (pgs_cons (pg_name (i := 10) sc_read_deep.nd rfl (by first | exact Or.inl rfl | exact Or.inr rfl)) (pgs_cons (pg_name (i := 1) sc_read_deep.nd rfl (by first | exact Or.inl rfl | exact Or.inr rfl)) pgs_nil))))
  (pss_one (ps_set (i := 5) sc_read_deep.nd rfl (by first | exact Or.inl rfl | exact Or.inr rfl) (pe_tup (pa_cons pe_str (pa_cons (pe_tup (pa_cons (pv 8) (pa_cons (pv 10) pa_nil))) (pa_cons (pe_tup (pa_cons (pv 5) pa_nil)) pa_nil)))))))
    (pss_cons (ps_asg (pe_call (ok_read_deep T) (hr.mono (by omega)) rfl T.m_read_deep T.F_read_deep.kp T.b_read_deep .nil (passes_call (takes_of rfl rfl rfl rfl) (fun _ _ _ _ q => q)) (pa_cons (pv 0) (pa_cons (pe_op op_add (pv 1) pe_int) (pa_cons (pv 2) (pa_cons (pv 3) (pa_cons (pe_op op_add (pe_ix ix_kdict (pe_glob rfl T.g_STRENGTHS.choose_spec.1 T.g_STRENGTHS.choose_spec.2) (pv 8) (fun _ _ => rfl)) pe_int) pa_nil)))))) (pg_tup rfl (pgs_cons (pg_name (i := 11) sc_read_deep.nd rfl (by first | exact Or.inl rfl | exact Or.inr rfl)) (pgs_cons (pg_name (i := 12) sc_read_deep.nd rfl (by first | exact Or.inl rfl | exact Or.inr rfl)) (pgs_cons (pg_name (i := 1) sc_read_deep.nd rfl (by first | exact Or.inl rfl | exact Or.inr rfl)) pgs_nil)))))
  (pss_cons (ps_set (i := 5) sc_read_deep.nd rfl (by first | exact Or.inl rfl | exact Or.inr rfl) (pe_tup (pa_cons pe_str (pa_cons (pe_tup (pa_cons (pv 8) pa_nil)) (pa_cons (pe_tup (pa_cons (pv 5) (pa_cons (pv 11) pa_nil))) pa_nil)))))
  (pss_one (ps_set (i := 6) sc_read_deep.nd rfl (by first | exact Or.inl rfl | exact Or.inr rfl) (pe_callB (call_max2 rfl) (by rfl) T.z_max (by decide +kernel) (pa_cons (pv 6) (pa_cons (pv 12) pa_nil))))))))
  (pss_one (ps_set (i := 6) sc_read_deep.nd rfl (by first | exact Or.inl rfl | exact Or.inr rfl) (pe_call (ok_check_depth T) (hr.mono (by omega)) rfl T.m_check_depth T.F_check_depth.kp T.b_check_depth .nil (passes_call (takes_of rfl rfl rfl rfl) (fun _ _ _ _ q => q)) (pa_cons (pe_op op_add (pv 6) pe_int) (pa_cons (pv 9) pa_nil))))))))
  (pss_one (ps_ret (pe_tup (pa_cons (pv 5) (pa_cons (pv 6) (pa_cons (pv 1) pa_nil)))))))), ?_⟩
    have z : Out a.c_BadText a.c_BadName H E (bnd (rPart (rDeep ts ns fs k) ts ns fs i) fun r => rLoop (rDeep ts ns fs k) ts least ts.length r.1 r.2.1 r.2.2) (K3 H Q) := z
    walk_at "sm"
    refine ⟨p, i, nv, f, ts, ns, fs, rfl, rd, z.bnd.imp fun r z q x H1 e1 hq hx => ⟨q, rfl, _, .inl (.inl hq), rfl, ?_⟩⟩
    walk_at "sm"
    refine ⟨ivDeep a.c_BadText a.c_BadName H Q E (rDeep ts ns fs k) p nv f least ts, ⟨ts.length, r.2.2, r.2.1, x, r.1, _, _, _, _, _, _, rfl, hx, e1, z⟩, ?_⟩
    rintro n σ H2 ⟨i, dep, vx, one, v7, v8, v9, v10, v11, v12, rfl, hx, e2, z⟩
    cases n with
    | zero => exact z.no.elim
    | succ n =>
      obtain ⟨t, e, z⟩ := at_tok z
      walk_at "sm"
      refine tkA_ix (rd.go e2).tk e fun b hb => ?_
      rw [tkV_eq] at hb
      refine ix0 hb ?_
      have ret : Out a.c_BadText a.c_BadName H E (rok (one, dep, i)) (K3 H Q) → 0 + 1 + 1 + 1 ≤ sizeLine ∧ ∀ o, H2 o = none → Q (.ref o) (upd H2 o (.tup [vx, .int dep, .int i])) := fun z => ⟨sz (by decide), fun o ho => z.ok o vx _ (e2.trans (Evl.Ex.new ho)) upd_same (hx.ex (Evl.Ex.new ho))⟩
      refine ⟨rfl, ite2 (fun hs => ?_) (fun hs => ?_)⟩
      · obtain ⟨s, es⟩ := kind_sg (V.str.inj hs)
        have hsg : s ∈ sgs := rd.sg t (List.mem_of_getElem? e) s es
        obtain ⟨des, dn, hl, hk⟩ := D.at_
        obtain ⟨dr, hdr, hdm⟩ := D.has s hsg
        have hv : tkVal t = .str (S s) := by unfold tkVal; rw [es]; rfl
        have ho := op_sg es
        simp only [tKGet2]
        walk_at "sm"
        refine ⟨des, ⟨dn, hl⟩, hk, D.low, tkA_ix (rd.go e2).tk e fun b hb => ?_⟩
        rw [tkV_eq, hv] at hb
        refine ix1 hb ⟨_, rfl, dr, hdr, fun hn => ?_, fun u hu => ?_⟩
        · cases hg : strg s with
          | none =>
            rw [ho, hg] at z
            exact iteN (by omega) (ret z)
          | some g =>
            rw [hg] at hdm
            obtain ⟨u, hu, _⟩ := hdm
            rw [hn] at hu
            cases hu
        · cases hg : strg s with
          | none =>
            rw [hg] at hdm
            have hdm : dr = none := hdm
            rw [hdm] at hu
            cases hu
          | some g =>
            rw [hg] at hdm
            obtain ⟨u', hu', hrel⟩ := hdm
            rw [hu] at hu'
            cases hu'
            rw [ho, hg] at z
            have z : Out a.c_BadText a.c_BadName H E (if g < least then rok (one, dep, i) else if isSh s = true then
                bnd (rNum ts (i + 1)) fun r => bnd (rChk (dep + 1) t.2) fun d => rLoop (rDeep ts ns fs k) ts least n (dOp [.str (S s), .int r.1] [one]) d r.2
              else bnd (rDeep ts ns fs k (i + 1) (g + 1)) fun r => bnd (rChk (max dep r.2.1 + 1) t.2) fun d => rLoop (rDeep ts ns fs k) ts least n (dOp [.str (S s)] [one, r.1]) d r.2.2) (K3 H Q) := z
            refine ⟨.int (g : Nat), hrel, _, rfl, ite2 (fun hle => ?_) (fun hle => ?_)⟩
            · rw [if_neg (by omega)] at z
              refine ⟨below (ivDeep a.c_BadText a.c_BadName H Q E (rDeep ts ns fs k) p nv f least ts) (n + 1), fun _ _ h => h, tkA_ix (rd.go e2).tk e fun b hb => ?_⟩
              rw [tkV_eq, hv] at hb
              refine ⟨b, rfl, _, .inl (.inl hb), rfl, _, _, rfl, _, _, rfl, _, _, rfl, rfl, in_tup (T.t_SHIFT_SIGNS H2) rfl (by decide +kernel) ⟨_, rfl, ?_⟩⟩
              rw [sh_str]
              cases hsh : isSh s with
              | true =>
                rw [hsh, if_pos rfl] at z
                refine iteT ⟨p, ts, i + 1, rfl, (rd.go e2).tk, (z.bnd.go e2).imp fun r z q H3 e3 hq => ⟨q, rfl, _, .inl (.inl hq), rfl, ?_⟩⟩
                walk_at "sm"
                refine ⟨sz (by decide), fun p1 n1 => ⟨sz (by decide), fun p2 n2 => ⟨sz (by decide), fun p3 n3 => ?_⟩⟩⟩
                obtain ⟨m1, m2⟩ := op_mk (ks := [.str (S s), .int (r.1 : Nat)]) (.cons (.str _) (.cons (.int _) .nil)) (.cons (hx.ex e3) .nil) n1 n2 n3
                have g3 := (e2.trans e3).trans m2
                exact ⟨dep + 1, t.2, rfl, (z.bnd.go g3).imp fun d z => ⟨n, by omega, r.2, d, .ref p3, _, _, _, _, _, _, _, rfl, m1, g3, z⟩⟩
              | false =>
                rw [hsh, if_neg (by decide)] at z
                refine iteF ⟨_, _, _, rfl, rfl, ⟨des, dn, u, hl, hk, hu ▸ hdr, hrel⟩, _, rfl, ?_⟩
                refine ⟨p, i + 1, nv, f, g + 1, ts, ns, fs, rfl, rd.go e2, (z.bnd.go e2).imp fun r z q vy H3 e3 hq hy => ⟨q, rfl, _, .inl (.inl hq), rfl, _, _, rfl, _, _, rfl, _, _, rfl, rfl, ?_⟩⟩
                refine ⟨sz (by decide), fun p1 n1 => ⟨sz (by decide), fun p2 n2 => ⟨sz (by decide), fun p3 n3 => ⟨_, rfl, ?_⟩⟩⟩⟩
                obtain ⟨m1, m2⟩ := op_mk (ks := [.str (S s)]) (.cons (.str _) .nil) (.cons (hx.ex e3) (.cons hy .nil)) n1 n2 n3
                have g3 := (e2.trans e3).trans m2
                rw [max_cast]
                exact ⟨max dep r.2.1 + 1, t.2, rfl, (z.bnd.go g3).imp fun d z => ⟨n, by omega, r.2.2, d, .ref p3, _, _, _, _, _, _, _, rfl, m1, g3, z⟩⟩
            · rw [if_pos (by omega)] at z
              exact ret z
      · rw [op_no (fun q => hs (by rw [q]))] at z
        exact ret z
theorem ok_read_deep (T : Txt K mg a) (D : Txd w K a) : ∀ k, FnOk P w K mg base (L2.CX P w) (5 * k + 4) a.f_read_deep a.d_read_deep ["tokens", "at", "names", "funs", "least"] (spDeep K a.c_BadText a.c_BadName k)
  | 0 => by
    refine T.F_read_deep.okX sc_read_deep (fun vs H Q E h => ?_) (fun cdv A outer s H vs Q E hr h => ?_)
    · obtain ⟨_, _, _, _, _, _, _, _, rfl, _⟩ := h
      rfl
    · obtain ⟨p, i, nv, f, least, ts, ns, fs, rfl, rd, z⟩ := h
      exact (Out.no (α := Ex3) z).elim
  | k + 1 => deep_step T D k fun T => ok_read_deep T D k
def spExpr (K : PySem.W.Frag) (C1 C2 : Addr) (k : Nat) : Sp := fun vs H Q E => ∃ (p : Addr) (i : Nat) (nv : V) (f : Addr) (ts : List Tok) (ns : Option (List Cs)) (fs : List Fun3), vs = [.ref p, .int i, nv, .ref f] ∧ RdA K H p nv f ts ns fs ∧
  Out C1 C2 H E (rDeep ts ns fs k i 0) fun r => ∀ q x H', Evl.Ex H H' → H' q = some (.tup [x, .int (r.2.2 : Nat)]) → At H' x r.1 → Q (.ref q) H'
theorem ok_read_expression (T : Txt K mg a) (D : Txd w K a) (k : Nat) : FnOk P w K mg base (L2.CX P w) (5 * k + 5) a.f_read_expression a.d_read_expression ["tokens", "at", "names", "funs"] (spExpr K a.c_BadText a.c_BadName k) := by
  have ok_read_deep := fun T : Txt K mg a => ok_read_deep (P := P) (base := base) T D k
  refine T.F_read_expression.okX sc_read_expression (fun vs H Q E h => ?_) (fun cdv A outer s H vs Q E hr h => ?_)
  · obtain ⟨_, _, _, _, _, _, _, rfl, _⟩ := h
    rfl
  · obtain ⟨p, i, nv, f, ts, ns, fs, rfl, rd, z⟩ := h
    refine ⟨_, (pss_cons (ps_asg (pe_call (ok_read_deep T) (hr.mono (by omega)) rfl T.m_read_deep T.F_read_deep.kp T.b_read_deep .nil (passes_call (takes_of rfl rfl rfl rfl) (fun _ _ _ _ q => q)) (pa_cons (pv 0) (pa_cons (pv 1) (pa_cons (pv 2) (pa_cons (pv 3) (pa_cons pe_int pa_nil)))))) (pg_tup rfl (pgs_cons (pg_name (i := 4) sc_read_expression.nd rfl (by first | exact Or.inl rfl | exact Or.inr rfl)) (pgs_cons (pg_name (i := 5) sc_read_expression.nd rfl (by first | exact Or.inl rfl | exact Or.inr rfl)) (pgs_cons (pg_name (i := 1) sc_read_expression.nd rfl (by first | exact Or.inl rfl | exact Or.inr rfl)) pgs_nil)))))
  (pss_one (ps_ret (pe_tup (pa_cons (pv 4) (pa_cons (pv 1) pa_nil)))))), ?_⟩
    walk_at "sm"
    refine ⟨p, i, nv, f, 0, ts, ns, fs, rfl, rd, z.imp fun r z q x H1 e1 hq hx => ⟨q, rfl, _, .inl (.inl hq), rfl, ?_⟩⟩
    walk_at "sm"
    exact ⟨sz (by decide), fun o ho => z o x _ (e1.trans (Evl.Ex.new ho)) upd_same (hx.ex (Evl.Ex.new ho))⟩
end

def PlainV (H : Hp) (x : V) : Prop := x = .non ∨ (∃ b, x = .bl b) ∨ (∃ i, x = .int i) ∨ (∃ s, x = .str s) ∨ (∃ p xs, x = .ref p ∧ H p = some (.tup xs)) ∨ ∃ p xs, x = .ref p ∧ H p = some (.lst xs)
theorem PlainV.go {H H' : Hp} {x : V} (e : Evl.Ex H H') (h : PlainV H x) : PlainV H' x := by
  rcases h with h | h | h | h | ⟨p, xs, h, q⟩ | ⟨p, xs, h, q⟩
  · exact .inl h
  · exact .inr (.inl h)
  · exact .inr (.inr (.inl h))
  · exact .inr (.inr (.inr (.inl h)))
  · exact .inr (.inr (.inr (.inr (.inl ⟨p, xs, h, e _ _ q⟩))))
  · exact .inr (.inr (.inr (.inr (.inr ⟨p, xs, h, e _ _ q⟩))))
theorem plain_int {H : Hp} {i : Int} : PlainV H (.int i) := .inr (.inr (.inl ⟨i, rfl⟩))
def whB : V → Bool
  | .int _ => true
  | _ => false
theorem is_int {K : PySem.W.Frag} {H : Hp} {x : V} {Q : VK} (h : PlainV H x) (q : ∀ b c, rIsi K [x, .ty "bool"] H (fun y H' => y = .bl c ∧ H' = H) → (b && !c) = whB x → Q (.bl b) H) : rIsi K [x, .ty "int"] H Q := by
  rcases h with rfl | ⟨b, rfl⟩ | ⟨i, rfl⟩ | ⟨s, rfl⟩ | ⟨p, xs, rfl, e⟩ | ⟨p, xs, rfl, e⟩
  · exact isi_ty (t := "NoneType") (b := false) (.base .non) (by decide +kernel) (q _ false (isi_ty (t := "NoneType") (b := false) (.base .non) (by decide +kernel) ⟨rfl, rfl⟩) rfl)
  · exact isi_ty (t := "bool") (b := true) (.base (.bl _)) (by decide +kernel) (q _ true (isi_ty (t := "bool") (b := true) (.base (.bl _)) (by decide +kernel) ⟨rfl, rfl⟩) rfl)
  · exact isi_ty (t := "int") (b := true) (.base (.int _)) (by decide +kernel) (q _ false (isi_ty (t := "int") (b := false) (.base (.int _)) (by decide +kernel) ⟨rfl, rfl⟩) rfl)
  · exact isi_ty (t := "str") (b := false) (.base (.str _)) (by decide +kernel) (q _ false (isi_ty (t := "str") (b := false) (.base (.str _)) (by decide +kernel) ⟨rfl, rfl⟩) rfl)
  · exact isi_ty (t := "tuple") (b := false) (.base (.tup e)) (by decide +kernel) (q _ false (isi_ty (t := "tuple") (b := false) (.base (.tup e)) (by decide +kernel) ⟨rfl, rfl⟩) rfl)
  · exact isi_ty (t := "list") (b := false) (.base (.lst e)) (by decide +kernel) (q _ false (isi_ty (t := "list") (b := false) (.base (.lst e)) (by decide +kernel) ⟨rfl, rfl⟩) rfl)
theorem isi_mono {K : PySem.W.Frag} {H : Hp} {vs : List V} {c : Bool} {Q : VK} (h : rIsi K vs H fun y H' => y = .bl c ∧ H' = H) (q : Q (.bl c) H) : rIsi K vs H Q := by
  obtain ⟨x, y, t, u, b, e1, e2, e3, e4, e5, _⟩ := h
  cases e5
  exact ⟨x, y, t, u, _, e1, e2, e3, e4, q⟩
inductive Pk | add | sub | mul | band | bor | bxor | eq | lt
deriving DecidableEq
def Pk.sg : Pk → Str
  | .add => "+" | .sub => "-" | .mul => "*" | .band => "&" | .bor => "|" | .bxor => "^" | .eq => "==" | .lt => "<"
inductive Kd | pr (k : Pk) | pick | same | sh (l : Bool) (n : Nat) | tab (ns : List Int)
def goodTab (ns : List Int) : Prop := (ns.length = 1 ∨ ns.length = 2 ∨ ns.length = 4 ∨ ns.length = 8 ∨ ns.length = 16) ∧ ∀ n ∈ ns, 0 ≤ n ∧ n ≤ 4095
def shS (l : Bool) : Str := if l = true then "<<" else ">>"
def KdAt (H : Hp) (p : Addr) : Kd → Prop
  | .pr k => H p = some (.tup [.str k.sg])
  | .pick => H p = some (.tup [.str "pick"])
  | .same => H p = some (.tup [.str "same"])
  | .sh l n => H p = some (.tup [.str (shS l), .int n]) ∧ n ≤ 4095
  | .tab ns => ∃ t, H p = some (.tup [.str "table", .ref t]) ∧ H t = some (.tup (ns.map V.int)) ∧ goodTab ns
theorem KdAt.go {H H' : Hp} {p : Addr} {k : Kd} (e : Evl.Ex H H') (h : KdAt H p k) : KdAt H' p k := by
  cases k with
  | pr k => exact e _ _ h
  | pick => exact e _ _ h
  | same => exact e _ _ h
  | sh l n => exact ⟨e _ _ h.1, h.2⟩
  | tab ns => obtain ⟨t, h1, h2, h3⟩ := h; exact ⟨t, e _ _ h1, e _ _ h2, h3⟩
def Kd.many : Kd → Nat
  | .pr _ => 2 | .pick => 3 | .same => 1 | .sh _ _ => 1 | .tab _ => 1
def Kd.sg : Kd → Str
  | .pr k => k.sg | .pick => "pick" | .same => "same" | .sh l _ => shS l | .tab _ => "table"
theorem KdAt.head {H : Hp} {p : Addr} {k : Kd} (h : KdAt H p k) : ∃ r, H p = some (.tup (.str k.sg :: r)) := by
  cases k with
  | pr k => exact ⟨_, h⟩
  | pick => exact ⟨_, h⟩
  | same => exact ⟨_, h⟩
  | sh l n => exact ⟨_, h.1⟩
  | tab ns => obtain ⟨t, h1, _⟩ := h; exact ⟨_, h1⟩
def prL : List V := [.str "+", .str "-", .str "*", .str "&", .str "|", .str "^", .str "==", .str "<"]
def Kd.isPr : Kd → Bool
  | .pr _ => true
  | _ => false
theorem sg_pick (k : Kd) : k.sg = ("pick" : Str) ↔ k = .pick := by
  cases k with
  | pr k => cases k <;> exact ⟨fun h => absurd h (by decide +kernel), fun h => by cases h⟩
  | pick => exact ⟨fun _ => rfl, fun _ => rfl⟩
  | same => exact ⟨fun h => absurd h (by decide +kernel), fun h => by cases h⟩
  | sh l n => cases l <;> exact ⟨fun h => absurd h (by show ¬ (shS _ = _); decide +kernel), fun h => by cases h⟩
  | tab ns => exact ⟨fun h => absurd h (by show ¬ (("table" : Str) = _); decide +kernel), fun h => by cases h⟩
theorem sg_pr (k : Kd) : inV (.str k.sg) prL = k.isPr := by
  cases k with
  | pr k => cases k <;> decide +kernel
  | pick => decide +kernel
  | same => decide +kernel
  | sh l n => cases l <;> (show inV (.str (shS _)) prL = false) <;> decide +kernel
  | tab ns => show inV (.str "table") prL = false; decide +kernel
theorem two_le {w : Nat} (h : w ≤ 12) : (0 : Int) < 2 ^ w ∧ (2 : Int) ^ w ≤ 4096 := by
  have p1 : 2 ^ w ≤ 4096 := Nat.pow_le_pow_right (show 0 < 2 by decide) (show w ≤ 12 by omega)
  have p2 : 0 < 2 ^ w := Nat.pow_pos (by decide)
  constructor
  · exact Int.pow_pos (by decide)
  · exact_mod_cast p1
theorem in_lst {K : PySem.W.Frag} {H : Hp} {p : Addr} {xs : List V} {x : V} {Q : VK} (h : H p = some (.lst xs)) (fx : flatV x = true) (fxs : xs.all flatV = true) (q : Q (.bl (inV x xs)) H) : rIn K false x (.ref p) H Q := ⟨p, xs, rfl, .inl (SqL.of h), fx, fxs, q⟩
theorem sg_one (k : Kd) : inV (.str k.sg) [.str "<<", .str ">>", .str "table", .str "same"] = (!k.isPr && decide (k.sg ≠ ("pick" : Str))) := by
  cases k with
  | pr k => cases k <;> decide +kernel
  | pick => decide +kernel
  | same => decide +kernel
  | sh l n => cases l <;> (show inV (.str (shS _)) _ = (!false && decide (shS _ ≠ _))) <;> decide +kernel
  | tab ns => show inV (.str "table") _ = (!false && decide (("table" : Str) ≠ _)); decide +kernel
/-! ### the law's drawn kinds -/
theorem pickI {K : PySem.W.Frag} {H : Hp} {l : Addr} {L : List Str} {r : Int} {Q : VK} (hl : H l = some (.lst (L.map V.str))) (h0 : 0 ≤ r) (h1 : r < (L.length : Int)) (k : ∀ z, L[r.toNat]? = some z → Q (.str z) H) : rIxL K (.ref l) (.int r) H Q := by
  obtain ⟨j, rfl⟩ : ∃ j : Nat, r = (j : Int) := ⟨r.toNat, by omega⟩
  have hj : j < L.length := by omega
  rw [Int.toNat_natCast] at k
  exact ixl (SqL.of hl) (atI_nat (by rw [List.getElem?_map, List.getElem?_eq_getElem hj]; rfl)) (k _ (List.getElem?_eq_getElem hj))
def pkL : List Str := ["+", "-", "*", "&", "|", "^", "==", "<"]
theorem pk_at {j : Nat} {z : Str} (h : pkL[j]? = some z) : ∃ k : Pk, z = k.sg := by
  have hm := List.mem_of_getElem? h
  have : ∀ s ∈ pkL, ∃ k : Pk, s = k.sg := by
    intro s hs
    unfold pkL at hs
    simp only [List.mem_cons, List.not_mem_nil, or_false] at hs
    rcases hs with h | h | h | h | h | h | h | h
    · exact ⟨.add, h⟩
    · exact ⟨.sub, h⟩
    · exact ⟨.mul, h⟩
    · exact ⟨.band, h⟩
    · exact ⟨.bor, h⟩
    · exact ⟨.bxor, h⟩
    · exact ⟨.eq, h⟩
    · exact ⟨.lt, h⟩
  exact this z hm
theorem sh_at {j : Nat} {z : Str} (h : (["<<", ">>"] : List Str)[j]? = some z) : ∃ l, z = shS l := by
  have hm := List.mem_of_getElem? h
  simp only [List.mem_cons, List.not_mem_nil, or_false] at hm
  rcases hm with h | h
  · exact ⟨true, h⟩
  · exact ⟨false, h⟩
def ivK (H5 : Hp) (p c : Addr) (D : Addr) (i : Nat) (H' : Hp) : Prop := ∃ ns : List Int, H' D = some (.lst (ns.map V.int)) ∧ ns.length = i ∧ (∀ y ∈ ns, 0 ≤ y ∧ y ≤ 4095) ∧ Fr p H5 H' ∧ HandAt H' p c
section
variable {P : Program} {w : World} {K : PySem.W.Frag} {mg : Str → Option Value} {base : Heap} {a : Ad}
def spWh : Sp := fun vs H Q _ => ∃ x, vs = [x] ∧ PlainV H x ∧ Q (.bl (whB x)) H
theorem ok_law_whole (T : Txt K mg a) : FnOk P w K mg base CX0 1 a.f_law_whole a.d_law_whole ["_law_thing"] spWh := by
  refine T.F_law_whole.ok sc_law_whole (fun vs H Q E h => ?_) (fun cdv A outer s H vs Q E hr h => ?_)
  · obtain ⟨_, rfl, _⟩ := h
    rfl
  · obtain ⟨x, rfl, hx, k⟩ := h
    refine ⟨_, (pss_one (ps_ret (pe_and (pe_callB call_isi (by rfl) T.z_isinstance (by decide +kernel) (pa_cons (pv 0) (pa_cons (pe_bltn (v := .ty "int") (by rfl) T.z_int (by decide +kernel) rfl) pa_nil))) (pe_one (pe_not (pe_callB call_isi (by rfl) T.z_isinstance (by decide +kernel) (pa_cons (pv 0) (pa_cons (pe_bltn (v := .ty "bool") (by rfl) T.z_bool (by decide +kernel) rfl) pa_nil)))))))), ?_⟩
    walk_at "sm"
    refine is_int hx fun b c hc e => ⟨_, rfl, ?_⟩
    cases b with
    | false => exact iteF (by rw [← e] at k; exact k)
    | true => exact iteT (isi_mono hc ⟨_, rfl, by rw [← e] at k; exact k⟩)
def spTwo : Sp := fun vs H Q _ => ∃ n : Nat, vs = [.int n] ∧ n ≤ 62 ∧ Q (.int (2 ^ n)) H
def ivTwo (n : Nat) (H : Hp) : Nat → L2.St → Hp → Prop := fun i σ H' => ∃ v, σ = [some (.int n), some (.int (2 ^ i)), v] ∧ H' = H
theorem ok_law_two (T : Txt K mg a) : FnOk P w K mg base CX0 1 a.f_law_two a.d_law_two ["_law_n"] spTwo := by
  refine T.F_law_two.ok sc_law_two (fun vs H Q E h => ?_) (fun cdv A outer s H vs Q E hr h => ?_)
  · obtain ⟨_, rfl, _⟩ := h
    rfl
  · obtain ⟨n, rfl, hn, k⟩ := h
    refine ⟨_, (pss_cons (ps_set (i := 1) sc_law_two.nd rfl (by first | exact Or.inl rfl | exact Or.inr rfl) pe_int)
  (pss_cons (ps_for PassesOwn.never rfl (pi_range1 (by rfl) T.z_range (pa_cons (pv 0) pa_nil)) (pg_name (i := 2) sc_law_two.nd rfl (by first | exact Or.inl rfl | exact Or.inr rfl)) (pss_one (ps_set (i := 1) sc_law_two.nd rfl (by first | exact Or.inl rfl | exact Or.inr rfl) (pe_op op_mul (pv 1) pe_int))))
  (pss_one (ps_ret (pv 1))))), ?_⟩
    walk_at "sm"
    refine ⟨_, rfl, (n : Int), rfl, by omega, by omega, ?_⟩
    refine for_range (lo := 0) (n := (n : Int).toNat) (ivTwo n H) ⟨none, rfl, rfl⟩ ?_ ?_
    · rintro i σ H' hi ⟨v, rfl, rfl⟩
      walk_at "sm"
      have p1 : (2 : Int) ^ i ≤ 2 ^ 62 := by
        have := Nat.pow_le_pow_right (show 0 < 2 by decide) (show i ≤ 62 by omega)
        exact_mod_cast this
      have p0 : (0 : Int) ≤ 2 ^ i := Int.le_of_lt (Int.pow_pos (by decide))
      refine ⟨.inl ⟨by omega, by omega⟩, some (.int (0 + (i : Int))), ?_, rfl⟩
      rw [Int.pow_succ]
    · rintro σ H' ⟨v, rfl, rfl⟩
      walk_at "sm"
      exact k
def spOps : Sp := fun vs H Q _ => ∃ (p : Addr) (k : Kd), vs = [.ref p] ∧ KdAt H p k ∧ ∀ H', Evl.Ex H H' → Q (.int k.many) H'
theorem ok_law_operands (T : Txt K mg a) : FnOk P w K mg base CX0 1 a.f_law_operands a.d_law_operands ["_law_kind_here"] spOps := by
  refine T.F_law_operands.ok sc_law_operands (fun vs H Q E h => ?_) (fun cdv A outer s H vs Q E hr h => ?_)
  · obtain ⟨_, _, rfl, _⟩ := h
    rfl
  · obtain ⟨p, kd, rfl, hk, k⟩ := h
    refine ⟨_, (pss_cons (ps_if (pt_cmpR op_eq (pe_ix ix_tup (pv 0) pe_int (fun _ _ => rfl)) pe_str (nomark _)) (pss_one (ps_ret pe_int))
    pss_nil)
  (pss_one (ps_ret (pe_ifExp (pt_cmpR op_in_seq (pe_ix ix_tup (pv 0) pe_int (fun _ _ => rfl)) (pe_lst (pa_cons pe_str (pa_cons pe_str (pa_cons pe_str (pa_cons pe_str pa_nil))))) (by rfl)) pe_int pe_int)))), ?_⟩
    obtain ⟨r, hp⟩ := hk.head
    walk_at "sm"
    refine ix0 hp ⟨rfl, ite2 (fun e => ?_) fun e => ix0 hp ⟨sz (by decide), fun l hl => in_lst upd_same rfl (by decide +kernel) ⟨_, rfl, ?_⟩⟩⟩
    · have e2 := (sg_pick kd).mp (by simpa using e)
      subst e2
      exact k _ (Evl.Ex.refl _)
    · have e' : kd.sg ≠ ("pick" : Str) := by simpa using e
      rw [sg_one, decide_eq_true e']
      have k2 := k _ (Evl.Ex.new (o := .lst [V.str "<<", V.str ">>", V.str "table", V.str "same"]) hl)
      cases kd with
      | pr kk => exact iteF k2
      | pick => exact absurd rfl e'
      | same => exact iteT k2
      | sh l n => exact iteT k2
      | tab ns => exact iteT k2
def spKind : Sp := fun vs H Q _ => ∃ p c : Addr, vs = [.ref p] ∧ HandAt H p c ∧ ∀ r kd H', Fr p H H' → HandAt H' p c → KdAt H' r kd → kd ≠ .same → Q (.ref r) H'
theorem ok_law_kind (T : Txt K mg a) : FnOk P w K mg base CX0 3 a.f_law_kind a.d_law_kind ["_law_hand_here"] spKind := by
  refine T.F_law_kind.ok sc_law_kind (fun vs H Q E h => ?_) (fun cdv A outer s H vs Q E hr h => ?_)
  · obtain ⟨_, _, rfl, _⟩ := h
    rfl
  · obtain ⟨p, c, rfl, hh, k⟩ := h
    refine ⟨_, (pss_cons (ps_set (i := 1) sc_law_kind.nd rfl (by first | exact Or.inl rfl | exact Or.inr rfl) (pe_call (ok_law_take T) (hr.mono (by decide)) rfl T.m_law_take T.F_law_take.kp T.b_law_take .nil pass0 (pa_cons (pv 0) (pa_cons pe_int pa_nil))))
  (pss_cons (ps_if (pt_cmpR op_lt (pv 1) pe_int (nomark _)) (pss_one (ps_ret (pe_tup (pa_cons (pe_ix ix_list (pe_lst (pa_cons pe_str (pa_cons pe_str (pa_cons pe_str (pa_cons pe_str (pa_cons pe_str (pa_cons pe_str (pa_cons pe_str (pa_cons pe_str pa_nil))))))))) (pv 1) (fun _ _ => rfl)) pa_nil))))
    pss_nil)
  (pss_cons (ps_if (pt_cmpR op_lt (pv 1) pe_int (nomark _)) (pss_one (ps_ret (pe_tup (pa_cons (pe_ix ix_list (pe_lst (pa_cons pe_str (pa_cons pe_str pa_nil))) (pe_op op_sub (pv 1) pe_int) (fun _ _ => rfl)) (pa_cons (pe_ifExp (pt_cmpR op_gt (pe_call (ok_law_take T) (hr.mono (by decide)) rfl T.m_law_take T.F_law_take.kp T.b_law_take .nil pass0 (pa_cons (pv 0) (pa_cons pe_int pa_nil))) pe_int (nomark _)) (pe_call (ok_law_take T) (hr.mono (by decide)) rfl T.m_law_take T.F_law_take.kp T.b_law_take .nil pass0 (pa_cons (pv 0) (pa_cons pe_int pa_nil))) (pe_call (ok_law_take T) (hr.mono (by decide)) rfl T.m_law_take T.F_law_take.kp T.b_law_take .nil pass0 (pa_cons (pv 0) (pa_cons pe_int pa_nil)))) pa_nil)))))
    pss_nil)
  (pss_cons (ps_if (pt_cmpR op_lt (pv 1) pe_int (nomark _)) (pss_one (ps_ret (pe_tup (pa_cons pe_str pa_nil))))
    pss_nil)
  (pss_one (ps_ret (pe_tup (pa_cons pe_str (pa_cons (pe_callTy call_tuple_of (by rfl) T.z_tuple (by decide +kernel) (pa_cons (pe_lc (own := [("_law_k", 2)]) (g := gName 2) (tt := tYes) rfl sc_law_kind.nd (pi_range1 (by rfl) T.z_range (pa_cons (pe_call (ok_law_two T) (hr.mono (by decide)) rfl T.m_law_two T.F_law_two.kp T.b_law_two .nil pass0 (pa_cons (pe_call (ok_law_take T) (hr.mono (by decide)) rfl T.m_law_take T.F_law_take.kp T.b_law_take .nil pass0 (pa_cons (pv 0) (pa_cons pe_int pa_nil))) pa_nil)) pa_nil)) (blkOk_by (own := [("_law_k", 2)]) (N := ["_law_hand_here", "_law_at", "_law_k"]) (sc := defScope s_law_kind) (by decide +kernel)) (fun _ _ _ _ _ => pg_name (i := 2) sc_law_kind.nd rfl (Or.inl rfl)) (fun _ _ _ _ _ => pts_nil) (fun _ _ _ _ _ => (pe_ifExp (pt_cmpR op_eq (pe_call (ok_law_take T) (hr.mono (by decide)) rfl T.m_law_take T.F_law_take.kp T.b_law_take .nil pass0 (pa_cons (pv 0) (pa_cons pe_int pa_nil))) pe_int (nomark _)) (pe_call (ok_law_take T) (hr.mono (by decide)) rfl T.m_law_take T.F_law_take.kp T.b_law_take .nil pass0 (pa_cons (pv 0) (pa_cons pe_int pa_nil))) (pe_call (ok_law_take T) (hr.mono (by decide)) rfl T.m_law_take T.F_law_take.kp T.b_law_take .nil pass0 (pa_cons (pv 0) (pa_cons pe_int pa_nil)))))) pa_nil)) pa_nil))))))))), ?_⟩
    walk_at "sm"
    refine tk hh (by decide) (by decide) fun at1 H1 a0 a1 f1 hh1 => ?_
    walk_at "sm"
    refine ite2 (fun h8 => ⟨sz (by decide), fun l hl => pickI (L := pkL) upd_same a0 (by exact h8) fun z hz => ⟨sz (by decide), fun q hq => ?_⟩⟩) fun h8 => ite2 (fun h10 => ?_) fun h10 => ite2 (fun h12 => ⟨sz (by decide), fun q hq => ?_⟩) fun h12 => ?_
    · obtain ⟨kk, rfl⟩ := pk_at hz
      have eL := (Evl.Ex.new (o := .lst (pkL.map V.str)) hl).trans (Evl.Ex.new (o := .tup [.str kk.sg]) hq)
      exact k q (.pr kk) _ (f1.trans (Fr.of eL)) (hh1.go eL) upd_same (by intro z; cases z)
    · refine ⟨sz (by decide), fun l hl => pickI (L := ["<<", ">>"]) upd_same (by omega) (by show _ < (2 : Int); omega) fun z hz => ?_⟩
      obtain ⟨lr, rfl⟩ := sh_at hz
      have eL := Evl.Ex.new (o := .lst ((["<<", ">>"] : List Str).map V.str)) hl
      refine tk (hh1.go eL) (by decide) (by decide) fun r2 H2 b0 b1 f2 hh2 => ?_
      walk_at "sm"
      have go : ∀ m : Int, 0 < m → m ≤ 4096 → spTake [V.ref p, V.int m] H2 (fun x H1 => 0 + 1 + 1 ≤ sizeLine ∧ ∀ (p : Addr), H1 p = none → Q (V.ref p) (upd H1 p (HO.tup [V.str (shS lr), x]))) E0 := fun m m0 m1 => tk hh2 m0 (by omega) fun r3 H3 c0 c1 f3 hh3 => ⟨sz (by decide), fun q hq => by
        obtain ⟨n, rfl⟩ : ∃ n : Nat, r3 = (n : Int) := ⟨r3.toNat, by omega⟩
        have eQ := Evl.Ex.new (o := .tup [.str (shS lr), .int n]) hq
        exact k q (.sh lr n) _ ((((f1.trans (Fr.of eL)).trans f2).trans f3).trans (Fr.of eQ)) (hh3.go eQ) ⟨upd_same, by omega⟩ (by intro z; cases z)⟩
      exact ite2 (fun _ => go 15 (by decide) (by decide)) fun _ => go 4096 (by decide) (by decide)
    · have eQ := Evl.Ex.new (o := .tup [.str "pick"]) hq
      exact k q .pick _ (f1.trans (Fr.of eQ)) (hh1.go eQ) upd_same (by intro z; cases z)
    · refine tk hh1 (by decide) (by decide) fun r2 H2 b0 b1 f2 hh2 => ?_
      walk_at "sm"
      obtain ⟨n, rfl⟩ : ∃ n : Nat, r2 = (n : Int) := ⟨r2.toNat, by omega⟩
      obtain ⟨t1, t2⟩ := two_le (show n ≤ 12 by omega)
      refine ⟨n, rfl, by omega, _, rfl, by omega, by omega, ?_⟩
      refine lcg_range (ivK H2 p c) (fun D hD => ⟨[], upd_same, rfl, (by intro y hy; cases hy), (Fr.refl H2).mut hD, hh2.upd (hh2.lt hD) (hh2.lc hD)⟩) (fun D i H6 hD hi ⟨ns, h1, h2, h3, f6, hh6⟩ => ?_) (fun lp H6 hlp ⟨ns, h1, h2, h3, f6, hh6⟩ => ?_)
      · walk_at "sm"
        have nDp := hh2.lt hD
        refine tk hh6 (by decide) (by decide) fun r3 H7 c0 c1 f7 hh7 => ?_
        walk_at "sm"
        have fin : ∀ m : Int, 0 < m → m ≤ 4096 → spTake [V.ref p, V.int m] H7 (fun y H4 => ∃ acc, H4 D = some (HO.lst acc) ∧ acc.length < sizeLine ∧ ivK H2 p c D (i + 1) (upd H4 D (HO.lst (acc ++ [y])))) E0 := fun m m0 m1 => tk hh7 m0 (by omega) fun r4 H8 d0 d1 f8 hh8 => by
          refine ⟨_, f8 _ _ nDp (f7 _ _ nDp h1), Nat.lt_of_le_of_lt (show (ns.map V.int).length ≤ 5000 by rw [List.length_map]; omega) (by decide), ns ++ [r4], by rw [upd_same, List.map_append]; rfl, by rw [List.length_append, h2]; rfl, ?_, ((f6.trans f7).trans f8).mut hD, hh8.upd nDp (hh2.lc hD)⟩
          intro y hy
          rcases List.mem_append.mp hy with q | q
          · exact h3 y q
          · rw [List.mem_singleton] at q
            rw [q]; omega
        exact ite2 (fun _ => fin 4096 (by decide) (by decide)) fun _ => fin 16 (by decide) (by decide)
      · have gt : goodTab ns := by
          refine ⟨?_, h3⟩
          rw [h2]
          have hn : n < 5 := by omega
          rcases (show n = 0 ∨ n = 1 ∨ n = 2 ∨ n = 3 ∨ n = 4 by omega) with rfl | rfl | rfl | rfl | rfl
          · exact .inl rfl
          · exact .inr (.inl rfl)
          · exact .inr (.inr (.inl rfl))
          · exact .inr (.inr (.inr (.inl rfl)))
          · exact .inr (.inr (.inr (.inr rfl)))
        refine ⟨lp, rfl, _, .inl ⟨SqL.of h1, fun m hm => ⟨sz (by decide), fun q hq => ?_⟩⟩⟩
        have eQ := (Evl.Ex.new (o := .tup (ns.map V.int)) hm).trans (Evl.Ex.new (o := .tup [.str "table", .ref m]) hq)
        exact k q (.tab ns) _ (((f1.trans f2).trans f6).trans (Fr.of eQ)) (hh6.go eQ) ⟨m, upd_same, Evl.Ex.new hq _ _ upd_same, gt⟩ (by intro z; cases z)
end


/-! ### texts in pieces: so many blanks, a token -/
abbrev Pc := Nat × Tk
def tkC : Tk → Cs
  | .word w => w | .name w => w | .num n => TL.numL n | .sign s => s
def flat : List Pc → Cs
  | [] => []
  | (b, t) :: ps => List.replicate b 32 ++ (tkC t ++ flat ps)
def toks : Nat → List Pc → List Tok
  | _, [] => []
  | i, (b, t) :: ps => (some t, i + b) :: toks (i + b + (tkC t).length) ps
theorem flat_app : ∀ (x y : List Pc), flat (x ++ y) = flat x ++ flat y
  | [], _ => rfl
  | (b, t) :: x, y => by
    show List.replicate b 32 ++ (tkC t ++ flat (x ++ y)) = (List.replicate b 32 ++ (tkC t ++ flat x)) ++ flat y
    rw [flat_app x y, List.append_assoc, List.append_assoc]
theorem toks_app : ∀ (x y : List Pc) (i : Nat), toks i (x ++ y) = toks i x ++ toks (i + (flat x).length) y
  | [], _, _ => rfl
  | (b, t) :: x, y, i => by
    show (some t, i + b) :: toks _ (x ++ y) = (some t, i + b) :: (toks _ x ++ toks _ y)
    rw [toks_app x y]
    congr 3
    show _ = i + (List.replicate b 32 ++ (tkC t ++ flat x)).length
    rw [List.length_append, List.length_append, List.length_replicate]
    omega
theorem toks_len : ∀ (x : List Pc) (i : Nat), (toks i x).length = x.length
  | [], _ => rfl
  | (b, t) :: x, i => by
    show (toks _ x).length + 1 = x.length + 1
    rw [toks_len x]
def okTk : Tk → Bool
  | .word w => lowB (w.headD 0) && w.all alnB && decide (w.length ≤ 8) && kws.contains w
  | .name w => lowB (w.headD 0) && w.all alnB && decide (w.length ≤ 8) && !kws.contains w
  | .num n => decide (n ≤ 4095)
  | .sign s => sgs.contains s
def solo : List Cs := [[40], [41], [91], [93], [44], [59], [123], [125]]
def adj (t : Tk) (r : Cs) : Bool := match r with
  | [] => true
  | c :: _ => match t with
    | .word _ => !alnB c
    | .name _ => !alnB c
    | .num _ => !digB c
    | .sign s => solo.contains s || decide (c = 32)
def okPs : List Pc → Cs → Bool
  | [], _ => true
  | (_, t) :: ps, r => okTk t && adj t (flat ps ++ r) && okPs ps r
def brks : Nat → List Pc → Option Nat
  | b, [] => some b
  | b, (_, t) :: ps => match brk t b with
    | none => none
    | some b' => brks b' ps
theorem okPs_app : ∀ (x y : List Pc) (r : Cs), okPs (x ++ y) r = (okPs x (flat y ++ r) && okPs y r)
  | [], _, _ => rfl
  | (b, t) :: x, y, r => by
    show (okTk t && adj t (flat (x ++ y) ++ r) && okPs (x ++ y) r) = (okTk t && adj t (flat x ++ (flat y ++ r)) && okPs x (flat y ++ r) && okPs y r)
    rw [okPs_app x y, flat_app, List.append_assoc]
    cases okTk t <;> cases adj t (flat x ++ (flat y ++ r)) <;> cases okPs x (flat y ++ r) <;> rfl
theorem brks_app : ∀ (x y : List Pc) (b : Nat), brks b (x ++ y) = (brks b x).bind fun c => brks c y
  | [], _, _ => rfl
  | (n, t) :: x, y, b => by
    show (match brk t b with | none => none | some b' => brks b' (x ++ y)) = (match brk t b with | none => none | some b' => brks b' x).bind _
    cases brk t b with
    | none => rfl
    | some b' => exact brks_app x y b'
theorem tw_all_app {p : Nat → Bool} : ∀ (w r : Cs), w.all p = true → (match r with | [] => true | c :: _ => !p c) = true → (w ++ r).takeWhile p = w
  | [], [], _, _ => rfl
  | [], c :: r, _, h => by
    have h : (!p c) = true := h
    show (c :: r).takeWhile p = []
    rw [List.takeWhile_cons, if_neg (by simpa using h)]
  | c :: w, r, h, h2 => by
    rw [List.all_cons, Bool.and_eq_true] at h
    show (c :: (w ++ r)).takeWhile p = _
    rw [List.takeWhile_cons, if_pos h.1, tw_all_app w r h.2 h2]
theorem numL_head : ∀ n : Nat, 1 ≤ n → (TL.numL n).head? ≠ some 48 := by
  intro n
  induction n using Nat.strongRecOn with
  | _ n ih =>
    intro h1
    by_cases h : n < 10
    · rw [TL.numL_lt h]
      intro q
      have := Option.some.inj q
      omega
    · rw [TL.numL_step (by omega)]
      have ne := TL.numL_ne (n / 10)
      have q := ih (n / 10) (by omega) (by omega)
      cases e : TL.numL (n / 10) with
      | nil => exact absurd e ne
      | cons c r =>
        rw [e] at q
        exact q
theorem numL_dig (n : Nat) : (TL.numL n).all digB = true := by
  rw [List.all_eq_true]
  intro c hc
  have := TL.numL_digits n c hc
  unfold digB
  simp
  omega
theorem numL_ok {n : Nat} (h : n ≤ 4095) : badNum (TL.numL n) = false := by
  unfold badNum
  rw [TL.numL_val, decide_eq_false (show ¬ 4095 < n by omega)]
  have l4 := TL.numL_len (n := n) (k := 4) (by decide) (by omega)
  rw [decide_eq_false (show ¬ 4 < (TL.numL n).length by omega)]
  by_cases h1 : 1 ≤ n
  · rw [decide_eq_false (numL_head n h1), Bool.and_false]
    rfl
  · have : n = 0 := by omega
    subst this
    decide +kernel
theorem dig_low {c : Nat} (h : digB c = true) : lowB c = false := by
  unfold digB at h
  unfold lowB
  simp at h ⊢
  omega
theorem sg_find : ∀ s ∈ sgs, (solo.contains s = true → ∀ r, sgs.find? (fun q => q.isPrefixOf (s ++ r)) = some s) ∧ sgs.find? (fun q => q.isPrefixOf s) = some s ∧ (∀ r, sgs.find? (fun q => q.isPrefixOf (s ++ 32 :: r)) = some s) ∧ lowB (s.headD 0) = false ∧ digB (s.headD 0) = false ∧ 1 ≤ s.length := by
  intro s hs
  have hs : s ∈ ([[60, 61, 62], [61, 61], [60, 60], [62, 62], [43, 61], [45, 61], [94, 61], [123], [125], [40], [41], [91], [93], [44], [59], [61], [43], [45], [42], [38], [124], [94], [60]] : List Cs) := hs
  simp only [List.mem_cons, List.not_mem_nil, or_false] at hs
  rcases hs with rfl | rfl | rfl | rfl | rfl | rfl | rfl | rfl | rfl | rfl | rfl | rfl | rfl | rfl | rfl | rfl | rfl | rfl | rfl | rfl | rfl | rfl | rfl <;>
    exact ⟨fun h r => by first | rfl | (exact absurd h (by decide)), by rfl, fun r => by rfl, by decide, by decide, by decide⟩
theorem tok1_of {t : Tk} {r : Cs} (ht : okTk t = true) (ha : adj t r = true) : tok1 (tkC t ++ r) = .ok (t, (tkC t).length) ∧ 1 ≤ (tkC t).length ∧ blB ((tkC t).headD 0) = false := by
  have low_bl : ∀ c, lowB c = true → blB c = false := fun c h => by unfold lowB at h; unfold blB; simp at h ⊢; omega
  cases t with
  | word w =>
    have ht : (lowB (w.headD 0) && w.all alnB && decide (w.length ≤ 8) && kws.contains w) = true := ht
    simp only [Bool.and_eq_true, decide_eq_true_eq] at ht
    obtain ⟨⟨⟨h1, h2⟩, h3⟩, h4⟩ := ht
    cases w with
    | nil => exact absurd h1 (by decide)
    | cons c w =>
      have e : (c :: w ++ r).takeWhile alnB = c :: w := tw_all_app _ _ h2 (by cases r <;> exact ha)
      refine ⟨?_, by show 1 ≤ w.length + 1; omega, low_bl c h1⟩
      show tok1 (c :: w ++ r) = _
      unfold tok1
      rw [if_pos (show lowB ((c :: w ++ r).headD 0) = true from h1), e, if_neg (by omega), if_pos h4]
      rfl
  | name w =>
    have ht : (lowB (w.headD 0) && w.all alnB && decide (w.length ≤ 8) && !kws.contains w) = true := ht
    simp only [Bool.and_eq_true, decide_eq_true_eq] at ht
    obtain ⟨⟨⟨h1, h2⟩, h3⟩, h4⟩ := ht
    cases w with
    | nil => exact absurd h1 (by decide)
    | cons c w =>
      have e : (c :: w ++ r).takeWhile alnB = c :: w := tw_all_app _ _ h2 (by cases r <;> exact ha)
      refine ⟨?_, by show 1 ≤ w.length + 1; omega, low_bl c h1⟩
      show tok1 (c :: w ++ r) = _
      unfold tok1
      rw [if_pos (show lowB ((c :: w ++ r).headD 0) = true from h1), e, if_neg (by omega), if_neg (by simpa using h4)]
      rfl
  | num n =>
    have hn : n ≤ 4095 := of_decide_eq_true ht
    have hd := numL_dig n
    have ne := TL.numL_ne n
    have e : (TL.numL n ++ r).takeWhile digB = TL.numL n := tw_all_app _ _ hd (by cases r <;> exact ha)
    have hv := TL.numL_val n
    have hb := numL_ok hn
    show tok1 (TL.numL n ++ r) = .ok (.num n, (TL.numL n).length) ∧ 1 ≤ (TL.numL n).length ∧ blB ((TL.numL n).headD 0) = false
    generalize TL.numL n = w at *
    cases w with
    | nil => exact absurd rfl ne
    | cons c w =>
      have hc : digB c = true := (Bool.and_eq_true _ _ ▸ (List.all_cons ▸ hd : (digB c && w.all digB) = true)).1
      refine ⟨?_, by show 1 ≤ w.length + 1; omega, by show blB c = false; unfold digB at hc; unfold blB; simp at hc ⊢; omega⟩
      unfold tok1
      have h0 : (c :: w ++ r).headD 0 = c := rfl
      rw [h0, if_neg (by rw [dig_low hc]; decide), if_pos hc, e, if_neg (by rw [hb]; decide), hv]
  | sign s =>
    have hs : s ∈ sgs := List.contains_iff_mem.mp ht
    obtain ⟨q1, q2, q3, q4, q5, q6⟩ := sg_find s hs
    have h0 : (s ++ r).headD 0 = s.headD 0 := by
      cases s with
      | nil => exact absurd q6 (by decide)
      | cons c s => rfl
    have ef : sgs.find? (fun q => q.isPrefixOf (s ++ r)) = some s := by
      cases r with
      | nil => rw [List.append_nil]; exact q2
      | cons c r =>
        have ha : (solo.contains s || decide (c = 32)) = true := ha
        rw [Bool.or_eq_true] at ha
        rcases ha with h | h
        · exact q1 h _
        · rw [of_decide_eq_true h]
          exact q3 r
    refine ⟨?_, q6, ?_⟩
    · show tok1 (s ++ r) = .ok (.sign s, s.length)
      unfold tok1
      rw [h0, if_neg (by rw [q4]; decide), if_neg (by rw [q5]; decide), ef]
    · show blB (s.headD 0) = false
      have : ∀ s ∈ sgs, blB (s.headD 0) = false := by decide +kernel
      exact this s hs
theorem drop_cons {cs r : Cs} {i c : Nat} (h : cs.drop i = c :: r) : ∃ hi : i < cs.length, cs[i] = c ∧ cs.drop (i + 1) = r := by
  have hi : i < cs.length := by
    rcases Nat.lt_or_ge i cs.length with h1 | h1
    · exact h1
    · rw [List.drop_eq_nil_of_le h1] at h; cases h
  rw [List.drop_eq_getElem_cons hi] at h
  cases h
  exact ⟨hi, rfl, rfl⟩
theorem scan_bls : ∀ (n i b : Nat) (cs r : Cs), cs.drop i = List.replicate n 32 ++ r → scan cs i b = scan cs (i + n) b ∧ cs.drop (i + n) = r
  | 0, _, _, _, _, h => ⟨rfl, h⟩
  | n + 1, i, b, cs, r, h => by
    obtain ⟨hi, h1, h2⟩ := drop_cons (show cs.drop i = 32 :: (List.replicate n 32 ++ r) from h)
    obtain ⟨q1, q2⟩ := scan_bls n (i + 1) b cs r h2
    rw [show i + (n + 1) = i + 1 + n by omega]
    exact ⟨(scan_bl hi (by rw [h1]; rfl)).trans q1, q2⟩
theorem drop_app {cs x r : Cs} {i : Nat} (h : cs.drop i = x ++ r) : cs.drop (i + x.length) = r := by
  rw [← List.drop_drop, h, List.drop_left]
theorem scan_ps : ∀ (ps : List Pc) (cs r : Cs) (i b b' : Nat), cs.drop i = flat ps ++ r → okPs ps r = true → brks b ps = some b' → scan cs i b = pre ((toks i ps).map tkV) (scan cs (i + (flat ps).length) b') ∧ cs.drop (i + (flat ps).length) = r
  | [], cs, r, i, b, b', h, _, hb => by
    cases hb
    exact ⟨(pre_nil _).symm, h⟩
  | (n, t) :: ps, cs, r, i, b, b', h, ho, hb => by
    have ho : (okTk t && adj t (flat ps ++ r) && okPs ps r) = true := ho
    rw [Bool.and_eq_true, Bool.and_eq_true] at ho
    obtain ⟨⟨o1, o2⟩, o3⟩ := ho
    have h : cs.drop i = (List.replicate n 32 ++ (tkC t ++ flat ps)) ++ r := h
    rw [List.append_assoc, List.append_assoc] at h
    obtain ⟨q1, q2⟩ := scan_bls n i b cs _ h
    obtain ⟨t1, t2, t3⟩ := tok1_of o1 o2
    have hne : ∃ c w, tkC t = c :: w := by
      cases e : tkC t with
      | nil => rw [e] at t2; exact absurd t2 (by decide)
      | cons c w => exact ⟨c, w, rfl⟩
    obtain ⟨c, w, ec⟩ := hne
    have q3 : cs.drop (i + n) = c :: (w ++ (flat ps ++ r)) := by rw [q2, ec]; rfl
    obtain ⟨hi, hc, _⟩ := drop_cons q3
    have hb : (match brk t b with | none => none | some b' => brks b' ps) = some b' := hb
    cases hk : brk t b with
    | none => rw [hk] at hb; cases hb
    | some b1 =>
      rw [hk] at hb
      rw [ec] at t3
      have s1 := scan_tok (b := b) hi (by rw [hc]; exact t3) (by rw [q2]; exact t1) hk t2
      have d1 := drop_app q2
      obtain ⟨s2, d2⟩ := scan_ps ps cs r (i + n + (tkC t).length) b1 b' d1 o3 hb
      have el : i + (flat ((n, t) :: ps)).length = i + n + (tkC t).length + (flat ps).length := by
        show i + (List.replicate n 32 ++ (tkC t ++ flat ps)).length = _
        rw [List.length_append, List.length_append, List.length_replicate]
        omega
      rw [el]
      refine ⟨?_, d2⟩
      rw [q1, s1, s2, pre_pre]
      rfl


/-! ### what is written -/
def bump : List Pc → List Pc
  | [] => []
  | (b, t) :: ps => (b + 1, t) :: ps
def joinP : List (List Pc) → List Pc
  | [] => []
  | [x] => x
  | x :: y :: r => x ++ (1, .sign [44]) :: bump (joinP (y :: r))
def numsP : List Nat → List Pc
  | [] => []
  | [n] => [(0, .num n)]
  | n :: m :: r => (0, .num n) :: (0, .sign [44]) :: bump (numsP (m :: r))
inductive Kn | pr (k : Pk) | pick | sh (l : Bool) (n : Nat) | tab (l : List Nat)
def Pk.cs : Pk → Cs
  | .add => [43] | .sub => [45] | .mul => [42] | .band => [38] | .bor => [124] | .bxor => [94] | .eq => [61, 61] | .lt => [60]
theorem Pk.cs_S (k : Pk) : S k.cs = k.sg := by cases k <;> decide +kernel
def shC (l : Bool) : Cs := if l = true then [60, 60] else [62, 62]
theorem shC_S (l : Bool) : S (shC l) = shS l := by cases l <;> decide +kernel
def Kn.D : Kn → List PyData
  | .pr k => [.str k.sg]
  | .pick => [.str "pick"]
  | .sh l n => [.str (shS l), .int (n : Nat)]
  | .tab l => [.str "table", dNs l]
def Kn.many : Kn → Nat
  | .pr _ => 2 | .pick => 3 | .sh _ _ => 1 | .tab _ => 1
def Kn.ok : Kn → Prop
  | .sh _ n => n ≤ 4095
  | .tab l => [1, 2, 4, 8, 16].contains l.length = true ∧ ∀ n ∈ l, n ≤ 4095
  | _ => True
def opP : Kn → List (List Pc) → List Pc
  | .pr k, [x, y] => (0, .sign [40]) :: (x ++ (1, .sign k.cs) :: (bump y ++ [(0, .sign [41])]))
  | .pick, [x, y, z] => (0, .word wPick) :: (0, .sign [40]) :: (bump x ++ (0, .sign [44]) :: (y ++ (0, .sign [44]) :: (z ++ [(1, .sign [41])])))
  | .sh l n, [x] => (0, .sign [40]) :: (x ++ [(1, .sign (shC l)), (1, .num n), (0, .sign [41])])
  | .tab l, [x] => (0, .word wTable) :: (1, .sign [91]) :: (numsP l ++ (0, .sign [93]) :: (1, .sign [40]) :: (x ++ [(0, .sign [41])]))
  | _, _ => []
def dNum (n : Nat) : PyData := .tuple [.str "number", .int (n : Nat)]
def dName (w : Cs) : PyData := .tuple [.str "name", .str (S w)]
def dCall (w : Cs) (ds : List PyData) : PyData := .tuple [.str "call", .str (S w), .tuple ds]
abbrev Ch := PyData × List Pc
def Wr (ws : List Cs) (fs : List Fun3) : Nat → PyData → List Pc → Prop
  | 0 => fun _ _ => False
  | k + 1 => fun d ps => (∃ n, n ≤ 4095 ∧ d = dNum n ∧ ps = [(0, .num n)]) ∨ (∃ w, w ∈ ws ∧ d = dName w ∧ ps = [(0, .name w)]) ∨
    (∃ (f : Fun3) (cs : List Ch), f ∈ fs ∧ cs.length = f.2.1 ∧ (∀ c ∈ cs, Wr ws fs k c.1 c.2) ∧ d = dCall f.1 (cs.map (·.1)) ∧ ps = (0, .name f.1) :: (1, .sign [40]) :: (joinP (cs.map (·.2)) ++ [(0, .sign [41])])) ∨
    ∃ (kn : Kn) (cs : List Ch), kn.ok ∧ cs.length = kn.many ∧ (∀ c ∈ cs, Wr ws fs k c.1 c.2) ∧ d = dOp kn.D (cs.map (·.1)) ∧ ps = opP kn (cs.map (·.2))
structure WEnv (ws : List Cs) (fs : List Fun3) : Prop where
  nw : ∀ w ∈ ws, okTk (.name w) = true ∧ w.length ≤ 5
  nf : ∀ f ∈ fs, okTk (.name f.1) = true ∧ f.1.length ≤ 5 ∧ f.2.1 ≤ 3 ∧ f.2.2 ≤ 50 ∧ fs.find? (fun g => decide (g.1 = f.1)) = some f
/-! ### pieces in order -/
def endOk (r : Cs) : Bool := match r with
  | [] => true
  | c :: _ => !alnB c
theorem okC {b : Nat} {t : Tk} {ps : List Pc} {r : Cs} (h1 : okTk t = true) (h2 : adj t (flat ps ++ r) = true) (h3 : okPs ps r = true) : okPs ((b, t) :: ps) r = true := by
  show (okTk t && adj t (flat ps ++ r) && okPs ps r) = true
  rw [h1, h2, h3]; rfl
theorem okA {x y : List Pc} {r : Cs} (h1 : okPs x (flat y ++ r) = true) (h2 : okPs y r = true) : okPs (x ++ y) r = true := by rw [okPs_app, h1, h2]; rfl
theorem okB {x : List Pc} {r : Cs} (h : okPs x r = true) : okPs (bump x) r = true := by cases x with
  | nil => rfl
  | cons p x => exact h
theorem flat_bump {x : List Pc} (h : x ≠ []) : flat (bump x) = 32 :: flat x := by cases x with
  | nil => exact absurd rfl h
  | cons p x => rfl
theorem adj_end {t : Tk} {r : Cs} (h : endOk r = true) (hs : ∀ s, t = .sign s → solo.contains s = true) : adj t r = true := by
  cases r with
  | nil => rfl
  | cons c r =>
    have h : (!alnB c) = true := h
    cases t with
    | word w => exact h
    | name w => exact h
    | num n =>
      show (!digB c) = true
      unfold alnB at h
      cases hd : digB c with
      | false => rfl
      | true => rw [hd, Bool.or_true] at h; cases h
    | sign s =>
      show (solo.contains s || decide (c = 32)) = true
      rw [hs s rfl]; rfl
theorem adj_solo {s r : Cs} (h : solo.contains s = true) : adj (.sign s) r = true := by
  cases r with
  | nil => rfl
  | cons c r => show (solo.contains s || decide (c = 32)) = true; rw [h]; rfl
theorem adj_bl {t : Tk} {r : Cs} : adj t (32 :: r) = true := by
  cases t with
  | word w => rfl
  | name w => rfl
  | num n => rfl
  | sign s => show (solo.contains s || decide (32 = 32)) = true; rw [Bool.or_eq_true]; exact .inr rfl
theorem brC {n b b' : Nat} {t : Tk} {ps : List Pc} {c : Option Nat} (h1 : brk t b = some b') (h2 : brks b' ps = c) : brks b ((n, t) :: ps) = c := by
  show (match brk t b with | none => none | some b' => brks b' ps) = c
  rw [h1]; exact h2
theorem brA {x y : List Pc} {b b' : Nat} {c : Option Nat} (h1 : brks b x = some b') (h2 : brks b' y = c) : brks b (x ++ y) = c := by rw [brks_app, h1]; exact h2
theorem brB {x : List Pc} {b : Nat} {c : Option Nat} (h : brks b x = c) : brks b (bump x) = c := by cases x with
  | nil => exact h
  | cons p x => exact h
theorem joinP_ne {cs : List (List Pc)} (h : cs ≠ []) (hc : ∀ c ∈ cs, c ≠ []) : joinP cs ≠ [] := by
  match cs, h, hc with
  | [x], _, hc => exact hc x List.mem_cons_self
  | x :: y :: r, _, hc =>
    show x ++ _ ≠ []
    intro q
    exact hc x List.mem_cons_self (List.append_eq_nil_iff.mp q).1
theorem numsP_ne : ∀ {l : List Nat}, l ≠ [] → numsP l ≠ []
  | [_], _ => List.cons_ne_nil _ _
  | _ :: _ :: _, _ => List.cons_ne_nil _ _
theorem lt1 {α : Type} {l : List α} (h : l.length = 1) : ∃ x, l = [x] := match l, h with
  | [x], _ => ⟨x, rfl⟩
theorem lt2 {α : Type} {l : List α} (h : l.length = 2) : ∃ x y, l = [x, y] := match l, h with
  | [x, y], _ => ⟨x, y, rfl⟩
theorem lt3 {α : Type} {l : List α} (h : l.length = 3) : ∃ x y z, l = [x, y, z] := match l, h with
  | [x, y, z], _ => ⟨x, y, z, rfl⟩
/-- the forms of what is written, one by one -/
theorem Wr.cases {ws : List Cs} {fs : List Fun3} {k : Nat} {d : PyData} {ps : List Pc} {M : Prop} (h : Wr ws fs (k + 1) d ps) (h1 : ∀ n, n ≤ 4095 → d = dNum n → ps = [(0, .num n)] → M) (h2 : ∀ w, w ∈ ws → d = dName w → ps = [(0, .name w)] → M)
    (h3 : ∀ (f : Fun3) (cs : List Ch), f ∈ fs → cs.length = f.2.1 → (∀ c ∈ cs, Wr ws fs k c.1 c.2) → d = dCall f.1 (cs.map (·.1)) → ps = (0, .name f.1) :: (1, .sign [40]) :: (joinP (cs.map (·.2)) ++ [(0, .sign [41])]) → M)
    (h4 : ∀ (kk : Pk) (x y : Ch), Wr ws fs k x.1 x.2 → Wr ws fs k y.1 y.2 → d = dOp [.str kk.sg] [x.1, y.1] → ps = (0, .sign [40]) :: (x.2 ++ (1, .sign kk.cs) :: (bump y.2 ++ [(0, .sign [41])])) → M)
    (h5 : ∀ (x y z : Ch), Wr ws fs k x.1 x.2 → Wr ws fs k y.1 y.2 → Wr ws fs k z.1 z.2 → d = dOp [.str "pick"] [x.1, y.1, z.1] → ps = (0, .word wPick) :: (0, .sign [40]) :: (bump x.2 ++ (0, .sign [44]) :: (y.2 ++ (0, .sign [44]) :: (z.2 ++ [(1, .sign [41])]))) → M)
    (h6 : ∀ (l : Bool) (n : Nat) (x : Ch), n ≤ 4095 → Wr ws fs k x.1 x.2 → d = dOp [.str (shS l), .int (n : Nat)] [x.1] → ps = (0, .sign [40]) :: (x.2 ++ [(1, .sign (shC l)), (1, .num n), (0, .sign [41])]) → M)
    (h7 : ∀ (l : List Nat) (x : Ch), [1, 2, 4, 8, 16].contains l.length = true → (∀ n ∈ l, n ≤ 4095) → Wr ws fs k x.1 x.2 → d = dOp [.str "table", dNs l] [x.1] → ps = (0, .word wTable) :: (1, .sign [91]) :: (numsP l ++ (0, .sign [93]) :: (1, .sign [40]) :: (x.2 ++ [(0, .sign [41])])) → M) : M := by
  rcases h with ⟨n, a, b, c⟩ | ⟨w, a, b, c⟩ | ⟨f, cs, a, b, c, e, g⟩ | ⟨kn, cs, a, b, c, e, g⟩
  · exact h1 n a b c
  · exact h2 w a b c
  · exact h3 f cs a b c e g
  · cases kn with
    | pr kk =>
      obtain ⟨x, y, rfl⟩ := lt2 b
      exact h4 kk x y (c _ (by simp)) (c _ (by simp)) e g
    | pick =>
      obtain ⟨x, y, z, rfl⟩ := lt3 b
      exact h5 x y z (c _ (by simp)) (c _ (by simp)) (c _ (by simp)) e g
    | sh l n =>
      obtain ⟨x, rfl⟩ := lt1 b
      exact h6 l n x a (c _ (by simp)) e g
    | tab l =>
      obtain ⟨x, rfl⟩ := lt1 b
      exact h7 l x a.1 a.2 (c _ (by simp)) e g
theorem Wr.ne {ws : List Cs} {fs : List Fun3} : ∀ {k : Nat} {d : PyData} {ps : List Pc}, Wr ws fs k d ps → ps ≠ []
  | 0, _, _, h => False.elim h
  | k + 1, d, ps, h => by
    refine h.cases ?_ ?_ ?_ ?_ ?_ ?_ ?_ <;> (intros; subst_vars; exact List.cons_ne_nil _ _)
theorem sg_ok (k : Pk) : okTk (.sign k.cs) = true ∧ solo.contains k.cs = false := by cases k <;> decide +kernel
theorem brk_pk (k : Pk) (b : Nat) : brk (.sign k.cs) b = some b := by cases k <;> rfl
theorem brk_sh (l : Bool) (b : Nat) : brk (.sign (shC l)) b = some b := by cases l <;> rfl
theorem brk_op {b : Nat} (h : b < 20) : brk (.sign [40]) b = some (b + 1) := by
  show (if b = 20 then none else some (b + 1)) = _
  rw [if_neg (by omega)]
theorem brk_op2 {b : Nat} (h : b < 20) : brk (.sign [91]) b = some (b + 1) := by
  show (if b = 20 then none else some (b + 1)) = _
  rw [if_neg (by omega)]
theorem brk_cl {b : Nat} : brk (.sign [41]) (b + 1) = some b := rfl
theorem brk_cl2 {b : Nat} : brk (.sign [93]) (b + 1) = some b := rfl
theorem brk_co {b : Nat} : brk (.sign [44]) b = some b := rfl
theorem okPs_nums : ∀ {l : List Nat} {r : Cs}, (∀ n ∈ l, n ≤ 4095) → endOk r = true → okPs (numsP l) r = true ∧ ∀ b, brks b (numsP l) = some b
  | [], _, _, _ => ⟨rfl, fun _ => rfl⟩
  | [n], r, h, he => ⟨okC (decide_eq_true (h n List.mem_cons_self)) (adj_end he (by intro s q; cases q)) rfl, fun _ => rfl⟩
  | n :: m :: l, r, h, he => by
    obtain ⟨h1, h2⟩ := okPs_nums (l := m :: l) (r := r) (fun x hx => h x (List.mem_cons_of_mem _ hx)) he
    exact ⟨okC (decide_eq_true (h n List.mem_cons_self)) (adj_end rfl (by intro s q; cases q)) (okC (by decide) (adj_solo (by decide)) (okB h1)), fun b => brC rfl (brC rfl (brB (h2 b)))⟩
theorem flat_bump_hd {x y : List Pc} {r : Cs} (h : x ≠ []) : flat (bump x ++ y) ++ r = 32 :: (flat x ++ flat y ++ r) := by rw [flat_app, flat_bump h]; rfl
theorem okPs_join {r : Cs} {b : Nat} (he : endOk r = true) : ∀ {cs : List (List Pc)}, (∀ c ∈ cs, c ≠ [] ∧ (∀ r, endOk r = true → okPs c r = true) ∧ brks b c = some b) → okPs (joinP cs) r = true ∧ brks b (joinP cs) = some b
  | [], _ => ⟨rfl, rfl⟩
  | [x], h => ⟨(h x List.mem_cons_self).2.1 r he, (h x List.mem_cons_self).2.2⟩
  | x :: y :: cs, h => by
    obtain ⟨h1, h2⟩ := okPs_join he (cs := y :: cs) fun c hc => h c (List.mem_cons_of_mem _ hc)
    obtain ⟨a1, a2, a3⟩ := h x List.mem_cons_self
    exact ⟨okA (a2 _ rfl) (okC (by decide) (adj_solo (by decide)) (okB h1)), brA a3 (brC brk_co (brB h2))⟩
theorem Wr.good {ws : List Cs} {fs : List Fun3} (W : WEnv ws fs) : ∀ {k : Nat} {d : PyData} {ps : List Pc}, Wr ws fs k d ps → (∀ r, endOk r = true → okPs ps r = true) ∧ ∀ b, b + k ≤ 20 → brks b ps = some b
  | 0, _, _, h => False.elim h
  | k + 1, d, ps, h => by
    have ih := fun {d ps} (h : Wr ws fs k d ps) => Wr.good W h
    refine h.cases ?_ ?_ ?_ ?_ ?_ ?_ ?_
    · rintro n hn rfl rfl
      exact ⟨fun r he => okC (decide_eq_true hn) (adj_end he (by intro s q; cases q)) rfl, fun b _ => rfl⟩
    · rintro w hw rfl rfl
      exact ⟨fun r he => okC (W.nw w hw).1 (adj_end he (by intro s q; cases q)) rfl, fun b _ => rfl⟩
    · rintro f cs hf hl hc rfl rfl
      have hj := fun (r : Cs) (b : Nat) (he : endOk r = true) (hb : b + k ≤ 20) => okPs_join (r := r) (b := b) he (cs := cs.map (·.2)) fun c hc' => by
        obtain ⟨q, hq, rfl⟩ := List.mem_map.mp hc'
        exact ⟨(hc q hq).ne, (ih (hc q hq)).1, (ih (hc q hq)).2 b hb⟩
      have hj2 := fun (r : Cs) (he : endOk r = true) => okPs_join (r := r) (b := 0) he (cs := cs.map (·.2))
      refine ⟨fun r he => okC (W.nf f hf).1 (adj_end rfl (by intro s q; cases q)) (okC (by decide) (adj_solo (by decide)) (okA ?_ (okC (by decide) (adj_solo (by decide)) rfl))), fun b hb => brC rfl (brC (brk_op (by omega)) (brA (hj [] (b + 1) rfl (by omega)).2 (brC brk_cl rfl)))⟩
      by_cases hk : k ≤ 20
      · exact (hj _ 0 rfl (by omega)).1
      · have : ∀ {l : List (List Pc)} {r : Cs}, endOk r = true → (∀ c ∈ l, ∀ r, endOk r = true → okPs c r = true) → okPs (joinP l) r = true := by
          intro l
          induction l with
          | nil => intros; rfl
          | cons x l ihl =>
            intro r he hx
            cases l with
            | nil => exact hx x List.mem_cons_self r he
            | cons y l => exact okA (hx x List.mem_cons_self _ rfl) (okC (by decide) (adj_solo (by decide)) (okB (ihl he fun c hc => hx c (List.mem_cons_of_mem _ hc))))
        refine this rfl fun c hc' => ?_
        obtain ⟨q, hq, rfl⟩ := List.mem_map.mp hc'
        exact (ih (hc q hq)).1
    · rintro kk x y hx hy rfl rfl
      obtain ⟨x1, x2⟩ := ih hx
      obtain ⟨y1, y2⟩ := ih hy
      refine ⟨fun r he => okC (by decide) (adj_solo (by decide)) (okA (x1 _ rfl) (okC (sg_ok kk).1 ?_ (okA (okB (y1 _ rfl)) (okC (by decide) (adj_solo (by decide)) rfl)))), fun b hb => brC (brk_op (by omega)) (brA (x2 _ (by omega)) (brC (brk_pk kk _) (brA (brB (y2 _ (by omega))) (brC brk_cl rfl))))⟩
      rw [flat_bump_hd hy.ne]
      exact adj_bl
    · rintro x y z hx hy hz rfl rfl
      obtain ⟨x1, x2⟩ := ih hx
      obtain ⟨y1, y2⟩ := ih hy
      obtain ⟨z1, z2⟩ := ih hz
      exact ⟨fun r he => okC (by decide) (adj_end rfl (by intro s q; cases q)) (okC (by decide) (adj_solo (by decide)) (okA (okB (x1 _ rfl)) (okC (by decide) (adj_solo (by decide)) (okA (y1 _ rfl) (okC (by decide) (adj_solo (by decide)) (okA (z1 _ rfl) (okC (by decide) (adj_solo (by decide)) rfl))))))),
        fun b hb => brC rfl (brC (brk_op (by omega)) (brA (brB (x2 _ (by omega))) (brC brk_co (brA (y2 _ (by omega)) (brC brk_co (brA (z2 _ (by omega)) (brC brk_cl rfl)))))))⟩
    · rintro l n x hn hx rfl rfl
      obtain ⟨x1, x2⟩ := ih hx
      exact ⟨fun r he => okC (by decide) (adj_solo (by decide)) (okA (x1 _ rfl) (okC (by cases l <;> decide) adj_bl (okC (decide_eq_true hn) (adj_end rfl (by intro s q; cases q)) (okC (by decide) (adj_solo (by decide)) rfl)))),
        fun b hb => brC (brk_op (by omega)) (brA (x2 _ (by omega)) (brC (brk_sh l _) (brC rfl (brC brk_cl rfl))))⟩
    · rintro l x hl hn hx rfl rfl
      obtain ⟨x1, x2⟩ := ih hx
      exact ⟨fun r he => okC (by decide) (adj_end rfl (by intro s q; cases q)) (okC (by decide) (adj_solo (by decide)) (okA (okPs_nums hn rfl).1 (okC (by decide) (adj_solo (by decide)) (okC (by decide) (adj_solo (by decide)) (okA (x1 _ rfl) (okC (by decide) (adj_solo (by decide)) rfl)))))),
        fun b hb => brC rfl (brC (brk_op2 (by omega)) (brA ((okPs_nums (r := []) hn rfl).2 _) (brC brk_cl2 (brC (brk_op (by omega)) (brA (x2 _ (by omega)) (brC brk_cl rfl))))))⟩


/-! ### reading what is written -/
theorem toks_bump {x : List Pc} (h : x ≠ []) (sp : Nat) : toks sp (bump x) = toks (sp + 1) x := by
  cases x with
  | nil => exact absurd rfl h
  | cons p x =>
    obtain ⟨b, t⟩ := p
    show (some t, sp + (b + 1)) :: toks (sp + (b + 1) + (tkC t).length) x = (some t, sp + 1 + b) :: toks (sp + 1 + b + (tkC t).length) x
    rw [show sp + (b + 1) = sp + 1 + b by omega]
theorem bump_len (x : List Pc) : (bump x).length = x.length := by cases x <;> rfl
theorem drop_hd {α : Type} {l r : List α} {i : Nat} {c : α} (h : l.drop i = c :: r) : l[i]? = some c ∧ l.drop (i + 1) = r ∧ i < l.length := by
  have hi : i < l.length := by
    rcases Nat.lt_or_ge i l.length with h1 | h1
    · exact h1
    · rw [List.drop_eq_nil_of_le h1] at h; cases h
  rw [List.drop_eq_getElem_cons hi] at h
  cases h
  exact ⟨List.getElem?_eq_getElem hi, rfl, hi⟩
section
variable {ts rest : List Tok} {i sp n : Nat} {t : Tk} {ps x y : List Pc}
theorem seg_hd (h : ts.drop i = toks sp ((n, t) :: ps) ++ rest) : ts[i]? = some (some t, sp + n) ∧ ts.drop (i + 1) = toks (sp + n + (tkC t).length) ps ++ rest := by
  obtain ⟨h1, h2, _⟩ := drop_hd (show ts.drop i = (some t, sp + n) :: (toks (sp + n + (tkC t).length) ps ++ rest) from h)
  exact ⟨h1, h2⟩
theorem seg_ap (h : ts.drop i = toks sp (x ++ y) ++ rest) : ts.drop i = toks sp x ++ (toks (sp + (flat x).length) y ++ rest) ∧ ts.drop (i + x.length) = toks (sp + (flat x).length) y ++ rest := by
  have h1 : ts.drop i = toks sp x ++ (toks (sp + (flat x).length) y ++ rest) := by rw [h, toks_app, List.append_assoc]
  refine ⟨h1, ?_⟩
  have e : (toks sp x).length = x.length := toks_len x sp
  rw [← List.drop_drop, h1, ← e, List.drop_left]
end
theorem atT_eq {α : Type} {ts : List Tok} {i : Nat} {t : Tok} {f : Tok → R α} (h : ts[i]? = some t) : atT ts i f = f t := by unfold atT; rw [h]
theorem rSign_ok {ts : List Tok} {i j : Nat} {s : Cs} (h : ts[i]? = some (some (.sign s), j)) : rSign ts i s = rok (i + 1) := by
  unfold rSign
  rw [h]
  show (if decide (s = s) = true then _ else _) = _
  rw [if_pos (by simp)]
theorem rNum_ok {ts : List Tok} {i j n : Nat} (h : ts[i]? = some (some (.num n), j)) : rNum ts i = rok (n, i + 1) := by
  unfold rNum
  rw [h]
theorem bnd_ok {α β : Type} {x : R α} {a : α} {f : α → R β} (h : x = rok a) : bnd x f = f a := by rw [h]; rfl
theorem rChk_ok {d i : Nat} (h : d ≤ 60) : rChk d i = rok d := by unfold rChk; rw [if_neg (by omega)]
def NsOk (ws : List Cs) : Option (List Cs) → Prop
  | none => True
  | some l => ∀ w ∈ ws, l.contains w = true
section
variable {ts : List Tok} {ns : Option (List Cs)} {fs : List Fun3}
def RdP (ts : List Tok) (ns : Option (List Cs)) (fs : List Fun3) (K : Nat) (d : PyData) (ps : List Pc) (B : Nat) : Prop := ∀ i sp u rest, ts.drop i = toks sp ps ++ u :: rest → isS u [40] = false → ∃ dep, dep ≤ B ∧ rPart (rDeep ts ns fs K) ts ns fs i = rok (d, dep, i + ps.length)
def RdD (ts : List Tok) (ns : Option (List Cs)) (fs : List Fun3) (K : Nat) (d : PyData) (ps : List Pc) (B : Nat) : Prop := ∀ i sp u rest least, ts.drop i = toks sp ps ++ u :: rest → isS u [40] = false → opOf u = none → ∃ dep, dep ≤ B ∧ rDeep ts ns fs K i least = rok (d, dep, i + ps.length)
theorem seg_next {i sp : Nat} {ps : List Pc} {u : Tok} {rest : List Tok} (h : ts.drop i = toks sp ps ++ u :: rest) : ts[i + ps.length]? = some u ∧ ts.drop (i + ps.length + 1) = rest ∧ i + ps.length < ts.length := by
  have e : ts.drop (i + ps.length) = u :: rest := by
    have e1 : (toks sp ps).length = ps.length := toks_len ps sp
    rw [← List.drop_drop, h, ← e1, List.drop_left]
  exact drop_hd e
theorem rLoop_end {sub : Sub} {least n dep j : Nat} {one : PyData} {u : Tok} (h : ts[j]? = some u) (ho : opOf u = none) : rLoop sub ts least (n + 1) one dep j = rok (one, dep, j) := by
  show atT ts j _ = _
  rw [atT_eq h, ho]
theorem rLoop_low {sub : Sub} {least n dep j g : Nat} {one : PyData} {u : Tok} {s : Cs} (h : ts[j]? = some u) (ho : opOf u = some (s, g)) (hg : g < least) : rLoop sub ts least (n + 1) one dep j = rok (one, dep, j) := by
  show atT ts j _ = _
  rw [atT_eq h, ho]
  show (if g < least then _ else _) = _
  rw [if_pos hg]
theorem rLoop_op {sub : Sub} {least n dep j g : Nat} {one : PyData} {u : Tok} {s : Cs} (h : ts[j]? = some u) (ho : opOf u = some (s, g)) (hg : least ≤ g) (hs : isSh s = false) : rLoop sub ts least (n + 1) one dep j = bnd (sub (j + 1) (g + 1)) fun r => bnd (rChk (max dep r.2.1 + 1) u.2) fun d => rLoop sub ts least n (dOp [.str (S s)] [one, r.1]) d r.2.2 := by
  show atT ts j _ = _
  rw [atT_eq h, ho]
  show (if g < least then _ else if isSh s = true then _ else _) = _
  rw [if_neg (by omega), if_neg (by rw [hs]; decide)]
theorem rLoop_sh {sub : Sub} {least n dep j g : Nat} {one : PyData} {u : Tok} {s : Cs} (h : ts[j]? = some u) (ho : opOf u = some (s, g)) (hg : least ≤ g) (hs : isSh s = true) : rLoop sub ts least (n + 1) one dep j = bnd (rNum ts (j + 1)) fun r => bnd (rChk (dep + 1) u.2) fun d => rLoop sub ts least n (dOp [.str (S s), .int r.1] [one]) d r.2 := by
  show atT ts j _ = _
  rw [atT_eq h, ho]
  show (if g < least then _ else if isSh s = true then _ else _) = _
  rw [if_neg (by omega), if_pos hs]
theorem RdP.deep {K B : Nat} {d : PyData} {ps : List Pc} (h : RdP ts ns fs K d ps B) : RdD ts ns fs (K + 1) d ps B := by
  intro i sp u rest least hd h1 h2
  obtain ⟨dep, hb, e⟩ := h i sp u rest hd h1
  obtain ⟨n1, _, n2⟩ := seg_next hd
  refine ⟨dep, hb, ?_⟩
  show bnd (rPart (rDeep ts ns fs K) ts ns fs i) _ = _
  rw [bnd_ok e]
  obtain ⟨m, hm⟩ : ∃ m, ts.length = m + 1 := ⟨ts.length - 1, by omega⟩
  rw [hm]
  exact rLoop_end n1 h2
theorem cl_ops : opOf (some (.sign [41]), n) = none ∧ isS (some (.sign [41]), n) [40] = false ∧ opOf (some (.sign [44]), n) = none ∧ isS (some (.sign [44]), n) [40] = false := ⟨rfl, rfl, rfl, rfl⟩
theorem pk_op (k : Pk) (n : Nat) : ∃ g, opOf (some (.sign k.cs), n) = some (k.cs, g) ∧ isSh k.cs = false ∧ isS (some (.sign k.cs), n) [40] = false := by cases k <;> exact ⟨_, rfl, rfl, rfl⟩
theorem sh_op (l : Bool) (n : Nat) : ∃ g, opOf (some (.sign (shC l)), n) = some (shC l, g) ∧ isSh (shC l) = true ∧ isS (some (.sign (shC l)), n) [40] = false := by cases l <;> exact ⟨_, rfl, rfl, rfl⟩
theorem joinP_hd {x y : List Pc} {r : List (List Pc)} : joinP (x :: y :: r) = x ++ (1, .sign [44]) :: bump (joinP (y :: r)) := rfl
theorem rParts_ok {sub : Sub} {B : Nat} : ∀ (cs : List Ch) (n gr i sp j : Nat) (acc : List PyData) (rest : List Tok), cs ≠ [] → (∀ c ∈ cs, c.2 ≠ []) → cs.length ≤ n → gr ≤ B →
    (∀ c ∈ cs, ∀ i sp u rest, ts.drop i = toks sp c.2 ++ u :: rest → isS u [40] = false → opOf u = none → ∃ dep, dep ≤ B ∧ sub i 0 = rok (c.1, dep, i + c.2.length)) →
    ts.drop i = toks sp (joinP (cs.map (·.2))) ++ (some (.sign [41]), j) :: rest →
    ∃ g, g ≤ B ∧ rParts sub ts n acc gr i = rok (acc ++ cs.map (·.1), g, i + (joinP (cs.map (·.2))).length + 1)
  | [], _, _, _, _, _, _, _, h, _, _, _, _, _ => absurd rfl h
  | [c], n, gr, i, sp, j, acc, rest, _, _, hn, hg, hs, hd => by
    obtain ⟨m, rfl⟩ : ∃ m, n = m + 1 := ⟨n - 1, by simp at hn; omega⟩
    have hd : ts.drop i = toks sp c.2 ++ (some (.sign [41]), j) :: rest := hd
    obtain ⟨dep, h1, h2⟩ := hs c List.mem_cons_self i sp _ _ hd rfl rfl
    obtain ⟨n1, _, _⟩ := seg_next hd
    refine ⟨max gr dep, by omega, ?_⟩
    show bnd (sub i 0) _ = _
    rw [bnd_ok h2]
    show (match ts[i + c.2.length]? with | none => none | some t => _) = _
    rw [n1]
    show (if decide (([41] : Cs) = [44]) = true then _ else _) = _
    rw [if_neg (by decide), bnd_ok (rSign_ok n1)]
    rfl
  | c :: e :: cs, n, gr, i, sp, j, acc, rest, _, hne, hn, hg, hs, hd => by
    obtain ⟨m, rfl⟩ : ∃ m, n = m + 1 := ⟨n - 1, by simp at hn; omega⟩
    have hd : ts.drop i = toks sp (c.2 ++ (1, .sign [44]) :: bump (joinP ((e :: cs).map (·.2)))) ++ (some (.sign [41]), j) :: rest := hd
    obtain ⟨a1, a2⟩ := seg_ap hd
    obtain ⟨b1, b2⟩ := seg_hd a2
    rw [toks_bump (x := joinP ((e :: cs).map (·.2))) (joinP_ne (by simp) fun x hx => by
      obtain ⟨q, hq, rfl⟩ := List.mem_map.mp hx
      exact hne q (List.mem_cons_of_mem _ hq))] at b2
    obtain ⟨dep, h1, h2⟩ := hs c List.mem_cons_self i sp (some (.sign [44]), sp + (flat c.2).length + 1) _ a1 rfl rfl
    obtain ⟨g, g1, g2⟩ := rParts_ok (e :: cs) m (max gr dep) (i + c.2.length + 1) _ j (acc ++ [c.1]) rest (List.cons_ne_nil _ _) (fun q hq => hne q (List.mem_cons_of_mem _ hq)) (by simp at hn ⊢; omega) (by omega) (fun q hq => hs q (List.mem_cons_of_mem _ hq)) b2
    refine ⟨g, g1, ?_⟩
    show bnd (sub i 0) _ = _
    rw [bnd_ok h2]
    show (match ts[i + c.2.length]? with | none => none | some t => _) = _
    rw [b1]
    show (if decide (([44] : Cs) = [44]) = true then _ else _) = _
    rw [if_pos (by decide), g2]
    have e1 : (joinP ((c :: e :: cs).map (·.2))).length = c.2.length + 1 + (joinP ((e :: cs).map (·.2))).length := by
      show (c.2 ++ (1, Tk.sign [44]) :: bump (joinP ((e :: cs).map (·.2)))).length = _
      rw [List.length_append, List.length_cons, bump_len]
      omega
    rw [e1, List.append_assoc]
    show rok (acc ++ ([c.1] ++ (e :: cs).map (·.1)), g, _) = rok (acc ++ (c :: e :: cs).map (·.1), g, _)
    have : i + c.2.length + 1 + (joinP ((e :: cs).map (·.2))).length + 1 = i + (c.2.length + 1 + (joinP ((e :: cs).map (·.2))).length) + 1 := by omega
    rw [this]
    rfl
theorem rNums_ok : ∀ (l : List Nat) (n i sp j : Nat) (acc : List Nat) (m : Nat) (rest : List Tok), l.length + 1 ≤ n → [1, 2, 4, 8, 16].contains (acc.length + l.length) = true →
    (match l with | [] => ts.drop i = (some (.sign [93]), j) :: rest | _ :: _ => ts.drop i = toks sp ((m, .sign [44]) :: bump (numsP l)) ++ (some (.sign [93]), j) :: rest) →
    rNums ts n acc i = rok (acc ++ l, i + 2 * l.length + 1)
  | [], n, i, sp, j, acc, m, rest, hn, hc, hd => by
    obtain ⟨q, rfl⟩ : ∃ q, n = q + 1 := ⟨n - 1, by simp at hn; omega⟩
    obtain ⟨h1, _, _⟩ := drop_hd hd
    show atT ts i _ = _
    rw [atT_eq h1]
    show (if decide (([93] : Cs) = [44]) = true then _ else _) = _
    rw [if_neg (by decide), bnd_ok (rSign_ok h1)]
    have hc : [1, 2, 4, 8, 16].contains acc.length = true := hc
    show (if [1, 2, 4, 8, 16].contains acc.length = true then _ else _) = _
    rw [if_pos hc, List.append_nil]
    rfl
  | [x], n, i, sp, j, acc, m, rest, hn, hc, hd => by
    obtain ⟨q, rfl⟩ : ∃ q, n = q + 1 := ⟨n - 1, by simp at hn; omega⟩
    obtain ⟨h1, h2⟩ := seg_hd hd
    obtain ⟨h3, h4⟩ := seg_hd (ps := []) h2
    show atT ts i _ = _
    rw [atT_eq h1]
    show (if decide (([44] : Cs) = [44]) = true then _ else _) = _
    rw [if_pos (by decide), bnd_ok (rNum_ok h3)]
    have := rNums_ok [] q (i + 1 + 1) 0 j (acc ++ [x]) 0 rest (by simp at hn ⊢; omega) (by rw [List.length_append]; exact hc) h4
    show rNums ts q (acc ++ [x]) (i + 1 + 1) = _
    rw [this, List.append_nil]
    rfl
  | x :: y :: l, n, i, sp, j, acc, m, rest, hn, hc, hd => by
    obtain ⟨q, rfl⟩ : ∃ q, n = q + 1 := ⟨n - 1, by simp at hn; omega⟩
    obtain ⟨h1, h2⟩ := seg_hd hd
    have h2 : ts.drop (i + 1) = toks _ ((1, .num x) :: (0, .sign [44]) :: bump (numsP (y :: l))) ++ (some (.sign [93]), j) :: rest := h2
    obtain ⟨h3, h4⟩ := seg_hd h2
    show atT ts i _ = _
    rw [atT_eq h1]
    show (if decide (([44] : Cs) = [44]) = true then _ else _) = _
    rw [if_pos (by decide), bnd_ok (rNum_ok h3)]
    have := rNums_ok (y :: l) q (i + 1 + 1) _ j (acc ++ [x]) 0 rest (by simp at hn ⊢; omega) (by rw [List.length_append]; simp at hc ⊢; omega) h4
    show rNums ts q (acc ++ [x]) (i + 1 + 1) = _
    rw [this, List.append_assoc]
    show rok (acc ++ (x :: y :: l), _) = rok (acc ++ (x :: y :: l), _)
    have e : i + 1 + 1 + 2 * (y :: l).length + 1 = i + 2 * (x :: y :: l).length + 1 := by simp only [List.length_cons]; omega
    rw [e]
theorem Wr.hd {ws : List Cs} : ∀ {k : Nat} {d : PyData} {ps : List Pc}, Wr ws fs k d ps → ∃ t r, ps = (0, t) :: r ∧ t ≠ .sign [41]
  | 0, _, _, h => False.elim h
  | k + 1, d, ps, h => by
    refine h.cases ?_ ?_ ?_ ?_ ?_ ?_ ?_ <;> (intros; subst_vars; exact ⟨_, _, rfl, by intro q; cases q⟩)
theorem okPs_hd {b : Nat} {t : Tk} {ps : List Pc} {r : Cs} (h : okPs ((b, t) :: ps) r = true) : okTk t = true := by
  have h : (okTk t && adj t (flat ps ++ r) && okPs ps r) = true := h
  rw [Bool.and_eq_true, Bool.and_eq_true] at h
  exact h.1.1
theorem isS_no {t : Tk} {s : Cs} {j : Nat} (h1 : t ≠ .sign s) (h2 : t ≠ .word s) : isS (some t, j) s = false := by
  cases t with
  | word w => exact decide_eq_false fun q => h2 (by rw [q])
  | name w => rfl
  | num w => rfl
  | sign w => exact decide_eq_false fun q => h1 (by rw [q])
theorem rPart_op {K i sp : Nat} (h : ts[i]? = some (some (.sign [40]), sp)) : rPart (rDeep ts ns fs K) ts ns fs i = bnd (rDeep ts ns fs K (i + 1) 0) fun x => bnd (rSign ts x.2.2 [41]) fun e => rok (x.1, x.2.1, e) := by
  show atT ts i _ = _
  rw [atT_eq h]
  show (if decide (([40] : Cs) = wPick) = true then _ else if decide (([40] : Cs) = wTable) = true then _ else _) = _
  rw [if_neg (by decide), if_neg (by decide), bnd_ok (rSign_ok h)]
theorem Wr.read {ws : List Cs} (W : WEnv ws fs) (hns : NsOk ws ns) : ∀ {k : Nat}, k ≤ 9 → ∀ {d : PyData} {ps : List Pc}, Wr ws fs k d ps → ∀ K, 2 * k ≤ K → RdP ts ns fs K d ps (50 + k)
  | 0, _, _, _, h, _, _ => False.elim h
  | k + 1, hk, d, ps, h, K, hK => by
    have ih := fun {d ps} (h : Wr ws fs k d ps) K hK => Wr.read W hns (by omega) h K hK
    have ihD : ∀ {d ps}, Wr ws fs k d ps → ∀ K, 2 * k < K → RdD ts ns fs K d ps (50 + k) := fun {d ps} h K hK => by
      obtain ⟨K', rfl⟩ : ∃ K', K = K' + 1 := ⟨K - 1, by omega⟩
      exact (ih h K' (by omega)).deep
    refine h.cases ?_ ?_ ?_ ?_ ?_ ?_ ?_
    · rintro n hn rfl rfl i sp u rest hd hu
      obtain ⟨h1, _⟩ := seg_hd hd
      refine ⟨1, by omega, ?_⟩
      show atT ts i _ = _
      rw [atT_eq h1]
      rfl
    · rintro w hw rfl rfl i sp u rest hd hu
      obtain ⟨h1, _⟩ := seg_hd hd
      obtain ⟨h2, _, _⟩ := seg_next hd
      refine ⟨1, by omega, ?_⟩
      show atT ts i _ = _
      rw [atT_eq h1]
      show (match ts[i + 1]? with | none => none | some t => _) = _
      have h2 : ts[i + 1]? = some u := h2
      rw [h2]
      show (if isS u [40] = true then _ else rNm1 ns w _ i) = _
      rw [if_neg (by rw [hu]; decide)]
      unfold rNm1
      cases ns with
      | none => rfl
      | some l =>
        show (if l.contains w = true then _ else _) = _
        rw [if_pos (hns w hw)]
        rfl
    · rintro f cs hf hl hc rfl rfl i sp u rest hd hu
      obtain ⟨h1, h2⟩ := seg_hd hd
      obtain ⟨h3, h4⟩ := seg_hd h2
      obtain ⟨h5, h6⟩ := seg_ap h4
      obtain ⟨w1, w2, w3, w4, w5⟩ := W.nf f hf
      have key : ∃ g j, g ≤ 50 + k ∧ j = i + 2 + (joinP (cs.map (·.2))).length + 1 ∧ rPartsA (rDeep ts ns fs K) ts (i + 2) = rok (cs.map (·.1), g, j) := by
        cases cs with
        | nil =>
          obtain ⟨h7, _⟩ := seg_hd h6
          refine ⟨0, _, by omega, rfl, ?_⟩
          have h7 : ts[i + 2]? = some (some (.sign [41]), _) := h7
          show (match ts[i + 2]? with | none => none | some t => _) = _
          rw [h7]
          rfl
        | cons c cs =>
          have hne : ∀ q ∈ (c :: cs : List Ch), q.2 ≠ [] := fun q hq => (hc q hq).ne
          obtain ⟨t, r, ht, hno⟩ := (hc c List.mem_cons_self).hd
          have hjp : ∃ r', joinP ((c :: cs).map (·.2)) = (0, t) :: r' := by
            cases cs with
            | nil => exact ⟨r, ht⟩
            | cons e cs => exact ⟨r ++ _, by show c.2 ++ _ = _; rw [ht]; rfl⟩
          obtain ⟨r', hjp⟩ := hjp
          obtain ⟨j8, h8⟩ : ∃ j8, ts[i + 2]? = some (some t, j8) := by
            rw [hjp] at h5
            exact ⟨_, (seg_hd h5).1⟩
          have h5 : ts.drop (i + 2) = _ := h5
          have ll : (c :: cs : List Ch).length ≤ ts.length := by
            have e1 := congrArg List.length h5
            rw [List.length_drop, List.length_append, toks_len] at e1
            have : ∀ l : List Ch, (∀ q ∈ l, q.2 ≠ []) → l.length ≤ (joinP (l.map (·.2))).length := by
              intro l
              induction l with
              | nil => intro _; exact Nat.le_refl _
              | cons a l ihl =>
                intro hq
                have ha : 1 ≤ a.2.length := List.length_pos_iff.mpr (hq a List.mem_cons_self)
                have hb := ihl fun q h => hq q (List.mem_cons_of_mem _ h)
                cases l with
                | nil => exact ha
                | cons b l =>
                  show (b :: l).length + 1 ≤ (a.2 ++ (1, Tk.sign [44]) :: bump (joinP ((b :: l).map (·.2)))).length
                  simp only [List.length_append, List.length_cons, bump_len] at hb ⊢
                  omega
            have := this _ hne
            omega
          obtain ⟨g, g1, g2⟩ := rParts_ok (ts := ts) (sub := rDeep ts ns fs K) (B := 50 + k) (c :: cs) ts.length 0 (i + 2) _ _ [] _ (List.cons_ne_nil _ _) hne ll (by omega) (fun q hq i sp u rest hd h1 h2 => ihD (hc q hq) K (by omega) i sp u rest 0 hd h1 h2) h5
          refine ⟨g, _, g1, rfl, ?_⟩
          show (match ts[i + 2]? with | none => none | some t => _) = _
          rw [h8]
          show (if isS (some t, j8) [41] = true then _ else _) = _
          have hnw : t ≠ .word [41] := by
            intro q
            have hw := ((hc c List.mem_cons_self).good W).1 [] rfl
            rw [ht, q] at hw
            exact absurd (okPs_hd hw) (by decide)
          rw [if_neg (by rw [isS_no hno hnw]; decide)]
          exact g2
      obtain ⟨g, j, hg, hj, hp⟩ := key
      refine ⟨1 + max g f.2.2, by omega, ?_⟩
      show atT ts i _ = _
      rw [atT_eq h1]
      show (match ts[i + 1]? with | none => none | some t => _) = _
      rw [h3]
      show (if decide (([40] : Cs) = [40]) = true then rCall (rDeep ts ns fs K) ts fs f.1 _ i else _) = _
      rw [if_pos (by decide)]
      unfold rCall
      rw [w5]
      show bnd (rPartsA (rDeep ts ns fs K) ts (i + 2)) _ = _
      rw [bnd_ok hp]
      show (if (cs.map (·.1)).length = f.2.1 then _ else _) = _
      rw [if_pos (by rw [List.length_map]; exact hl), bnd_ok (rChk_ok (by show 1 + max g f.2.2 ≤ 60; omega))]
      have e : j = i + ((0, Tk.name f.1) :: (1, Tk.sign [40]) :: (joinP (cs.map (·.2)) ++ [(0, Tk.sign [41])])).length := by
        rw [hj, List.length_cons, List.length_cons, List.length_append]
        show _ = i + (_ + 1 + 1 + 1)
        omega
      rw [← e]
      rfl
    · rintro kk x y hx hy rfl rfl i sp u rest hd hu
      obtain ⟨h1, h2⟩ := seg_hd hd
      obtain ⟨h3, h4⟩ := seg_ap h2
      obtain ⟨h5, h6⟩ := seg_hd h4
      obtain ⟨h7, h8⟩ := seg_ap h6
      obtain ⟨h9, h10⟩ := seg_hd h8
      rw [toks_bump hy.ne] at h7
      obtain ⟨g, o1, o2, o3⟩ := pk_op kk (sp + 0 + (tkC (Tk.sign [40])).length + (flat x.2).length + 1)
      obtain ⟨K1, rfl⟩ : ∃ K1, K = K1 + 1 := ⟨K - 1, by omega⟩
      obtain ⟨dx, dx1, dx2⟩ := ih hx K1 (by omega) (i + 1) _ _ _ h3 o3
      obtain ⟨dy, dy1, dy2⟩ := ihD hy K1 (by omega) _ _ _ _ (g + 1) h7 rfl rfl
      rw [bump_len] at h9
      have n9 := h9
      refine ⟨max dx dy + 1, by omega, ?_⟩
      rw [rPart_op h1]
      have e : rDeep ts ns fs (K1 + 1) (i + 1) 0 = rok (dOp [.str (S kk.cs)] [x.1, y.1], max dx dy + 1, i + 1 + x.2.length + 1 + y.2.length) := by
        show bnd (rPart (rDeep ts ns fs K1) ts ns fs (i + 1)) _ = _
        rw [bnd_ok dx2]
        obtain ⟨m, hm⟩ : ∃ m, ts.length = m + 1 + 1 := ⟨ts.length - 2, by have := (List.getElem?_eq_some_iff.mp n9).1; omega⟩
        rw [hm, rLoop_op h5 o1 (by omega) o2, bnd_ok dy2, bnd_ok (rChk_ok (by show max dx dy + 1 ≤ 60; omega))]
        exact rLoop_end n9 rfl
      rw [bnd_ok e, bnd_ok (rSign_ok n9), Pk.cs_S]
      have el : i + 1 + x.2.length + 1 + y.2.length + 1 = i + ((0, Tk.sign [40]) :: (x.2 ++ (1, Tk.sign kk.cs) :: (bump y.2 ++ [(0, Tk.sign [41])]))).length := by
        simp only [List.length_cons, List.length_append, bump_len, List.length_nil]
        omega
      rw [← el]
    · rintro x y z hx hy hz rfl rfl i sp u rest hd hu
      obtain ⟨h1, h2⟩ := seg_hd hd
      obtain ⟨h3, h4⟩ := seg_hd h2
      obtain ⟨h5, h6⟩ := seg_ap h4
      obtain ⟨h7, h8⟩ := seg_hd h6
      obtain ⟨h9, h10⟩ := seg_ap h8
      obtain ⟨h11, h12⟩ := seg_hd h10
      obtain ⟨h13, h14⟩ := seg_ap h12
      obtain ⟨h15, _⟩ := seg_hd h14
      rw [toks_bump hx.ne] at h5
      rw [bump_len] at h7 h9 h11 h13 h15
      obtain ⟨dx, dx1, dx2⟩ := ihD hx K (by omega) _ _ _ _ 0 h5 rfl rfl
      obtain ⟨dy, dy1, dy2⟩ := ihD hy K (by omega) _ _ _ _ 0 h9 rfl rfl
      obtain ⟨dz, dz1, dz2⟩ := ihD hz K (by omega) _ _ _ _ 0 h13 rfl rfl
      refine ⟨1 + max (max dx dy) dz, by omega, ?_⟩
      show atT ts i _ = _
      rw [atT_eq h1]
      show (if decide (wPick = wPick) = true then rPick (rDeep ts ns fs K) ts _ i else _) = _
      rw [if_pos (by decide)]
      unfold rPick
      rw [bnd_ok (rSign_ok h3), bnd_ok dx2, bnd_ok (rSign_ok h7), bnd_ok dy2, bnd_ok (rSign_ok h11), bnd_ok dz2, bnd_ok (rSign_ok h15), bnd_ok (rChk_ok (by show 1 + max (max dx dy) dz ≤ 60; omega))]
      have el : i + 1 + 1 + x.2.length + 1 + y.2.length + 1 + z.2.length + 1 = i + ((0, Tk.word wPick) :: (0, Tk.sign [40]) :: (bump x.2 ++ (0, Tk.sign [44]) :: (y.2 ++ (0, Tk.sign [44]) :: (z.2 ++ [(1, Tk.sign [41])])))).length := by
        simp only [List.length_cons, List.length_append, bump_len, List.length_nil]
        omega
      rw [← el]
    · rintro l n x hn hx rfl rfl i sp u rest hd hu
      obtain ⟨h1, h2⟩ := seg_hd hd
      obtain ⟨h3, h4⟩ := seg_ap h2
      obtain ⟨h5, h6⟩ := seg_hd h4
      obtain ⟨h7, h8⟩ := seg_hd h6
      obtain ⟨h9, _⟩ := seg_hd h8
      obtain ⟨g, o1, o2, o3⟩ := sh_op l (sp + 0 + (tkC (Tk.sign [40])).length + (flat x.2).length + 1)
      obtain ⟨K1, rfl⟩ : ∃ K1, K = K1 + 1 := ⟨K - 1, by omega⟩
      obtain ⟨dx, dx1, dx2⟩ := ih hx K1 (by omega) (i + 1) _ _ _ h3 o3
      refine ⟨dx + 1, by omega, ?_⟩
      rw [rPart_op h1]
      have e : rDeep ts ns fs (K1 + 1) (i + 1) 0 = rok (dOp [.str (S (shC l)), .int (n : Nat)] [x.1], dx + 1, i + 1 + x.2.length + 1 + 1) := by
        show bnd (rPart (rDeep ts ns fs K1) ts ns fs (i + 1)) _ = _
        rw [bnd_ok dx2]
        obtain ⟨m, hm⟩ : ∃ m, ts.length = m + 1 + 1 := ⟨ts.length - 2, by have := (List.getElem?_eq_some_iff.mp h9).1; omega⟩
        rw [hm, rLoop_sh h5 o1 (by omega) o2, bnd_ok (rNum_ok h7), bnd_ok (rChk_ok (by show dx + 1 ≤ 60; omega))]
        exact rLoop_end h9 rfl
      rw [bnd_ok e, bnd_ok (rSign_ok h9), shC_S]
      have el : i + 1 + x.2.length + 1 + 1 + 1 = i + ((0, Tk.sign [40]) :: (x.2 ++ [(1, Tk.sign (shC l)), (1, Tk.num n), (0, Tk.sign [41])])).length := by
        simp only [List.length_cons, List.length_append, List.length_nil]
        omega
      rw [← el]
    · rintro l x hl hn hx rfl rfl i sp u rest hd hu
      obtain ⟨h1, h2⟩ := seg_hd hd
      obtain ⟨h3, h4⟩ := seg_hd h2
      obtain ⟨h5, h6⟩ := seg_ap h4
      obtain ⟨h7, h8⟩ := seg_hd h6
      obtain ⟨h9, h10⟩ := seg_hd h8
      obtain ⟨h11, h12⟩ := seg_ap h10
      obtain ⟨h13, _⟩ := seg_hd h12
      obtain ⟨dx, dx1, dx2⟩ := ihD hx K (by omega) _ _ _ _ 0 h11 rfl rfl
      have nl : ∀ l : List Nat, (numsP l).length = 2 * l.length - 1 := by
        intro l
        induction l with
        | nil => rfl
        | cons a l ihl =>
          cases l with
          | nil => rfl
          | cons b l =>
            show (bump (numsP (b :: l))).length + 1 + 1 = _
            rw [bump_len, ihl]
            simp only [List.length_cons]
            omega
      have hls := (List.getElem?_eq_some_iff.mp h13).1
      have hnum : rNumsA ts (i + 1 + 1) = rok (l, i + 1 + 1 + (numsP l).length + 1) := by
        match l, hl, h5, nl l with
        | [], hl, _, _ => exact absurd hl (by decide)
        | [n1], hl, h5, _ =>
          obtain ⟨a1, a2⟩ := seg_hd (ps := []) h5
          unfold rNumsA
          rw [bnd_ok (rNum_ok a1)]
          exact rNums_ok [] ts.length (i + 1 + 1 + 1) 0 _ [n1] 0 _ (by simp; omega) (by simpa using hl) a2
        | n1 :: n2 :: r, hl, h5, nl =>
          have h5 : ts.drop (i + 1 + 1) = toks _ ((0, .num n1) :: (0, .sign [44]) :: bump (numsP (n2 :: r))) ++ _ := h5
          obtain ⟨a1, a2⟩ := seg_hd h5
          unfold rNumsA
          rw [bnd_ok (rNum_ok a1)]
          show rNums ts ts.length [n1] (i + 1 + 1 + 1) = _
          have := rNums_ok (n2 :: r) ts.length (i + 1 + 1 + 1) _ _ [n1] 0 _ (by rw [nl] at hls; simp at hls ⊢; omega) (by simpa [Nat.add_comm] using hl) a2
          rw [this, nl]
          show rok (n1 :: n2 :: r, _) = _
          have e : i + 1 + 1 + 1 + 2 * (n2 :: r).length + 1 = i + 1 + 1 + (2 * (n1 :: n2 :: r).length - 1) + 1 := by simp only [List.length_cons]; omega
          rw [e]
      refine ⟨dx + 1, by omega, ?_⟩
      show atT ts i _ = _
      rw [atT_eq h1]
      show (if decide (wTable = wPick) = true then _ else if decide (wTable = wTable) = true then rTable (rDeep ts ns fs K) ts _ i else _) = _
      rw [if_neg (by decide), if_pos (by decide)]
      unfold rTable
      rw [bnd_ok (rSign_ok h3), bnd_ok hnum, bnd_ok (rSign_ok h9), bnd_ok dx2, bnd_ok (rSign_ok h13), bnd_ok (rChk_ok (by show dx + 1 ≤ 60; omega))]
      have el : i + 1 + 1 + (numsP l).length + 1 + 1 + x.2.length + 1 = i + ((0, Tk.word wTable) :: (1, Tk.sign [91]) :: (numsP l ++ (0, Tk.sign [93]) :: (1, Tk.sign [40]) :: (x.2 ++ [(0, Tk.sign [41])]))).length := by
        simp only [List.length_cons, List.length_append, List.length_nil]
        omega
      rw [← el]
end

/-! ### lengths, shapes, texts -/
def lenB : Nat → Nat
  | 0 => 0
  | k + 1 => 3 * lenB k + 200
theorem lenB_mono (k : Nat) : lenB k ≤ lenB (k + 1) := by
  show lenB k ≤ 3 * lenB k + 200
  omega
theorem flat_bump_len {x : List Pc} : (flat (bump x)).length ≤ (flat x).length + 1 := by
  cases x with
  | nil => exact Nat.zero_le _
  | cons p x => rw [flat_bump (List.cons_ne_nil _ _)]; exact Nat.le_refl _
theorem joinP_lenB {B : Nat} : ∀ {cs : List (List Pc)}, (∀ c ∈ cs, (flat c).length ≤ B) → (flat (joinP cs)).length ≤ cs.length * (B + 4)
  | [], _ => Nat.zero_le _
  | [x], h => by
    have := h x List.mem_cons_self
    show (flat x).length ≤ 1 * (B + 4)
    omega
  | x :: y :: cs, h => by
    have h1 := h x List.mem_cons_self
    have h2 := joinP_lenB (cs := y :: cs) fun c hc => h c (List.mem_cons_of_mem _ hc)
    have h3 := flat_bump_len (x := joinP (y :: cs))
    have e : flat (joinP (x :: y :: cs)) = flat x ++ (32 :: 44 :: flat (bump (joinP (y :: cs)))) := flat_app _ _
    rw [e, List.length_append, List.length_cons, List.length_cons]
    simp only [List.length_cons, Nat.add_mul] at h2 ⊢
    omega
theorem numL_l4 {n : Nat} (h : n ≤ 4095) : (TL.numL n).length ≤ 4 := TL.numL_len (n := n) (k := 4) (by decide) (by omega)
theorem numsP_len : ∀ {l : List Nat}, (∀ n ∈ l, n ≤ 4095) → (flat (numsP l)).length ≤ l.length * 6
  | [], _ => Nat.zero_le _
  | [n], h => by
    have := numL_l4 (h n List.mem_cons_self)
    show ([] ++ (TL.numL n ++ [])).length ≤ 6
    simp
    omega
  | n :: m :: l, h => by
    have h1 := numL_l4 (h n List.mem_cons_self)
    have h2 := numsP_len (l := m :: l) fun c hc => h c (List.mem_cons_of_mem _ hc)
    have h3 := flat_bump_len (x := numsP (m :: l))
    show ([] ++ (TL.numL n ++ ([] ++ ([44] ++ flat (bump (numsP (m :: l))))))).length ≤ _
    simp only [List.length_cons, List.length_append, List.length_nil] at h2 ⊢
    omega
theorem fl_cons (b : Nat) (t : Tk) (ps : List Pc) : (flat ((b, t) :: ps)).length = b + (tkC t).length + (flat ps).length := by
  show (List.replicate b 32 ++ (tkC t ++ flat ps)).length = _
  rw [List.length_append, List.length_append, List.length_replicate]
  omega
theorem fl_app (x y : List Pc) : (flat (x ++ y)).length = (flat x).length + (flat y).length := by rw [flat_app, List.length_append]
theorem fl_nil : (flat []).length = 0 := rfl
theorem Wr.len {ws : List Cs} {fs : List Fun3} (W : WEnv ws fs) : ∀ {k : Nat} {d : PyData} {ps : List Pc}, Wr ws fs k d ps → (flat ps).length ≤ lenB k
  | 0, _, _, h => False.elim h
  | k + 1, d, ps, h => by
    have ih := fun {d ps} (h : Wr ws fs k d ps) => Wr.len W h
    have e : lenB (k + 1) = 3 * lenB k + 200 := rfl
    refine h.cases ?_ ?_ ?_ ?_ ?_ ?_ ?_
    · rintro n hn rfl rfl
      have := numL_l4 hn
      rw [fl_cons, fl_nil]
      show 0 + (TL.numL n).length + 0 ≤ _
      omega
    · rintro w hw rfl rfl
      have := (W.nw w hw).2
      rw [fl_cons, fl_nil]
      show 0 + w.length + 0 ≤ _
      omega
    · rintro f cs hf hl hc rfl rfl
      obtain ⟨_, w2, w3, _, _⟩ := W.nf f hf
      have hj := joinP_lenB (B := lenB k) (cs := cs.map (·.2)) fun c hc' => by
        obtain ⟨q, hq, rfl⟩ := List.mem_map.mp hc'
        exact ih (hc q hq)
      rw [List.length_map, hl] at hj
      have hm : f.2.1 * (lenB k + 4) ≤ 3 * (lenB k + 4) := Nat.mul_le_mul_right _ w3
      rw [fl_cons, fl_cons, fl_app, fl_cons, fl_nil]
      show 0 + f.1.length + (1 + 1 + ((flat (joinP (cs.map (·.2)))).length + (0 + 1 + 0))) ≤ _
      omega
    · rintro kk x y hx hy rfl rfl
      have h1 := ih hx
      have h2 := ih hy
      have h3 := flat_bump_len (x := y.2)
      have h4 : kk.cs.length ≤ 2 := by cases kk <;> decide
      rw [fl_cons, fl_app, fl_cons, fl_app, fl_cons, fl_nil]
      show 0 + 1 + ((flat x.2).length + (1 + kk.cs.length + ((flat (bump y.2)).length + (0 + 1 + 0)))) ≤ _
      omega
    · rintro x y z hx hy hz rfl rfl
      have h1 := ih hx
      have h2 := ih hy
      have h3 := ih hz
      have h4 := flat_bump_len (x := x.2)
      rw [fl_cons, fl_cons, fl_app, fl_cons, fl_app, fl_cons, fl_app, fl_cons, fl_nil]
      show 0 + 4 + (0 + 1 + ((flat (bump x.2)).length + (0 + 1 + ((flat y.2).length + (0 + 1 + ((flat z.2).length + (1 + 1 + 0))))))) ≤ _
      omega
    · rintro l n x hn hx rfl rfl
      have h1 := ih hx
      have h2 := numL_l4 hn
      have h4 : (shC l).length ≤ 2 := by cases l <;> decide
      rw [fl_cons, fl_app, fl_cons, fl_cons, fl_cons, fl_nil]
      show 0 + 1 + ((flat x.2).length + (1 + (shC l).length + (1 + (TL.numL n).length + (0 + 1 + 0)))) ≤ _
      omega
    · rintro l x hl hn hx rfl rfl
      have h1 := ih hx
      have h2 := numsP_len hn
      have h3 : l.length ≤ 16 := by
        simp at hl
        omega
      rw [fl_cons, fl_cons, fl_app, fl_cons, fl_cons, fl_app, fl_cons, fl_nil]
      show 0 + 5 + (1 + 1 + ((flat (numsP l)).length + (0 + 1 + (1 + 1 + ((flat x.2).length + (0 + 1 + 0)))))) ≤ _
      omega
theorem lay_i {i : Int} {n : Nat} : (PyData.int i).canLay0 = true ∧ (PyData.int i).depth ≤ n := ⟨rfl, Nat.zero_le _⟩
theorem lay_s {x : Str} {n : Nat} (h : PyData.strOk x = true) : (PyData.str x).canLay0 = true ∧ (PyData.str x).depth ≤ n := ⟨h, Nat.zero_le _⟩
theorem lay_up {d : PyData} {m n : Nat} (h : d.canLay0 = true ∧ d.depth ≤ m) (e : m ≤ n) : d.canLay0 = true ∧ d.depth ≤ n := ⟨h.1, Nat.le_trans h.2 e⟩
theorem okS {w : Cs} (h : w.all alnB = true) : PyData.strOk (S w) = true := by
  unfold PyData.strOk
  rw [Array.all_eq_true']
  intro c hc
  have : alnB c = true := List.all_eq_true.mp h c (by simpa using hc)
  unfold alnB lowB digB at this
  simp at this
  exact decide_eq_true (by omega)
theorem okTk_nm {w : Cs} (h : okTk (.name w) = true) : w.all alnB = true := by
  have h : (lowB (w.headD 0) && w.all alnB && decide (w.length ≤ 8) && !kws.contains w) = true := h
  simp only [Bool.and_eq_true] at h
  exact h.1.1.2
theorem lay_dOp {ks ds : List PyData} {n : Nat} (hn : 3 ≤ n) (hk : ∀ d ∈ ks, d.canLay0 = true ∧ d.depth ≤ 1) (hd : ∀ d ∈ ds, d.canLay0 = true ∧ d.depth ≤ n) : (dOp ks ds).canLay0 = true ∧ (dOp ks ds).depth ≤ n + 2 := by
  refine lay_tup (n := n + 1) fun d hm => ?_
  simp only [List.mem_cons, List.not_mem_nil, or_false] at hm
  rcases hm with rfl | rfl | rfl
  · exact lay_s (by decide +kernel)
  · exact lay_up (lay_tup hk) (by omega)
  · exact lay_tup hd
theorem Wr.lay {ws : List Cs} {fs : List Fun3} (W : WEnv ws fs) : ∀ {k : Nat} {d : PyData} {ps : List Pc}, Wr ws fs k d ps → d.canLay0 = true ∧ d.depth ≤ 3 * k + 2
  | 0, _, _, h => False.elim h
  | k + 1, d, ps, h => by
    have ih := fun {d ps} (h : Wr ws fs k d ps) => Wr.lay W h
    have up : ∀ {d : PyData} {n : Nat}, n ≤ 3 * (k + 1) + 2 → d.canLay0 = true ∧ d.depth ≤ n → d.canLay0 = true ∧ d.depth ≤ 3 * (k + 1) + 2 := fun e h => lay_up h e
    refine h.cases ?_ ?_ ?_ ?_ ?_ ?_ ?_
    · rintro n hn rfl rfl
      refine up (n := 1) (by omega) (lay_tup (n := 0) fun d hm => ?_)
      simp only [List.mem_cons, List.not_mem_nil, or_false] at hm
      rcases hm with rfl | rfl
      · exact lay_s (by decide +kernel)
      · exact lay_i
    · rintro w hw rfl rfl
      refine up (n := 1) (by omega) (lay_tup (n := 0) fun d hm => ?_)
      simp only [List.mem_cons, List.not_mem_nil, or_false] at hm
      rcases hm with rfl | rfl
      · exact lay_s (by decide +kernel)
      · exact lay_s (okS (okTk_nm (W.nw w hw).1))
    · rintro f cs hf hl hc rfl rfl
      refine up (n := 3 * k + 2 + 1 + 1) (by omega) (lay_tup fun d hm => ?_)
      simp only [List.mem_cons, List.not_mem_nil, or_false] at hm
      rcases hm with rfl | rfl | rfl
      · exact lay_s (by decide +kernel)
      · exact lay_s (okS (okTk_nm (W.nf f hf).1))
      · refine lay_tup fun d hm => ?_
        obtain ⟨q, hq, rfl⟩ := List.mem_map.mp hm
        exact ih (hc q hq)
    · rintro kk x y hx hy rfl rfl
      refine up (n := 3 * k + 3 + 2) (by omega) (lay_dOp (by omega) (fun d hm => ?_) fun d hm => ?_)
      · simp only [List.mem_cons, List.not_mem_nil, or_false] at hm
        subst hm
        exact lay_s (by cases kk <;> decide +kernel)
      · simp only [List.mem_cons, List.not_mem_nil, or_false] at hm
        rcases hm with rfl | rfl
        · exact lay_up (ih hx) (by omega)
        · exact lay_up (ih hy) (by omega)
    · rintro x y z hx hy hz rfl rfl
      refine up (n := 3 * k + 3 + 2) (by omega) (lay_dOp (by omega) (fun d hm => ?_) fun d hm => ?_)
      · simp only [List.mem_cons, List.not_mem_nil, or_false] at hm
        subst hm
        exact lay_s (by decide +kernel)
      · simp only [List.mem_cons, List.not_mem_nil, or_false] at hm
        rcases hm with rfl | rfl | rfl
        · exact lay_up (ih hx) (by omega)
        · exact lay_up (ih hy) (by omega)
        · exact lay_up (ih hz) (by omega)
    · rintro l n x hn hx rfl rfl
      refine up (n := 3 * k + 3 + 2) (by omega) (lay_dOp (by omega) (fun d hm => ?_) fun d hm => ?_)
      · simp only [List.mem_cons, List.not_mem_nil, or_false] at hm
        rcases hm with rfl | rfl
        · exact lay_s (by cases l <;> (show PyData.strOk (shS _) = true) <;> decide +kernel)
        · exact lay_i
      · simp only [List.mem_cons, List.not_mem_nil, or_false] at hm
        subst hm
        exact lay_up (ih hx) (by omega)
    · rintro l x hl hn hx rfl rfl
      refine up (n := 3 * k + 3 + 2) (by omega) (lay_dOp (by omega) (fun d hm => ?_) fun d hm => ?_)
      · simp only [List.mem_cons, List.not_mem_nil, or_false] at hm
        rcases hm with rfl | rfl
        · exact lay_s (by decide +kernel)
        · refine lay_tup (n := 0) fun d hm => ?_
          obtain ⟨q, hq, rfl⟩ := List.mem_map.mp hm
          exact lay_i
      · simp only [List.mem_cons, List.not_mem_nil, or_false] at hm
        subst hm
        exact lay_up (ih hx) (by omega)
/-- texts put together -/
theorem join_flat : ∀ {cs : List (List Pc)}, (∀ c ∈ cs, c ≠ []) → TL.joinL [32, 44, 32] (cs.map flat) = flat (joinP cs)
  | [], _ => rfl
  | [_], _ => rfl
  | x :: y :: cs, h => by
    have ih := join_flat (cs := y :: cs) fun c hc => h c (List.mem_cons_of_mem _ hc)
    show flat x ++ ([32, 44, 32] ++ TL.joinL [32, 44, 32] ((y :: cs).map flat)) = flat (x ++ (1, .sign [44]) :: bump (joinP (y :: cs)))
    rw [ih, flat_app]
    show _ = flat x ++ (32 :: 44 :: flat (bump (joinP (y :: cs))))
    rw [flat_bump (joinP_ne (List.cons_ne_nil _ _) fun c hc => h c (List.mem_cons_of_mem _ hc))]
    rfl
theorem join_nums : ∀ l : List Nat, TL.joinL [44, 32] (l.map TL.numL) = flat (numsP l)
  | [] => rfl
  | [n] => by show TL.numL n = [] ++ (TL.numL n ++ []); simp
  | n :: m :: l => by
    have ih := join_nums (m :: l)
    show TL.numL n ++ ([44, 32] ++ TL.joinL [44, 32] ((m :: l).map TL.numL)) = [] ++ (TL.numL n ++ ([] ++ ([44] ++ flat (bump (numsP (m :: l))))))
    rw [ih, flat_bump (numsP_ne (List.cons_ne_nil _ _))]
    rfl
theorem At.tupI {H : Hp} {v : V} {ds : List PyData} (h : At H v (.tuple ds)) : ∃ a xs, v = .ref a ∧ H a = some (.tup xs) ∧ AtAll H xs ds := by
  cases h with
  | tup h1 h2 => exact ⟨_, _, rfl, h1, h2⟩
theorem At.strI {H : Hp} {v : V} {x : Str} (h : At H v (.str x)) : v = .str x := by cases h; rfl
theorem At.intI {H : Hp} {v : V} {x : Int} (h : At H v (.int x)) : v = .int x := by cases h; rfl
theorem AtAll.consI {H : Hp} {vs : List V} {d : PyData} {ds : List PyData} (h : AtAll H vs (d :: ds)) : ∃ v r, vs = v :: r ∧ At H v d ∧ AtAll H r ds := by
  cases h with
  | cons h1 h2 => exact ⟨_, _, rfl, h1, h2⟩
theorem AtAll.nilI {H : Hp} {vs : List V} (h : AtAll H vs []) : vs = [] := by cases h; rfl
theorem at1 {H : Hp} {vs : List V} {d : PyData} (h : AtAll H vs [d]) : ∃ x, vs = [x] ∧ At H x d := by
  obtain ⟨v, r, rfl, h1, h2⟩ := h.consI
  cases h2.nilI
  exact ⟨v, rfl, h1⟩
theorem at2 {H : Hp} {vs : List V} {d e : PyData} (h : AtAll H vs [d, e]) : ∃ x y, vs = [x, y] ∧ At H x d ∧ At H y e := by
  obtain ⟨v, r, rfl, h1, h2⟩ := h.consI
  obtain ⟨y, rfl, h3⟩ := at1 h2
  exact ⟨v, y, rfl, h1, h3⟩
theorem at3 {H : Hp} {vs : List V} {d e f : PyData} (h : AtAll H vs [d, e, f]) : ∃ x y z, vs = [x, y, z] ∧ At H x d ∧ At H y e ∧ At H z f := by
  obtain ⟨v, r, rfl, h1, h2⟩ := h.consI
  obtain ⟨y, z, rfl, h3, h4⟩ := at2 h2
  exact ⟨v, y, z, rfl, h1, h3, h4⟩
theorem num_str (n : Nat) : (toString ((n : Nat) : Int) : Str) = S (TL.numL n) := SX.num_S n
theorem log_ok {n : Nat} (h : n ≤ 4095) : n.log2 < 1920 := by
  by_cases h0 : n = 0
  · rw [h0]; decide
  · exact Nat.lt_of_lt_of_le ((Nat.log2_lt h0).mpr (show n < 2 ^ 12 by omega)) (by decide)
theorem sum_le {B : Nat} : ∀ {l : List Str}, (∀ x ∈ l, x.length ≤ B) → (l.map (·.length)).sum ≤ l.length * B
  | [], _ => Nat.zero_le _
  | x :: l, h => by
    have h1 := h x List.mem_cons_self
    have h2 := sum_le (l := l) fun y hy => h y (List.mem_cons_of_mem _ hy)
    rw [List.map_cons, List.sum_cons, List.length_cons, Nat.add_mul]
    omega
def txts (cs : List Ch) : List Str := cs.map fun c => S (flat c.2)
theorem txts_S (cs : List Ch) : txts cs = (cs.map fun c => flat c.2).map S := by
  unfold txts
  rw [List.map_map]
  rfl
theorem lenB4 {k : Nat} (h : k ≤ 4) : lenB k ≤ 8000 := by
  have : lenB k ≤ lenB 4 := by
    rcases (show k = 0 ∨ k = 1 ∨ k = 2 ∨ k = 3 ∨ k = 4 by omega) with rfl | rfl | rfl | rfl | rfl <;> decide
  exact this
theorem txts_len {ws : List Cs} {fs : List Fun3} {k : Nat} (W : WEnv ws fs) (hk : k ≤ 4) {cs : List Ch} (hc : ∀ c ∈ cs, Wr ws fs k c.1 c.2) : ((txts cs).map (·.length)).sum ≤ cs.length * 8000 := by
  have := sum_le (B := 8000) (l := txts cs) fun x hx => by
    obtain ⟨c, h1, rfl⟩ := List.mem_map.mp hx
    rw [SX.S_len]
    exact Nat.le_trans ((hc c h1).len W) (lenB4 hk)
  unfold txts at this ⊢
  rwa [List.length_map] at this
theorem litc : (Str.ofString " , " : Str) = S [32, 44, 32] := by decide +kernel
theorem litp : (Str.ofString " (" : Str) = S [32, 40] := by decide +kernel
theorem lits : (Str.ofString " " : Str) = S [32] := by decide +kernel
theorem lito : (Str.ofString "(" : Str) = S [40] := by decide +kernel
theorem litpk : (Str.ofString "pick( " : Str) = S [112, 105, 99, 107, 40, 32] := by decide +kernel
theorem litpe : (Str.ofString " )" : Str) = S [32, 41] := by decide +kernel
theorem litk : (Str.ofString "," : Str) = S [44] := by decide +kernel
theorem litt : (Str.ofString "table [" : Str) = S [116, 97, 98, 108, 101, 32, 91] := by decide +kernel
theorem litn : (Str.ofString ", " : Str) = S [44, 32] := by decide +kernel
theorem litb : (Str.ofString "] (" : Str) = S [93, 32, 40] := by decide +kernel
theorem litq : (Str.ofString ")" : Str) = S [41] := by decide +kernel
section
variable {P : Program} {w : World} {K : PySem.W.Frag} {mg : Str → Option Value} {base : Heap} {a : Ad}
def spText (k : Nat) : Sp := fun vs H Q _ => ∃ (v : V) (ws : List Cs) (fs : List Fun3) (d : PyData) (ps : List Pc), vs = [v] ∧ WEnv ws fs ∧ Wr ws fs k d ps ∧ At H v d ∧ ∀ H', Evl.Ex H H' → Q (.str (S (flat ps))) H'
theorem inner_ok {ws : List Cs} {fs : List Fun3} {k : Nat} {H : Hp} {r : Addr} {rs : List V} {cs : List Ch} {Q : VK} {o0 o1 o2 o3 o4 : Option V} (W : WEnv ws fs) (hr : H r = some (.tup rs)) (hx : AtAll H rs (cs.map (·.1))) (hc : ∀ c ∈ cs, Wr ws fs k c.1 c.2) (hl : cs.length ≤ 3)
    (z : ∀ D H', Evl.Ex H H' → H' D = some (.lst ((txts cs).map V.str)) → Q (.ref D) H') : LcG (Itt K r) (gName 3) tYes (tCall (spText k) [] E0 (tCons (tVar 3) tNil)) [3] [o0, o1, o2, o3, o4] Q H := by
  have hlen := hx.len
  rw [List.length_map] at hlen
  refine lcg_tup (xs := rs) (fun D i H' => Evl.Ex H H' ∧ H' D = some (.lst ((txts (cs.take i)).map V.str))) (fun D hD => ⟨Evl.Ex.new hD, upd_same⟩) (fun D i H' _ _ h => SqT.of (h.1 _ _ hr)) (fun D i x H' hD hi h => ?_) (fun D H' hD h => ?_)
  · obtain ⟨e1, hy⟩ := h
    have hi2 := (List.getElem?_eq_some_iff.mp hi).1
    have hi3 : i < cs.length := by omega
    obtain ⟨d, hd1, hd2⟩ := hx.at hi
    rw [List.getElem?_map, List.getElem?_eq_getElem hi3] at hd1
    cases hd1
    walk_at "sm"
    refine ⟨x, ws, fs, _, cs[i].2, rfl, W, hc _ (List.getElem_mem hi3), hd2.ex e1, fun H2 e2 => ⟨_, e2 _ _ hy, ?_, (e1.trans e2).mut hD, ?_⟩⟩
    · rw [List.length_map]
      refine Nat.lt_of_le_of_lt (show _ ≤ 3 from ?_) (by decide)
      unfold txts
      rw [List.length_map, List.length_take]
      omega
    · rw [upd_same]
      have et : txts (cs.take (i + 1)) = txts (cs.take i) ++ [S (flat cs[i].2)] := by
        unfold txts
        rw [List.take_add_one, List.getElem?_eq_getElem hi3, List.map_append]
        rfl
      rw [et, List.map_append]
      rfl
  · obtain ⟨e1, hy⟩ := h
    rw [hlen, List.take_length] at hy
    exact z D H' e1 hy
theorem nums_ok {l : List Nat} {H : Hp} {r : Addr} {rs : List V} {Q : VK} {o0 o1 o2 o3 o4 : Option V} (hn : ∀ n ∈ l, n ≤ 4095) (hr : H r = some (.tup rs)) (hx : AtAll H rs (l.map fun n => PyData.int (n : Nat))) (hl : l.length ≤ 1000)
    (z : ∀ D H', Evl.Ex H H' → H' D = some (.lst ((l.map fun n => S (TL.numL n)).map V.str)) → Q (.ref D) H') :
    LcG (Itt K r) (gName 4) tYes (tCB (fun xs H Q => ∃ i, xs = [V.int i] ∧ i.natAbs.log2 < 1920 ∧ Q (V.str (Str.ofString (toString i))) H) (tCons (tVar 4) tNil)) [4] [o0, o1, o2, o3, o4] Q H := by
  have hlen := hx.len
  rw [List.length_map] at hlen
  refine lcg_tup (xs := rs) (fun D i H' => Evl.Ex H H' ∧ H' D = some (.lst (((l.take i).map fun n => S (TL.numL n)).map V.str))) (fun D hD => ⟨Evl.Ex.new hD, upd_same⟩) (fun D i H' _ _ h => SqT.of (h.1 _ _ hr)) (fun D i x H' hD hi h => ?_) (fun D H' hD h => ?_)
  · obtain ⟨e1, hy⟩ := h
    have hi2 := (List.getElem?_eq_some_iff.mp hi).1
    have hi3 : i < l.length := by omega
    obtain ⟨d, hd1, hd2⟩ := hx.at hi
    rw [List.getElem?_map, List.getElem?_eq_getElem hi3] at hd1
    cases hd1
    cases hd2.intI
    walk_at "sm"
    refine ⟨log_ok (hn _ (List.getElem_mem hi3)), _, hy, ?_, e1.mut hD, ?_⟩
    · rw [List.length_map, List.length_map, List.length_take]
      exact Nat.lt_of_le_of_lt (show _ ≤ 1000 by omega) (by decide)
    · rw [upd_same]
      have et : (l.take (i + 1)) = (l.take i) ++ [l[i]] := by rw [List.take_add_one, List.getElem?_eq_getElem hi3]; rfl
      rw [et, List.map_append, List.map_append, SX.num_S]
      rfl
  · obtain ⟨e1, hy⟩ := h
    rw [hlen, List.take_length] at hy
    exact z D H' e1 hy
theorem text_step (T : Txt K mg a) (k : Nat) (hk : k ≤ 4) (ok_law_expression_text : Txt K mg a → FnOk P w K mg base CX0 (k + 1) a.f_law_expression_text a.d_law_expression_text ["_law_part"] (spText k)) :
    FnOk P w K mg base CX0 (k + 1 + 1) a.f_law_expression_text a.d_law_expression_text ["_law_part"] (spText (k + 1)) := by
  refine T.F_law_expression_text.ok sc_law_expression_text (fun vs H Q E h => ?_) (fun cdv A outer s H vs Q E hr h => ?_)
  · obtain ⟨_, _, _, _, _, rfl, _⟩ := h
    rfl
  · obtain ⟨v, ws, fs, d, ps, rfl, W, hw, hv, z⟩ := h
    refine ⟨_, (pss_cons (ps_if (PW.pt (pw_or (pt_cmpR op_eq (pe_ix ix_tup (pv 0) pe_int (fun _ _ => rfl)) pe_str (nomark _)) (pw_or1 (pt_cmpR op_eq (pe_ix ix_tup (pv 0) pe_int (fun _ _ => rfl)) pe_str (nomark _))))) (pss_one (ps_ret (pe_callTy (L2.CallR.or call_str_int SkE.call_str_str) (by rfl) T.z_str (by decide +kernel) (pa_cons (pe_ix ix_tup (pv 0) pe_int (fun _ _ => rfl)) pa_nil))))
    pss_nil)
  (pss_cons (ps_setLc (i := 1) (own := [("_law_other", 3)]) (g := gName 3) (tt := tYes) rfl sc_law_expression_text.nd rfl rfl (sw_true rfl rfl rfl (by decide +kernel)) (pi_tup (pe_ix ix_tup (pv 0) pe_int (fun _ _ => rfl))) (blkOk_by (own := [("_law_other", 3)]) (N := ["_law_part", "_law_inner", "_law_head", "_law_other", "_law_number"]) (sc := defScope s_law_expression_text) (by decide +kernel)) (fun _ _ _ _ _ => pg_name (i := 3) sc_law_expression_text.nd rfl (Or.inl rfl)) (fun _ _ _ _ _ => pts_nil) (fun _ _ _ _ _ => (pe_call (ok_law_expression_text T) (hr.mono (by omega)) rfl T.m_law_expression_text T.F_law_expression_text.kp T.b_law_expression_text .nil pass0 (pa_cons (pv 3) pa_nil))))
  (pss_cons (ps_if (pt_cmpR op_eq (pe_ix ix_tup (pv 0) pe_int (fun _ _ => rfl)) pe_str (nomark _)) (pss_one (ps_ret (pe_op op_add_str (pe_op op_add_str (pe_op op_add_str (pe_ix ix_tup (pv 0) pe_int (fun _ _ => rfl)) pe_str) (pe_join pe_str (pv 1))) pe_str)))
    pss_nil)
  (pss_cons (ps_set (i := 2) sc_law_expression_text.nd rfl (by first | exact Or.inl rfl | exact Or.inr rfl) (pe_ix ix_tup (pe_ix ix_tup (pv 0) pe_int (fun _ _ => rfl)) pe_int (fun _ _ => rfl)))
  (pss_cons (ps_if (pt_cmpR op_eq (pv 2) pe_str (nomark _)) (pss_one (ps_ret (pe_op op_add_str (pe_op op_add_str pe_str (pe_join pe_str (pv 1))) pe_str)))
    pss_nil)
  (pss_cons (ps_if (pt_cmpR op_eq (pv 2) pe_str (nomark _)) (pss_one (ps_ret (pe_op op_add_str (pe_op op_add_str (pe_op op_add_str (pe_op op_add_str pe_str (pe_join pe_str (pe_lc (own := [("_law_number", 4)]) (g := gName 4) (tt := tYes) rfl sc_law_expression_text.nd (pi_tup (pe_ix ix_tup (pe_ix ix_tup (pv 0) pe_int (fun _ _ => rfl)) pe_int (fun _ _ => rfl))) (blkOk_by (own := [("_law_number", 4)]) (N := ["_law_part", "_law_inner", "_law_head", "_law_other", "_law_number"]) (sc := defScope s_law_expression_text) (by decide +kernel)) (fun _ _ _ _ _ => pg_name (i := 4) sc_law_expression_text.nd rfl (Or.inl rfl)) (fun _ _ _ _ _ => pts_nil) (fun _ _ _ _ _ => (pe_callTy call_str_int (by rfl) T.z_str (by decide +kernel) (pa_cons (pv 4) pa_nil)))))) pe_str) (pe_ix ix_list (pv 1) pe_int (fun _ _ => rfl))) pe_str)))
    pss_nil)
  (pss_cons (ps_if (PW.pt (pw_or (pt_cmpR op_eq (pv 2) pe_str (nomark _)) (pw_or1 (pt_cmpR op_eq (pv 2) pe_str (nomark _))))) (pss_one (ps_ret (pe_op op_add_str (pe_op op_add_str (pe_op op_add_str (pe_op op_add_str (pe_op op_add_str (pe_op op_add_str pe_str (pe_ix ix_list (pv 1) pe_int (fun _ _ => rfl))) pe_str) (pv 2)) pe_str) (pe_callTy call_str_int (by rfl) T.z_str (by decide +kernel) (pa_cons (pe_ix ix_tup (pe_ix ix_tup (pv 0) pe_int (fun _ _ => rfl)) pe_int (fun _ _ => rfl)) pa_nil))) pe_str)))
    pss_nil)
  (pss_one (ps_ret (pe_op op_add_str (pe_op op_add_str (pe_op op_add_str (pe_op op_add_str (pe_op op_add_str (pe_op op_add_str pe_str (pe_ix ix_list (pv 1) pe_int (fun _ _ => rfl))) pe_str) (pv 2)) pe_str) (pe_ix ix_list (pv 1) pe_int (fun _ _ => rfl))) pe_str)))))))))), ?_⟩
    walk_at "sm"
    refine hw.cases ?_ ?_ ?_ ?_ ?_ ?_ ?_
    · rintro n hn rfl rfl
      obtain ⟨p, xs, rfl, hp, hx⟩ := hv.tupI
      obtain ⟨x, y, rfl, x1, y1⟩ := at2 hx
      cases x1.strI; cases y1.intI
      refine ix0 hp ⟨rfl, iteP rfl (ix1 hp (.inl ⟨_, rfl, ?_⟩))⟩
      refine ⟨by rw [show ((n : Int)).natAbs = n from rfl]; exact log_ok hn, ?_⟩
      have e : (Str.ofString (toString ((n : Nat) : Int)) : Str) = S (flat [(0, .num n)]) := by
        rw [SX.num_S]
        show S (TL.numL n) = S ([] ++ (TL.numL n ++ []))
        simp
      rw [e]
      exact z H (Evl.Ex.refl H)
    · rintro wd hw rfl rfl
      obtain ⟨p, xs, rfl, hp, hx⟩ := hv.tupI
      obtain ⟨x, y, rfl, x1, y1⟩ := at2 hx
      cases x1.strI; cases y1.strI
      refine ix0 hp ⟨rfl, iteN (by decide +kernel) (ix0 hp ⟨rfl, iteP rfl (ix1 hp (.inr ?_))⟩)⟩
      have e : S (flat [(0, .name wd)]) = S wd := by
        show S ([] ++ (wd ++ [])) = _
        simp
      have z2 := z H (Evl.Ex.refl H)
      rw [e] at z2
      exact ⟨_, rfl, z2⟩
    · rintro f cs hf hl hc rfl rfl
      obtain ⟨p, xs, rfl, hp, hx⟩ := hv.tupI
      obtain ⟨x, y, q, rfl, x1, y1, q1⟩ := at3 hx
      cases x1.strI; cases y1.strI
      obtain ⟨r, rs, rfl, hr1, hr2⟩ := q1.tupI
      obtain ⟨_, w2, w3, _, _⟩ := W.nf f hf
      have hls := txts_len W hk hc
      refine ix0 hp ⟨rfl, iteN (by decide +kernel) (ix0 hp ⟨rfl, iteN (by decide +kernel) (ix2 hp ⟨r, rfl, ⟨_, SqT.of hr1⟩, inner_ok W hr1 hr2 hc (by omega) fun D H1 e1 hD => ?_⟩)⟩)⟩
      have hp1 := e1 _ _ hp
      have hjl := ((joinP_lenB (B := 8000) (cs := cs.map (·.2)) fun c hc' => by
        obtain ⟨q, hq, rfl⟩ := List.mem_map.mp hc'
        exact Nat.le_trans ((hc q hq).len W) (lenB4 hk)))
      rw [List.length_map] at hjl
      have hj : Txt.join (Str.ofString " , ") (txts cs) = S (flat (joinP (cs.map (·.2)))) := by
        rw [litc, txts_S, SX.join_S]
        have := join_flat (cs := cs.map (·.2)) fun c hc' => by
          obtain ⟨q, hq, rfl⟩ := List.mem_map.mp hc'
          exact (hc q hq).ne
        rw [List.map_map] at this
        rw [← this]
        rfl
      have hm : cs.length * 8004 ≤ 3 * 8004 := Nat.mul_le_mul_right _ (by omega)
      refine ix0 hp1 ⟨rfl, iteP rfl (ix1 hp1 ⟨_, rfl, ?_, ⟨_, rfl⟩, D, rfl, txts cs, .inl (SqL.of hD), ?_, ?_, ?_, ?_⟩)⟩
      · rw [litp, SX.S_len, SX.S_len]
        exact sz (by show f.1.length + 2 ≤ 100000; omega)
      · rw [litc, SX.S_len]
        refine Nat.le_trans (Nat.add_le_add hls (Nat.le_refl _)) ?_
        show cs.length * 8000 + (txts cs).length * 3 ≤ _
        rw [show (txts cs).length = cs.length from List.length_map ..]
        omega
      · rw [hj, litp, SX.S_cat, SX.S_len, SX.S_len, List.length_append]
        exact sz (by show f.1.length + 2 + _ ≤ 100000; omega)
      · rw [hj, litp, litq, SX.S_cat, SX.S_cat, SX.S_len, SX.S_len, List.length_append, List.length_append]
        exact sz (by show f.1.length + 2 + _ + 1 ≤ 100000; omega)
      · rw [hj, litp, litq, SX.S_cat, SX.S_cat, SX.S_cat]
        have z2 := z H1 e1
        have ef : flat ((0, Tk.name f.1) :: (1, Tk.sign [40]) :: (joinP (cs.map (·.2)) ++ [(0, Tk.sign [41])])) = ((f.1 ++ [32, 40]) ++ flat (joinP (cs.map (·.2)))) ++ [41] := by
          show [] ++ (f.1 ++ ([32] ++ ([40] ++ flat (joinP (cs.map (·.2)) ++ [(0, Tk.sign [41])])))) = _
          rw [flat_app]
          simp [flat, tkC]
        rw [ef] at z2
        exact z2
    · rintro kk x y hx hy rfl rfl
      obtain ⟨p, xs, rfl, hp, hxs⟩ := hv.tupI
      obtain ⟨u, v, q, rfl, u1, v1, q1⟩ := at3 hxs
      cases u1.strI
      obtain ⟨kp, ks, rfl, hk1, hk2⟩ := v1.tupI
      obtain ⟨kx, rfl, kx1⟩ := at1 hk2
      cases kx1.strI
      obtain ⟨r, rs, rfl, hr1, hr2⟩ := q1.tupI
      have l1 := hx.len W
      have l2 := hy.len W
      have l3 := lenB4 hk
      have l4 : kk.cs.length ≤ 2 := by cases kk <;> decide
      refine ix0 hp ⟨rfl, iteN (by decide +kernel) (ix0 hp ⟨rfl, iteN (by decide +kernel) (ix2 hp ⟨r, rfl, ⟨_, SqT.of hr1⟩, inner_ok (cs := [x, y]) W hr1 hr2 (by intro c hc; simp at hc; rcases hc with rfl | rfl <;> assumption) (by simp) fun D H1 e1 hD => ?_⟩)⟩)⟩
      have hp1 := e1 _ _ hp
      have hk3 := e1 _ _ hk1
      refine ix0 hp1 ⟨rfl, iteN (by decide +kernel) (ix1 hp1 (ix0 hk3 ⟨rfl, iteN (by cases kk <;> decide +kernel) ⟨rfl, iteN (by cases kk <;> decide +kernel) ?_⟩⟩))⟩
      have hN : ∀ t : Str, t = "<<" ∨ t = ">>" → ¬ V.str kk.sg = V.str t := by
        intro t ht
        rcases ht with rfl | rfl <;> cases kk <;> decide +kernel
      refine ⟨rfl, iteN (hN _ (.inl rfl)) ⟨rfl, iteN (hN _ (.inr rfl)) ?_⟩⟩
      rw [← Pk.cs_S kk]
      refine ixl (SqL.of hD) (atI_nat (j := 0) rfl) ⟨_, rfl, ?_, ?_, _, rfl, ?_, ?_, ixl (SqL.of hD) (atI_nat (j := 1) rfl) ⟨_, rfl, ?_, ?_, ?_⟩⟩
      · simp only [lito, lits, litq, SX.S_cat, SX.S_len, List.length_append, List.length_cons, List.length_nil]; exact sz (by omega)
      · simp only [lito, lits, litq, SX.S_cat, SX.S_len, List.length_append, List.length_cons, List.length_nil]; exact sz (by omega)
      · simp only [lito, lits, litq, SX.S_cat, SX.S_len, List.length_append, List.length_cons, List.length_nil]; exact sz (by omega)
      · simp only [lito, lits, litq, SX.S_cat, SX.S_len, List.length_append, List.length_cons, List.length_nil]; exact sz (by omega)
      · simp only [lito, lits, litq, SX.S_cat, SX.S_len, List.length_append, List.length_cons, List.length_nil]; exact sz (by omega)
      · simp only [lito, lits, litq, SX.S_cat, SX.S_len, List.length_append, List.length_cons, List.length_nil]; exact sz (by omega)
      · have z2 := z H1 e1
        have ef : flat ((0, Tk.sign [40]) :: (x.2 ++ (1, Tk.sign kk.cs) :: (bump y.2 ++ [(0, Tk.sign [41])]))) = [40] ++ flat x.2 ++ [32] ++ kk.cs ++ [32] ++ flat y.2 ++ [41] := by
          show [] ++ ([40] ++ flat (x.2 ++ (1, Tk.sign kk.cs) :: (bump y.2 ++ [(0, Tk.sign [41])]))) = _
          rw [flat_app]
          show [] ++ ([40] ++ (flat x.2 ++ ([32] ++ (kk.cs ++ flat (bump y.2 ++ [(0, Tk.sign [41])]))))) = _
          rw [flat_app, flat_bump hy.ne]
          simp [flat, tkC]
        rw [ef] at z2
        simp only [lito, lits, litq, SX.S_cat]
        exact z2
    · rintro x y z' hx hy hz rfl rfl
      obtain ⟨p, xs, rfl, hp, hxs⟩ := hv.tupI
      obtain ⟨u, v, q, rfl, u1, v1, q1⟩ := at3 hxs
      cases u1.strI
      obtain ⟨kp, ks, rfl, hk1, hk2⟩ := v1.tupI
      obtain ⟨kx, rfl, kx1⟩ := at1 hk2
      cases kx1.strI
      obtain ⟨r, rs, rfl, hr1, hr2⟩ := q1.tupI
      have l1 := hx.len W
      have l2 := hy.len W
      have l5 := hz.len W
      have l3 := lenB4 hk
      have hcs : ∀ c ∈ ([x, y, z'] : List Ch), Wr ws fs k c.1 c.2 := by intro c hc; simp at hc; rcases hc with rfl | rfl | rfl <;> assumption
      refine ix0 hp ⟨rfl, iteN (by decide +kernel) (ix0 hp ⟨rfl, iteN (by decide +kernel) (ix2 hp ⟨r, rfl, ⟨_, SqT.of hr1⟩, inner_ok (cs := [x, y, z']) W hr1 hr2 hcs (by simp) fun D H1 e1 hD => ?_⟩)⟩)⟩
      have hp1 := e1 _ _ hp
      have hk3 := e1 _ _ hk1
      have hj : Txt.join (Str.ofString ",") (txts [x, y, z']) = S (flat x.2 ++ ([44] ++ (flat y.2 ++ ([44] ++ flat z'.2)))) := by
        rw [litk, txts_S, SX.join_S]
        rfl
      have hls := txts_len W hk hcs
      refine ix0 hp1 ⟨rfl, iteN (by decide +kernel) (ix1 hp1 (ix0 hk3 ⟨rfl, iteP rfl ⟨⟨_, rfl⟩, D, rfl, _, .inl (SqL.of hD), ?_, ?_, ?_, ?_⟩⟩))⟩
      · rw [litk, SX.S_len]
        refine Nat.le_trans (Nat.add_le_add hls (Nat.le_refl _)) ?_
        show 3 * 8000 + 3 * 1 ≤ 16777216
        decide
      · rw [hj]
        simp only [litpk, litpe, SX.S_cat, SX.S_len, List.length_append, List.length_cons, List.length_nil]; exact sz (by omega)
      · rw [hj]
        simp only [litpk, litpe, SX.S_cat, SX.S_len, List.length_append, List.length_cons, List.length_nil]; exact sz (by omega)
      · rw [hj]
        have z2 := z H1 e1
        have ef : flat ((0, Tk.word wPick) :: (0, Tk.sign [40]) :: (bump x.2 ++ (0, Tk.sign [44]) :: (y.2 ++ (0, Tk.sign [44]) :: (z'.2 ++ [(1, Tk.sign [41])])))) = [112, 105, 99, 107, 40, 32] ++ (flat x.2 ++ ([44] ++ (flat y.2 ++ ([44] ++ flat z'.2)))) ++ [32, 41] := by
          show [] ++ (wPick ++ ([] ++ ([40] ++ flat (bump x.2 ++ (0, Tk.sign [44]) :: (y.2 ++ (0, Tk.sign [44]) :: (z'.2 ++ [(1, Tk.sign [41])])))))) = _
          rw [flat_app, flat_bump hx.ne]
          show [] ++ (wPick ++ ([] ++ ([40] ++ (32 :: flat x.2 ++ ([] ++ ([44] ++ flat (y.2 ++ (0, Tk.sign [44]) :: (z'.2 ++ [(1, Tk.sign [41])])))))))) = _
          rw [flat_app]
          show [] ++ (wPick ++ ([] ++ ([40] ++ (32 :: flat x.2 ++ ([] ++ ([44] ++ (flat y.2 ++ ([] ++ ([44] ++ flat (z'.2 ++ [(1, Tk.sign [41])]))))))))))  = _
          rw [flat_app]
          simp [flat, tkC, wPick]
        rw [ef] at z2
        simp only [litpk, litpe, SX.S_cat]
        exact z2
    · rintro l n x hn hx rfl rfl
      obtain ⟨p, xs, rfl, hp, hxs⟩ := hv.tupI
      obtain ⟨u, v, q, rfl, u1, v1, q1⟩ := at3 hxs
      cases u1.strI
      obtain ⟨kp, ks, rfl, hk1, hk2⟩ := v1.tupI
      obtain ⟨kx, ky, rfl, kx1, ky1⟩ := at2 hk2
      cases kx1.strI; cases ky1.intI
      obtain ⟨r, rs, rfl, hr1, hr2⟩ := q1.tupI
      have l1 := hx.len W
      have l3 := lenB4 hk
      have l4 : (shC l).length ≤ 2 := by cases l <;> decide
      have l6 := numL_l4 hn
      have hcs : ∀ c ∈ ([x] : List Ch), Wr ws fs k c.1 c.2 := by intro c hc; simp at hc; rcases hc with rfl; assumption
      refine ix0 hp ⟨rfl, iteN (by decide +kernel) (ix0 hp ⟨rfl, iteN (by decide +kernel) (ix2 hp ⟨r, rfl, ⟨_, SqT.of hr1⟩, inner_ok (cs := [x]) W hr1 hr2 hcs (by simp) fun D H1 e1 hD => ?_⟩)⟩)⟩
      have hp1 := e1 _ _ hp
      have hk3 := e1 _ _ hk1
      have lg := log_ok hn
      have fin : ∀ t : Str, t = S (shC l) → rIxL K (V.ref D) (V.int 0) H1 fun y H2 => ∃ x, y = V.str x ∧ (Str.ofString "(").length + x.length ≤ sizeLine ∧ (Str.ofString "(" ++ x).length + (Str.ofString " ").length ≤ sizeLine ∧
          ∃ x_1, V.str t = V.str x_1 ∧ (Str.ofString "(" ++ x ++ Str.ofString " ").length + x_1.length ≤ sizeLine ∧ (Str.ofString "(" ++ x ++ Str.ofString " " ++ x_1).length + (Str.ofString " ").length ≤ sizeLine ∧
            rIxT K (V.ref p) (V.int 1) H2 fun x_2 H1 => rIxT K x_2 (V.int 1) H1 fun x_3 H1 => ∃ i, x_3 = V.int i ∧ i.natAbs.log2 < 1920 ∧ (Str.ofString "(" ++ x ++ Str.ofString " " ++ x_1 ++ Str.ofString " ").length + (Str.ofString (toString i)).length ≤ sizeLine ∧
              (Str.ofString "(" ++ x ++ Str.ofString " " ++ x_1 ++ Str.ofString " " ++ Str.ofString (toString i)).length + (Str.ofString ")").length ≤ sizeLine ∧ Q (V.str (Str.ofString "(" ++ x ++ Str.ofString " " ++ x_1 ++ Str.ofString " " ++ Str.ofString (toString i) ++ Str.ofString ")")) H1 := by
        rintro t rfl
        refine ixl (SqL.of hD) (atI_nat (j := 0) rfl) ⟨_, rfl, ?_, ?_, _, rfl, ?_, ?_, ix1 hp1 (ix1 hk3 ⟨_, rfl, lg, ?_, ?_, ?_⟩)⟩
        · simp only [lito, lits, litq, SX.S_cat, SX.S_len, List.length_append, List.length_cons, List.length_nil]; exact sz (by omega)
        · simp only [lito, lits, litq, SX.S_cat, SX.S_len, List.length_append, List.length_cons, List.length_nil]; exact sz (by omega)
        · simp only [lito, lits, litq, SX.S_cat, SX.S_len, List.length_append, List.length_cons, List.length_nil]; exact sz (by omega)
        · simp only [lito, lits, litq, SX.S_cat, SX.S_len, List.length_append, List.length_cons, List.length_nil]; exact sz (by omega)
        · simp only [lito, lits, litq, SX.num_S, SX.S_cat, SX.S_len, List.length_append, List.length_cons, List.length_nil]; exact sz (by omega)
        · simp only [lito, lits, litq, SX.num_S, SX.S_cat, SX.S_len, List.length_append, List.length_cons, List.length_nil]; exact sz (by omega)
        · have z2 := z H1 e1
          have ef : flat ((0, Tk.sign [40]) :: (x.2 ++ [(1, Tk.sign (shC l)), (1, Tk.num n), (0, Tk.sign [41])])) = [40] ++ flat x.2 ++ [32] ++ shC l ++ [32] ++ TL.numL n ++ [41] := by
            show [] ++ ([40] ++ flat (x.2 ++ [(1, Tk.sign (shC l)), (1, Tk.num n), (0, Tk.sign [41])])) = _
            rw [flat_app]
            simp [flat, tkC]
          rw [ef] at z2
          simp only [lito, lits, litq, SX.num_S, SX.S_cat]
          exact z2
      refine ix0 hp1 ⟨rfl, iteN (by decide +kernel) (ix1 hp1 (ix0 hk3 ⟨rfl, iteN (by cases l <;> (show ¬ (V.str (shS _) = _)) <;> decide +kernel) ⟨rfl, iteN (by cases l <;> (show ¬ (V.str (shS _) = _)) <;> decide +kernel) ?_⟩⟩))⟩
      cases l with
      | true => exact ⟨rfl, iteP rfl (fin _ (shC_S true).symm)⟩
      | false => exact ⟨rfl, iteN (by show ¬ (V.str (shS _) = _); decide +kernel) ⟨rfl, iteP rfl (fin _ (shC_S false).symm)⟩⟩
    · rintro l x hl hn hx rfl rfl
      obtain ⟨p, xs, rfl, hp, hxs⟩ := hv.tupI
      obtain ⟨u, v, q, rfl, u1, v1, q1⟩ := at3 hxs
      cases u1.strI
      obtain ⟨kp, ks, rfl, hk1, hk2⟩ := v1.tupI
      obtain ⟨kx, ky, rfl, kx1, ky1⟩ := at2 hk2
      cases kx1.strI
      obtain ⟨np, nxs, rfl, hn1, hn2⟩ := ky1.tupI
      obtain ⟨r, rs, rfl, hr1, hr2⟩ := q1.tupI
      have l1 := hx.len W
      have l3 := lenB4 hk
      have l4 := numsP_len hn
      have l5 : l.length ≤ 16 := by simp at hl; omega
      have hcs : ∀ c ∈ ([x] : List Ch), Wr ws fs k c.1 c.2 := by intro c hc; simp at hc; rcases hc with rfl; assumption
      refine ix0 hp ⟨rfl, iteN (by decide +kernel) (ix0 hp ⟨rfl, iteN (by decide +kernel) (ix2 hp ⟨r, rfl, ⟨_, SqT.of hr1⟩, inner_ok (cs := [x]) W hr1 hr2 hcs (by simp) fun D H1 e1 hD => ?_⟩)⟩)⟩
      have hp1 := e1 _ _ hp
      have hk3 := e1 _ _ hk1
      refine ix0 hp1 ⟨rfl, iteN (by decide +kernel) (ix1 hp1 (ix0 hk3 ⟨rfl, iteN (by decide +kernel) ⟨rfl, iteP rfl ?_⟩⟩))⟩
      refine ⟨⟨_, rfl⟩, ix1 hp1 (ix1 hk3 ?_)⟩
      refine ⟨np, rfl, ⟨_, SqT.of (e1 _ _ hn1)⟩, nums_ok hn (e1 _ _ hn1) (AtAll.ex e1 hn2) (by omega) fun D2 H2 e2 hD2 => ?_⟩
      have hD3 := e2 _ _ hD
      have hj : Txt.join (Str.ofString ", ") (l.map fun n => S (TL.numL n)) = S (flat (numsP l)) := by
        have : (l.map fun n => S (TL.numL n)) = (l.map TL.numL).map S := by rw [List.map_map]; rfl
        rw [litn, this, SX.join_S, join_nums]
      refine ⟨D2, rfl, _, .inl (SqL.of hD2), ?_, ?_, ?_, ixl (SqL.of hD3) (atI_nat (j := 0) rfl) ⟨_, rfl, ?_, ?_, ?_⟩⟩
      · have := sum_le (B := 4) (l := l.map fun n => S (TL.numL n)) fun y hy => by
          obtain ⟨m, hm, rfl⟩ := List.mem_map.mp hy
          rw [SX.S_len]
          exact numL_l4 (hn m hm)
        refine Nat.le_trans (Nat.add_le_add this (Nat.le_refl _)) ?_
        rw [litn, SX.S_len, List.length_map]
        show l.length * 4 + l.length * 2 ≤ _
        omega
      · rw [hj]
        simp only [litt, litb, litq, SX.S_cat, SX.S_len, List.length_append, List.length_cons, List.length_nil]; exact sz (by omega)
      · rw [hj]
        simp only [litt, litb, litq, SX.S_cat, SX.S_len, List.length_append, List.length_cons, List.length_nil]; exact sz (by omega)
      · rw [hj]
        simp only [litt, litb, litq, SX.S_cat, SX.S_len, List.length_append, List.length_cons, List.length_nil]; exact sz (by omega)
      · rw [hj]
        simp only [litt, litb, litq, SX.S_cat, SX.S_len, List.length_append, List.length_cons, List.length_nil]; exact sz (by omega)
      · rw [hj]
        have z2 := z H2 (e1.trans e2)
        have ef : flat ((0, Tk.word wTable) :: (1, Tk.sign [91]) :: (numsP l ++ (0, Tk.sign [93]) :: (1, Tk.sign [40]) :: (x.2 ++ [(0, Tk.sign [41])]))) = [116, 97, 98, 108, 101, 32, 91] ++ flat (numsP l) ++ [93, 32, 40] ++ flat x.2 ++ [41] := by
          show [] ++ (wTable ++ ([32] ++ ([91] ++ flat (numsP l ++ (0, Tk.sign [93]) :: (1, Tk.sign [40]) :: (x.2 ++ [(0, Tk.sign [41])]))))) = _
          rw [flat_app]
          show [] ++ (wTable ++ ([32] ++ ([91] ++ (flat (numsP l) ++ ([] ++ ([93] ++ ([32] ++ ([40] ++ flat (x.2 ++ [(0, Tk.sign [41])]))))))))) = _
          rw [flat_app]
          simp [flat, tkC, wTable]
        rw [ef] at z2
        simp only [litt, litb, litq, SX.S_cat]
        exact z2
theorem ok_law_expression_text (T : Txt K mg a) : ∀ k, k ≤ 5 → FnOk P w K mg base CX0 (k + 1) a.f_law_expression_text a.d_law_expression_text ["_law_part"] (spText k)
  | 0, _ => by
    refine T.F_law_expression_text.ok sc_law_expression_text (fun vs H Q E h => ?_) (fun cdv A outer s H vs Q E hr h => ?_)
    · obtain ⟨_, _, _, _, _, rfl, _⟩ := h
      rfl
    · obtain ⟨v, ws, fs, d, ps, rfl, W, hw, _⟩ := h
      exact False.elim hw
  | k + 1, hk => text_step T k (by omega) fun T => ok_law_expression_text T k (by omega)
end

/-! ### the law's drawings -/
def F2 (p q : Addr) (H H' : Hp) : Prop := ∀ b o, b ≠ p → b ≠ q → H b = some o → H' b = some o
def NmOk (w : Cs) (n : Nat) : Prop := ∃ ls : Cs, ls.all lowB = true ∧ 1 ≤ ls.length ∧ ls.length ≤ 4 ∧ w = ls ++ [48 + n] ∧ 1 ≤ n ∧ n ≤ 9
theorem joinL_one : ∀ ls : Cs, TL.joinL [] (ls.map fun c => [c]) = ls
  | [] => rfl
  | [_] => rfl
  | c :: d :: ls => by
    show [c] ++ ([] ++ TL.joinL [] ((d :: ls).map fun c => [c])) = _
    rw [joinL_one (d :: ls)]
    rfl
theorem low_at {r : Int} (h0 : 0 ≤ r) (h1 : r < 26) : ∃ c, atI (Str.ofString "abcdefghijklmnopqrstuvwxyz" : Str).cps.toList r = some c ∧ lowB c = true := by
  obtain ⟨j, rfl⟩ : ∃ j : Nat, r = (j : Int) := ⟨r.toNat, by omega⟩
  have hj : j < 26 := by omega
  have key : ∀ j, j < 26 → ∃ c, (Str.ofString "abcdefghijklmnopqrstuvwxyz" : Str).cps.toList[j]? = some c ∧ lowB c = true := by
    intro j hj
    have hl : (Str.ofString "abcdefghijklmnopqrstuvwxyz" : Str).cps.toList.length = 26 := by decide +kernel
    have ha : (Str.ofString "abcdefghijklmnopqrstuvwxyz" : Str).cps.toList.all lowB = true := by decide +kernel
    have hj2 : j < (Str.ofString "abcdefghijklmnopqrstuvwxyz" : Str).cps.toList.length := by omega
    exact ⟨_, List.getElem?_eq_getElem hj2, List.all_eq_true.mp ha _ (List.getElem_mem hj2)⟩
  obtain ⟨c, h2, h3⟩ := key j hj
  exact ⟨c, atI_nat h2, h3⟩
section
variable {P : Program} {w : World} {K : PySem.W.Frag} {mg : Str → Option Value} {base : Heap} {a : Ad}
def spName : Sp := fun vs H Q _ => ∃ (p c q : Addr) (n : Nat), vs = [.ref p, .ref q] ∧ HandAt H p c ∧ H q = some (.lst [.int n]) ∧ n ≤ 8 ∧ q ≠ p ∧ q ≠ c ∧
  ∀ w H', F2 p q H H' → HandAt H' p c → H' q = some (.lst [.int ((n + 1 : Nat) : Int)]) → NmOk w (n + 1) → Q (.str (S w)) H'
def ivName (H : Hp) (p c : Addr) (D : Addr) (i : Nat) (H' : Hp) : Prop := ∃ ls : Cs, H' D = some (.lst ((ls.map fun x => S [x]).map V.str)) ∧ ls.length = i ∧ ls.all lowB = true ∧ Fr p H H' ∧ HandAt H' p c
theorem ok_law_name (T : Txt K mg a) : FnOk P w K mg base CX0 3 a.f_law_name a.d_law_name ["_law_hand_here", "_law_count"] spName := by
  refine T.F_law_name.ok sc_law_name (fun vs H Q E h => ?_) (fun cdv A outer s H vs Q E hr h => ?_)
  · obtain ⟨_, _, _, _, rfl, _⟩ := h
    rfl
  · obtain ⟨p, c, q, n, rfl, hh, hq, hn, nqp, nqc, z⟩ := h
    refine ⟨_, (pss_cons (ps_asg (pe_op op_add (pe_ix ix_list (pv 1) pe_int (fun _ _ => rfl)) pe_int) (pg_sub (pv 1) pe_int set_list (by intro _; rfl)))
  (pss_cons (ps_set (i := 2) sc_law_name.nd rfl (by first | exact Or.inl rfl | exact Or.inr rfl) (pe_join pe_str (pe_lc (own := [("_law_k", 3)]) (g := gName 3) (tt := tYes) rfl sc_law_name.nd (pi_range1 (by rfl) T.z_range (pa_cons (pe_op op_add pe_int (pe_call (ok_law_take T) (hr.mono (by decide)) rfl T.m_law_take T.F_law_take.kp T.b_law_take .nil pass0 (pa_cons (pv 0) (pa_cons pe_int pa_nil)))) pa_nil)) (blkOk_by (own := [("_law_k", 3)]) (N := ["_law_hand_here", "_law_count", "_law_letters", "_law_k"]) (sc := defScope s_law_name) (by decide +kernel)) (fun _ _ _ _ _ => pg_name (i := 3) sc_law_name.nd rfl (Or.inl rfl)) (fun _ _ _ _ _ => pts_nil) (fun _ _ _ _ _ => (pe_ix ix_str pe_str (pe_call (ok_law_take T) (hr.mono (by decide)) rfl T.m_law_take T.F_law_take.kp T.b_law_take .nil pass0 (pa_cons (pv 0) (pa_cons pe_int pa_nil))) (fun _ _ => rfl))))))
  (pss_one (ps_ret (pe_op op_add_str (pv 2) (pe_callTy call_str_int (by rfl) T.z_str (by decide +kernel) (pa_cons (pe_ix ix_list (pv 1) pe_int (fun _ _ => rfl)) pa_nil))))))), ?_⟩
    walk_at "sm"
    refine ixl (SqL.of hq) rfl ?_
    walk_at "sm"
    refine setl hq rfl ?_
    have hh1 : HandAt (upd H q (.lst [.int ((n : Int) + 1)])) p c := hh.upd nqp nqc
    have hq1 : (upd H q (.lst [.int ((n : Int) + 1)])) q = some (.lst [.int ((n : Int) + 1)]) := upd_same
    have f1 : ∀ b o, b ≠ q → H b = some o → (upd H q (.lst [.int ((n : Int) + 1)])) b = some o := fun b o nb hb => by rw [upd_ne nb]; exact hb
    refine ⟨⟨_, rfl⟩, tk (H := upd H q (.lst [.int ((n : Int) + 1)])) hh1 (by decide) (by decide) fun r H2 r0 r1 f2 hh2 => ⟨_, rfl, by omega, by omega, ?_⟩⟩
    have hq2 := f2 _ _ nqp hq1
    refine lcg_range (ivName H2 p c) (fun D hD => ⟨[], upd_same, rfl, rfl, (Fr.refl H2).mut hD, hh2.upd (hh2.lt hD) (hh2.lc hD)⟩) (fun D i H3 hD hi ⟨ls, h1, h2, h3, f3, hh3⟩ => ?_) (fun D H3 hD ⟨ls, h1, h2, h3, f3, hh3⟩ => ?_)
    · walk_at "sm"
      have nDp := hh2.lt hD
      refine tk hh3 (by decide) (by decide) fun x H4 x0 x1 f4 hh4 => ?_
      obtain ⟨cc, hc1, hc2⟩ := low_at x0 x1
      refine ⟨x, rfl, by decide +kernel, cc, hc1, _, f4 _ _ nDp h1, ?_, ls ++ [cc], ?_, by rw [List.length_append, h2]; rfl, ?_, (f3.trans f4).mut hD, hh4.upd nDp (hh2.lc hD)⟩
      · rw [List.length_map, List.length_map]
        exact Nat.lt_of_le_of_lt (show ls.length ≤ 1000 by omega) (by decide)
      · rw [upd_same, List.map_append, List.map_append]; rfl
      · rw [List.all_append, h3]
        show (true && (lowB cc && true)) = true
        rw [hc2]; rfl
    · have hq3 := f3 _ _ nqp hq2
      have e0 : (Str.ofString "" : Str) = S [] := by decide +kernel
      have ej : Txt.join (Str.ofString "") (ls.map fun x => S [x]) = S ls := by
        have : (ls.map fun x => S [x]) = (ls.map fun x => [x]).map S := by rw [List.map_map]; rfl
        rw [e0, this, SX.join_S, joinL_one]
      have en : (Str.ofString (toString ((n : Int) + 1)) : Str) = S [48 + (n + 1)] := by
        have := SX.num_S (n + 1)
        rw [show ((n : Int) + 1) = ((n + 1 : Nat) : Int) from rfl, this, TL.numL_lt (by omega)]
      have hlen : ls.length ≤ 4 ∧ 1 ≤ ls.length := by omega
      refine ⟨D, rfl, _, .inl (SqL.of h1), ?_, ixl (SqL.of hq3) rfl ⟨_, rfl, ?_, ?_, ?_⟩⟩
      · have := sum_le (B := 1) (l := ls.map fun x => S [x]) fun y hy => by
          obtain ⟨m, hm, rfl⟩ := List.mem_map.mp hy
          exact Nat.le_refl 1
        refine Nat.le_trans (Nat.add_le_add this (Nat.le_refl _)) ?_
        rw [e0, SX.S_len, List.length_map]
        show ls.length * 1 + ls.length * 0 ≤ _
        omega
      · show (n + 1).log2 < 1920
        exact log_ok (by omega)
      · rw [ej, en, SX.S_len, SX.S_len]
        exact sz (by show ls.length + 1 ≤ 100000; omega)
      · rw [ej, en, SX.S_cat]
        refine z _ H3 (fun b o n1 n2 hb => f3 _ _ n1 (f2 _ _ n1 (f1 _ _ n2 hb))) hh3 hq3 ⟨ls, h3, hlen.2, hlen.1, rfl, by omega, by omega⟩
end
/-! ### drawn expressions -/
theorem iteA {α : Type} {A : Prop} [Decidable A] {R B N : α → Prop} [∀ x, Decidable (B x)] {M : Prop} (x : α) (hS : R x) (h : A → B x → N x) (hM : M) : if A then ∃ x, R x ∧ (if B x then N x else M) else M := by
  by_cases ha : A
  · rw [if_pos ha]
    refine ⟨x, hS, ?_⟩
    by_cases hb : B x
    · rw [if_pos hb]; exact h ha hb
    · rw [if_neg hb]; exact hM
  · rw [if_neg ha]; exact hM
theorem iteO {A B L M : Prop} [Decidable A] [Decidable B] (h : A ∨ B → L) (h2 : ¬ A → ¬ B → M) : if A then L else if B then L else M := by
  by_cases ha : A
  · rw [if_pos ha]; exact h (.inl ha)
  · rw [if_neg ha]
    by_cases hb : B
    · rw [if_pos hb]; exact h (.inr hb)
    · rw [if_neg hb]; exact h2 ha hb
theorem kd_kn {H : Hp} {r : Addr} {kd : Kd} (h : KdAt H r kd) (hs : kd ≠ .same) : ∃ kn : Kn, kn.ok ∧ At H (.ref r) (.tuple kn.D) ∧ kn.many = kd.many := by
  cases kd with
  | pr k => exact ⟨.pr k, trivial, .tup h (.cons (.str _) .nil), rfl⟩
  | pick => exact ⟨.pick, trivial, .tup h (.cons (.str _) .nil), rfl⟩
  | same => exact absurd rfl hs
  | sh l n => exact ⟨.sh l n, h.2, .tup h.1 (.cons (.str _) (.cons (.int _) .nil)), rfl⟩
  | tab ns =>
    obtain ⟨t, h1, h2, h3, h4⟩ := h
    have e : ns.map V.int = (ns.map Int.toNat).map fun n => V.int (n : Nat) := by
      rw [List.map_map]
      refine List.map_congr_left fun n hn => ?_
      show V.int n = V.int ((n.toNat : Nat) : Int)
      rw [Int.toNat_of_nonneg (h4 n hn).1]
    rw [e] at h2
    refine ⟨.tab (ns.map Int.toNat), ⟨?_, fun n hn => ?_⟩, .tup h1 (.cons (.str _) (.cons (.tup h2 (at_nums _)) .nil)), rfl⟩
    · rw [List.length_map]
      rcases h3 with h | h | h | h | h <;> (rw [h]; decide)
    · obtain ⟨m, hm, rfl⟩ := List.mem_map.mp hn
      have := h4 m hm
      omega
def FnL (H : Hp) (f : Addr) (fs : List Fun3) : Prop := ∃ xs, H f = some (.lst xs) ∧ ToksAt H xs (fs.map fun g => [V.str (S g.1), V.int (g.2.1 : Nat)])
theorem FnL.fr {H H' : Hp} {p f : Addr} {l : List V} {fs : List Fun3} (h : FnL H f fs) (n : f ≠ p) (e : Fr p H H') (hp : H p = some (.lst l)) : FnL H' f fs := by
  obtain ⟨xs, h1, h2⟩ := h
  exact ⟨xs, e _ _ n h1, Paired.mapP h2 fun _ _ ⟨b, e1, e2⟩ => ⟨b, e1, (Tp.fr e hp) b _ e2⟩⟩
theorem HandAt.lst {H : Hp} {p c : Addr} (h : HandAt H p c) : ∃ l, H p = some (.lst l) := by
  obtain ⟨cells, i, g, t, hp, _⟩ := h
  exact ⟨_, hp⟩
section
variable {P : Program} {w : World} {K : PySem.W.Frag} {mg : Str → Option Value} {base : Heap} {a : Ad}
def spExp (k : Nat) : Sp := fun vs H Q _ => ∃ (p c na fa : Addr) (ws : List Cs) (fs : List Fun3), vs = [.ref p, .ref na, .ref fa, .int k] ∧ 1 ≤ k ∧ HandAt H p c ∧ H na = some (.lst (ws.map fun w => V.str (S w))) ∧ FnL H fa fs ∧ na ≠ p ∧ fa ≠ p ∧ 1 ≤ ws.length ∧ ws.length ≤ 1000 ∧ fs.length ≤ 1000 ∧ (∀ f ∈ fs, f.2.1 ≤ 3) ∧
  ∀ r d ps H', Fr p H H' → HandAt H' p c → At H' (.ref r) d → Wr ws fs k d ps → Q (.ref r) H'
def ivExp (ws : List Cs) (fs : List Fun3) (k : Nat) (H : Hp) (p c : Addr) (D : Addr) (i : Nat) (H' : Hp) : Prop := ∃ (cs : List Ch) (xs : List V), H' D = some (.lst xs) ∧ AtAll H' xs (cs.map (·.1)) ∧ cs.length = i ∧ (∀ c ∈ cs, Wr ws fs k c.1 c.2) ∧ Fr p H H' ∧ HandAt H' p c
theorem exp_lc {k : Nat} {H : Hp} {p c na fa : Addr} {ws : List Cs} {fs : List Fun3} {m : Nat} {Q : VK} {o4 o5 o6 o7 : Option V} (hm : m ≤ 3) (h1k : 1 ≤ k) (hh : HandAt H p c) (hna : H na = some (.lst (ws.map fun w => V.str (S w)))) (hfa : FnL H fa fs) (n1 : na ≠ p) (n2 : fa ≠ p) (l1 : 1 ≤ ws.length) (l2 : ws.length ≤ 1000) (l3 : fs.length ≤ 1000) (l4 : ∀ f ∈ fs, f.2.1 ≤ 3)
    (z : ∀ D H', H D = none → ivExp ws fs k H p c D m H' → Q (.ref D) H') : LcG (Itr 0 m) (gName 7) tYes (tCall (spExp k) [] E0 (tCons (tVar 0) (tCons (tVar 1) (tCons (tVar 2) (tCons (tOp (rI0 fun i j => V.int (i - j)) (tVar 3) (tC (V.int 1))) tNil))))) [7] [some (.ref p), some (.ref na), some (.ref fa), some (.int ((k + 1 : Nat) : Int)), o4, o5, o6, o7] Q H := by
  refine lcg_range (ivExp ws fs k H p c) (fun D hD => ⟨[], [], upd_same, .nil, rfl, (by intro c hc; cases hc), (Fr.refl H).mut hD, hh.upd (hh.lt hD) (hh.lc hD)⟩) (fun D i H3 hD hi ⟨cs, xs, h1, h2, h3, h4, f3, hh3⟩ => ?_) (fun D H3 hD h => z D H3 hD h)
  walk_at "sm"
  have nDp := hh.lt hD
  obtain ⟨l, hl⟩ := hh.lst
  have ek : ((k + 1 : Nat) : Int) - 1 = (k : Nat) := by omega
  refine ⟨p, c, na, fa, ws, fs, by rw [← ek], h1k, hh3, f3 _ _ n1 hna, hfa.fr n2 f3 hl, n1, n2, l1, l2, l3, l4, fun r d ps H4 f4 hh4 hr hw => ?_⟩
  have h14 := f4 _ _ nDp h1
  obtain ⟨l', hl'⟩ := hh3.lst
  have hlen := h2.len
  rw [List.length_map] at hlen
  refine ⟨xs, h14, Nat.lt_of_le_of_lt (show xs.length ≤ 1000 by omega) (by decide), cs ++ [(d, ps)], xs ++ [.ref r], upd_same, ?_, by rw [List.length_append, h3]; rfl, ?_, (f3.trans f4).mut hD, hh4.upd nDp (hh.lc hD)⟩
  · rw [List.map_append]
    exact AtAll.go (Tp.upd h14) _ _ ((AtAll.go (Tp.fr f4 hl') _ _ h2).snoc hr)
  · intro q hq
    rcases List.mem_append.mp hq with q1 | q1
    · exact h4 q q1
    · rw [List.mem_singleton] at q1
      subst q1
      exact hw
theorem exp_step (T : Txt K mg a) (k : Nat) (ok_law_expression : Txt K mg a → FnOk P w K mg base CX0 (k + 4) a.f_law_expression a.d_law_expression ["_law_hand_here", "_law_names", "_law_funs", "_law_depth"] (spExp k)) :
    FnOk P w K mg base CX0 (k + 1 + 4) a.f_law_expression a.d_law_expression ["_law_hand_here", "_law_names", "_law_funs", "_law_depth"] (spExp (k + 1)) := by
  refine T.F_law_expression.ok sc_law_expression (fun vs H Q E h => ?_) (fun cdv A outer s H vs Q E hr h => ?_)
  · obtain ⟨_, _, _, _, _, _, rfl, _⟩ := h
    rfl
  · obtain ⟨p, c, na, fa, ws, fs, rfl, hk, hh, hna, hfa, n1, n2, l1, l2, l3, l4, z⟩ := h
    refine ⟨_, (pss_cons (ps_set (i := 4) sc_law_expression.nd rfl (by first | exact Or.inl rfl | exact Or.inr rfl) (pe_call (ok_law_take T) (hr.mono (by omega)) rfl T.m_law_take T.F_law_take.kp T.b_law_take .nil pass0 (pa_cons (pv 0) (pa_cons pe_int pa_nil))))
  (pss_cons (ps_if (PW.pt (pw_or (pt_cmpR op_le (pv 3) pe_int (nomark _)) (pw_or1 (pt_cmpR op_lt (pv 4) pe_int (nomark _))))) (pss_cons (ps_if (PW.pt (pw_or (pt_cmpR op_eq (pe_callB call_len_seq (by rfl) T.z_len (by decide +kernel) (pa_cons (pv 1) pa_nil)) pe_int (nomark _)) (pw_or1 (pt_cmpR op_eq (pe_call (ok_law_take T) (hr.mono (by omega)) rfl T.m_law_take T.F_law_take.kp T.b_law_take .nil pass0 (pa_cons (pv 0) (pa_cons pe_int pa_nil))) pe_int (nomark _))))) (pss_one (ps_ret (pe_tup (pa_cons pe_str (pa_cons (pe_ifExp (pt_cmpR op_eq (pe_call (ok_law_take T) (hr.mono (by omega)) rfl T.m_law_take T.F_law_take.kp T.b_law_take .nil pass0 (pa_cons (pv 0) (pa_cons pe_int pa_nil))) pe_int (nomark _)) (pe_call (ok_law_take T) (hr.mono (by omega)) rfl T.m_law_take T.F_law_take.kp T.b_law_take .nil pass0 (pa_cons (pv 0) (pa_cons pe_int pa_nil))) (pe_call (ok_law_take T) (hr.mono (by omega)) rfl T.m_law_take T.F_law_take.kp T.b_law_take .nil pass0 (pa_cons (pv 0) (pa_cons pe_int pa_nil)))) pa_nil)))))
    pss_nil)
  (pss_one (ps_ret (pe_tup (pa_cons pe_str (pa_cons (pe_ix ix_list (pv 1) (pe_call (ok_law_take T) (hr.mono (by omega)) rfl T.m_law_take T.F_law_take.kp T.b_law_take .nil pass0 (pa_cons (pv 0) (pa_cons (pe_callB call_len_seq (by rfl) T.z_len (by decide +kernel) (pa_cons (pv 1) pa_nil)) pa_nil))) (fun _ _ => rfl)) pa_nil))))))
    pss_nil)
  (pss_cons (ps_if (PW.pt (pw_and (pt_cmpR op_eq (pv 4) pe_int (nomark _)) (pw_and1 (pt_cmpR op_gt (pe_callB call_len_seq (by rfl) T.z_len (by decide +kernel) (pa_cons (pv 2) pa_nil)) pe_int (nomark _))))) (pss_cons (ps_set (i := 5) sc_law_expression.nd rfl (by first | exact Or.inl rfl | exact Or.inr rfl) (pe_ix ix_list (pv 2) (pe_call (ok_law_take T) (hr.mono (by omega)) rfl T.m_law_take T.F_law_take.kp T.b_law_take .nil pass0 (pa_cons (pv 0) (pa_cons (pe_callB call_len_seq (by rfl) T.z_len (by decide +kernel) (pa_cons (pv 2) pa_nil)) pa_nil))) (fun _ _ => rfl)))
  (pss_one (ps_ret (pe_tup (pa_cons pe_str (pa_cons (pe_ix ix_tup (pv 5) pe_int (fun _ _ => rfl)) (pa_cons (pe_callTy call_tuple_of (by rfl) T.z_tuple (by decide +kernel) (pa_cons (pe_lc (own := [("_law_k", 7)]) (g := gName 7) (tt := tYes) rfl sc_law_expression.nd (pi_range1 (by rfl) T.z_range (pa_cons (pe_ix ix_tup (pv 5) pe_int (fun _ _ => rfl)) pa_nil)) (blkOk_by (own := [("_law_k", 7)]) (N := ["_law_hand_here", "_law_names", "_law_funs", "_law_depth", "_law_at", "_law_called", "_law_kind_here", "_law_k"]) (sc := defScope s_law_expression) (by decide +kernel)) (fun _ _ _ _ _ => pg_name (i := 7) sc_law_expression.nd rfl (Or.inl rfl)) (fun _ _ _ _ _ => pts_nil) (fun _ _ _ _ _ => (pe_call (ok_law_expression T) (hr.mono (by omega)) rfl T.m_law_expression T.F_law_expression.kp T.b_law_expression .nil pass0 (pa_cons (pv 0) (pa_cons (pv 1) (pa_cons (pv 2) (pa_cons (pe_op op_sub (pv 3) pe_int) pa_nil))))))) pa_nil)) pa_nil)))))))
    pss_nil)
  (pss_cons (ps_set (i := 6) sc_law_expression.nd rfl (by first | exact Or.inl rfl | exact Or.inr rfl) (pe_call (ok_law_kind T) (hr.mono (by omega)) rfl T.m_law_kind T.F_law_kind.kp T.b_law_kind .nil pass0 (pa_cons (pv 0) pa_nil)))
  (pss_one (ps_ret (pe_tup (pa_cons pe_str (pa_cons (pv 6) (pa_cons (pe_callTy call_tuple_of (by rfl) T.z_tuple (by decide +kernel) (pa_cons (pe_lc (own := [("_law_k", 7)]) (g := gName 7) (tt := tYes) rfl sc_law_expression.nd (pi_range1 (by rfl) T.z_range (pa_cons (pe_call (ok_law_operands T) (hr.mono (by omega)) rfl T.m_law_operands T.F_law_operands.kp T.b_law_operands .nil pass0 (pa_cons (pv 6) pa_nil)) pa_nil)) (blkOk_by (own := [("_law_k", 7)]) (N := ["_law_hand_here", "_law_names", "_law_funs", "_law_depth", "_law_at", "_law_called", "_law_kind_here", "_law_k"]) (sc := defScope s_law_expression) (by decide +kernel)) (fun _ _ _ _ _ => pg_name (i := 7) sc_law_expression.nd rfl (Or.inl rfl)) (fun _ _ _ _ _ => pts_nil) (fun _ _ _ _ _ => (pe_call (ok_law_expression T) (hr.mono (by omega)) rfl T.m_law_expression T.F_law_expression.kp T.b_law_expression .nil pass0 (pa_cons (pv 0) (pa_cons (pv 1) (pa_cons (pv 2) (pa_cons (pe_op op_sub (pv 3) pe_int) pa_nil))))))) pa_nil)) pa_nil)))))))))), ?_⟩
    walk_at "sm"
    refine tk hh (by decide) (by decide) fun at1 H1 a0 a1 f1 hh1 => ?_
    walk_at "sm"
    have hna1 := f1 _ _ n1 hna
    obtain ⟨pl, hpl⟩ := hh.lst
    have hfa1 := hfa.fr n2 f1 hpl
    have num : ∀ (m : Int) (H2 : Hp), 0 < m → m ≤ 4096 → Fr p H H2 → HandAt H2 p c → spTake [V.ref p, V.int m] H2 (fun x H1 => 0 + 1 + 1 ≤ sizeLine ∧ ∀ (p : Addr), H1 p = none → Q (V.ref p) (upd H1 p (HO.tup [V.str (Str.ofString "number"), x]))) E0 := fun m H2 m0 m1 f hh2 =>
      tk hh2 m0 (by omega) fun r H3 r0 r1 f3 hh3 => ⟨sz (by decide), fun q hq => by
        obtain ⟨n, rfl⟩ : ∃ n : Nat, r = (n : Int) := ⟨r.toNat, by omega⟩
        have e := Evl.Ex.new (o := .tup [V.str (Str.ofString "number"), V.int n]) hq
        exact z q (dNum n) [(0, .num n)] _ ((f.trans f3).trans (Fr.of e)) (hh3.go e) (.tup upd_same (.cons (.str _) (.cons (.int _) .nil))) (.inl ⟨n, by omega, rfl, rfl⟩)⟩
    refine iteO (fun _ => ⟨_, .inl (SqL.of hna1), iteN (by rw [List.length_map]; omega) (tk hh1 (by decide) (by decide) fun r H2 r0 r1 f2 hh2 => ⟨rfl, ite2 (fun _ => ?_) (fun _ => ?_)⟩)⟩) (fun hd1 _ => ?_)
    · refine tk hh2 (by decide) (by decide) fun r' H3 r0' r1' f3 hh3 => ⟨rfl, ite2 (fun _ => num 4096 H3 (by decide) (by decide) ((f1.trans f2).trans f3) hh3) (fun _ => num 10 H3 (by decide) (by decide) ((f1.trans f2).trans f3) hh3)⟩
    · have hna2 := f2 _ _ n1 hna1
      refine ⟨_, .inl (SqL.of hna2), tk hh2 (by rw [List.length_map]; omega) (by rw [List.length_map]; omega) fun r' H3 r0' r1' f3 hh3 => ?_⟩
      rw [List.length_map] at r1'
      obtain ⟨j, rfl⟩ : ∃ j : Nat, r' = (j : Int) := ⟨r'.toNat, by omega⟩
      have hj : j < ws.length := by omega
      refine ixl (SqL.of (f3 _ _ n1 hna2)) (atI_nat (by rw [List.getElem?_map, List.getElem?_eq_getElem hj]; rfl)) ⟨sz (by decide), fun q hq => ?_⟩
      have e := Evl.Ex.new (o := .tup [V.str (Str.ofString "name"), V.str (S ws[j])]) hq
      exact z q (dName ws[j]) [(0, .name ws[j])] _ (((f1.trans f2).trans f3).trans (Fr.of e)) (hh3.go e) (.tup upd_same (.cons (.str _) (.cons (.str _) .nil))) (.inr (.inl ⟨_, List.getElem_mem hj, rfl, rfl⟩))
    · have h1k : 1 ≤ k := by omega
      obtain ⟨fxs, hf1, hf2⟩ := hfa1
      have hfl : fxs.length = fs.length := by have := paired_len hf2; rwa [List.length_map] at this
      refine iteA fxs (.inl (SqL.of hf1)) (fun _ hpos => ⟨_, .inl (SqL.of hf1), tk hh1 hpos (by omega) fun r H2 r0 r1 f2 hh2 => ?_⟩) ?_
      · obtain ⟨j, rfl⟩ : ∃ j : Nat, r = (j : Int) := ⟨r.toNat, by omega⟩
        have hj : j < fs.length := by omega
        obtain ⟨pl1, hpl1⟩ := hh1.lst
        obtain ⟨x, hx1, b, rfl, hb⟩ := paired_at (i := j) hf2 (by rw [List.getElem?_map, List.getElem?_eq_getElem hj]; rfl)
        have hb2 := (Tp.fr f2 hpl1) _ _ hb
        have hm3 := l4 _ (List.getElem_mem hj)
        refine ixl (SqL.of (f2 _ _ n2 hf1)) (atI_nat hx1) (ix0 hb2 (ix1 hb2 ⟨_, rfl, by omega, by omega, ?_⟩))
        rw [Int.toNat_natCast]
        have hfa2 : FnL H2 fa fs := FnL.fr ⟨fxs, hf1, hf2⟩ n2 f2 hpl1
        refine exp_lc hm3 h1k hh2 (f2 _ _ n1 hna1) hfa2 n1 n2 l1 l2 l3 l4 fun D H3 hD ⟨cs, xs, d1, d2, d3, d4, f3, hh3⟩ => ?_
        refine ⟨D, rfl, xs, .inl ⟨SqL.of d1, fun m hm => ⟨sz (by decide), fun q hq => ?_⟩⟩⟩
        have e1 := Evl.Ex.new (o := .tup xs) hm
        have e2 := Evl.Ex.new (o := .tup [V.str (Str.ofString "call"), V.str (S (fs[j]).1), V.ref m]) hq
        have e := e1.trans e2
        exact z q (dCall (fs[j]).1 (cs.map (·.1))) _ _ (((f1.trans f2).trans f3).trans (Fr.of e)) (hh3.go e) (.tup upd_same (.cons (.str _) (.cons (.str _) (.cons (.tup (e2 _ _ upd_same) (d2.ex e)) .nil))))
          (.inr (.inr (.inl ⟨fs[j], cs, List.getElem_mem hj, d3, d4, rfl, rfl⟩)))
      · refine ⟨p, c, rfl, hh1, fun r kd H2 f2 hh2 hkd hns => ⟨r, kd, rfl, hkd, fun H3 e3 => ?_⟩⟩
        obtain ⟨kn, k1, k2, k3⟩ := kd_kn hkd hns
        have hm3 : kd.many ≤ 3 := by cases kd <;> (simp only [Kd.many]; omega)
        refine ⟨_, rfl, by omega, by omega, ?_⟩
        rw [Int.toNat_natCast]
        obtain ⟨pl1, hpl1⟩ := hh1.lst
        have hfa2 : FnL H3 fa fs := by
          have q : FnL H2 fa fs := FnL.fr ⟨fxs, hf1, hf2⟩ n2 f2 hpl1
          obtain ⟨pl2, hpl2⟩ := hh2.lst
          exact q.fr n2 (Fr.of e3) hpl2
        refine exp_lc hm3 h1k (hh2.go e3) (e3 _ _ (f2 _ _ n1 hna1)) hfa2 n1 n2 l1 l2 l3 l4 fun D H4 hD ⟨cs, xs, d1, d2, d3, d4, f4, hh4⟩ => ?_
        refine ⟨D, rfl, xs, .inl ⟨SqL.of d1, fun m hm => ⟨sz (by decide), fun q hq => ?_⟩⟩⟩
        have e1 := Evl.Ex.new (o := .tup xs) hm
        have e2 := Evl.Ex.new (o := .tup [V.str (Str.ofString "op"), V.ref r, V.ref m]) hq
        have e := e1.trans e2
        obtain ⟨pl3, hpl3⟩ := (hh2.go e3).lst
        have hk4 : At _ (.ref r) (.tuple kn.D) := At.ex e (At.go (Tp.fr f4 hpl3) _ _ (k2.ex e3))
        exact z q (dOp kn.D (cs.map (·.1))) _ _ ((((f1.trans f2).trans (Fr.of e3)).trans f4).trans (Fr.of e)) (hh4.go e) (.tup upd_same (.cons (.str _) (.cons hk4 (.cons (.tup (e2 _ _ upd_same) (d2.ex e)) .nil))))
          (.inr (.inr (.inr ⟨kn, cs, k1, d3.trans k3.symm, d4, rfl, rfl⟩)))
theorem ok_law_expression (T : Txt K mg a) : ∀ k, FnOk P w K mg base CX0 (k + 4) a.f_law_expression a.d_law_expression ["_law_hand_here", "_law_names", "_law_funs", "_law_depth"] (spExp k)
  | 0 => by
    refine T.F_law_expression.ok sc_law_expression (fun vs H Q E h => ?_) (fun cdv A outer s H vs Q E hr h => ?_)
    · obtain ⟨_, _, _, _, _, _, rfl, _⟩ := h
      rfl
    · obtain ⟨p, c, na, fa, ws, fs, rfl, hk, _⟩ := h
      omega
  | k + 1 => exp_step T k fun T => ok_law_expression T k
end

/-! ### try with several clauses, each with a name or without -/
/-- the ends of a suite whose name goes behind it -/
def enM (o : Option Nat) (D : Ends) : Ends := match o with
  | none => D
  | some i => { nx := fun σ H => D.nx (σ.set i none) H, rt := D.rt, bk := fun σ H => D.bk (σ.set i none) H, ct := fun σ H => D.ct (σ.set i none) H }
def stM (o : Option Nat) (σ : L2.St) (e : Addr) : L2.St := match o with
  | none => σ
  | some i => σ.set i (some (.ref e))
abbrev Cla := Value × Option Nat × (Addr → Value → Option Addr → TS)
/-- what such clauses wish of an exception of the body -/
def wM (K : PySem.W.Frag) (W : WX) (D : Ends) : List Cla → WX
  | [] => W
  | p :: l => fun cls d σ H => ∃ b, PySem.W.exmOne K cls p.1 = some b ∧ (b = true → ∀ e, H e = none → p.2.2 e cls d (enM p.2.1 D) (stM p.2.1 σ e) H) ∧ (b = false → wM K W D l cls d σ H)
inductive ClaOk (X : Cx) : List ExceptHandler → List Cla → Prop
  | nil : ClaOk X [] []
  | bare {x : Str} {c : Value} {ts : Addr → Value → Option Addr → TS} {f : Stmt} {fs : List Stmt} {p1 p2 : Pos} {hs : List ExceptHandler} {l : List Cla} (n : Names X x c)
      (su : ∀ (e : Addr) (o : Obj) (cls : Value) (d : Option Addr) (pn : List (Addr × Obj)), Zc cls d o → (∃ vs, o.data = .fields vs) → PSs (X.suite e ((e, o) :: pn)) (f :: fs) (ts e cls d)) (r : ClaOk X hs l) : ClaOk X (.ExceptHandler (some (.Name x p1)) none (f :: fs) p2 :: hs) ((c, none, ts) :: l)
  | named {x n : Str} {c : Value} {i : Nat} {ts : Addr → Value → Option Addr → TS} {f : Stmt} {fs : List Stmt} {p1 p2 : Pos} {hs : List ExceptHandler} {l : List Cla} (nd : X.N.Nodup) (hi : X.N[i]? = some n) (hl : X.env.kindOf n = some .local) (nm : Names X x c)
      (su : ∀ (e : Addr) (o : Obj) (cls : Value) (d : Option Addr) (pn : List (Addr × Obj)), Zc cls d o → (∃ vs, o.data = .fields vs) → PSs (X.suite e ((e, o) :: pn)) (f :: fs) (ts e cls d)) (r : ClaOk X hs l) : ClaOk X (.ExceptHandler (some (.Name x p1)) (some n) (f :: fs) p2 :: hs) ((c, some i, ts) :: l)
theorem ps_try_m {X : Cx} {body : List Stmt} {h1 : ExceptHandler} {hs : List ExceptHandler} {l : List Cla} {pos : Pos} {tb : WX → TS} {W : WX} (es : X.stack = X.env :: X.outer) (ef : X.env.frame = some X.env.locals) (tk : Takes X W)
    (hb : ∀ (V : WX) (pn : List (Addr × Obj)) (xe : Value → Shared → Prop), Takes (X.tr pn xe) V → PassesOwn (model X.prog X.w) X.A X.env xe → PSs (X.tr pn xe) body (tb V)) (hh : ClaOk X (h1 :: hs) l) : PS X (.Try body (h1 :: hs) [] [] pos) (fun D σ H => tb (wM X.K W D l) D σ H) := by
  refine ⟨fun pins s σ H D I h => wpAny_Try_except ?_⟩
  have ok := I.ok
  have fr : X.A.frames = some (X.env :: X.outer) := ok.frames.trans (by rw [es])
  refine wpAny_mono ((hb (wM X.K W D l) (X.pn ++ pins) (fun e t1 => wpAny (model X.prog X.w) X.A (noteFrame e X.env) (fun _ t2 => wpAny (model X.prog X.w) X.A (setFlight e none) (fun _ t3 => wpAny (model X.prog X.w) X.A (handleBy e X.env (h1 :: hs)) (SP X pins D) X.xe t3) X.xe t2) X.xe t1) (fun u t xx => ?_) PassesOwn.looking).run [] s σ H D (I.toTry _) h) (fun f t hsp => ?_) fun _ _ z => z
  · obtain ⟨e, B, sI, pz, σ1, H1, cls, d, rfl, Jt, nb, up, sky, na, os, ag, w⟩ := xx
    have J : Inv X pins σ1 H1 sI := Jt.ofTry ok
    have sky2 : Sky B (X.env :: X.outer) e (Zc cls d) X.env.locals t.heap := by rw [← es]; exact sky
    show wpAny (model X.prog X.w) X.A (noteFrame (.ref e) X.env) _ _ _
    refine Sky.land Zc.steady fr ef sky2 fun hp fl u3 => ?_
    have J3 : Inv X pins σ1 H1 { t with heap := hp } := J.landed nb fl.1 (up.trans u3) os ag
    obtain ⟨o3, v3, g3, z3, d3⟩ := fl.there
    have far : e ∉ frs (X.env :: X.outer) := fun hm => by
      obtain ⟨_, o, q, hn⟩ := fl.2.2.1.mem hm
      rw [g3] at q; injection q with q; subst q
      exact hn _ d3
    have nL : e ≠ X.env.locals := fun z => far (List.mem_filterMap.mpr ⟨_, List.mem_cons_self, by rw [ef, z]⟩)
    have nF : e ∉ X.fs := fun hm => by
      obtain ⟨v, hv, q⟩ := List.mem_filterMap.mp hm
      exact far (List.mem_filterMap.mpr ⟨v, List.mem_cons_of_mem _ hv, q⟩)
    have S3 := J3.suite g3 d3 na nL nF
    have LT : PySem.W.Looks (model X.prog X.w) hp (typeOf (.ref e)) cls := fun A Q E s k q => wpAny_typeOf_ref (k _ _ g3) (by rw [z3.1]; exact q)
    have test : ∀ {x : Str} {c : Value} {np : Pos} {Q E : Value → Shared → Prop}, Names X x c → Q c { t with heap := hp } → wpAny (model X.prog X.w) (X.A.mark (some (.ref e))) (eval (.Name x np) X.env) Q E { t with heap := hp } := fun {x c np Q E} hc q => by
      obtain ⟨g, db, m | ⟨m, bt, nn⟩⟩ := hc
      · exact ld_glob (X := X.suite e ((e, o3) :: (X.pn ++ pins))) S3 g m q db
      · exact ld_blt (X := X.suite e ((e, o3) :: (X.pn ++ pins))) S3 g m bt q nn db
    have go : ∀ {hs2 : List ExceptHandler} {l2 : List Cla}, ClaOk X hs2 l2 → wM X.K W D l2 cls d σ1 H1 → wpAny (model X.prog X.w) X.A (handleBy (.ref e) X.env hs2) (SP X pins D) X.xe { t with heap := hp } := by
      intro hs2 l2 hk
      induction hk with
      | nil =>
        intro w
        refine wpAny_handleBy_nil ?_
        obtain ⟨_, _, _, oe, vs, T, oT, ts2, he, hz, hd, hh1, hr⟩ := id fl
        unfold PySem.passOn
        refine wpAny_bind (wpAny_field he hd hh1 ?_)
        have nn : ¬ ((Value.ref T == Value.none) = true) := by simp
        rw [if_neg nn]
        have fin : wpAny (model X.prog X.w) X.A (setFlight (.ref e) X.env.frame) (fun _ s4 => wpAny (model X.prog X.w) X.A (throw (.ref e) : Sem Flow) (SP X pins D) X.xe s4) X.xe { t with heap := hp } := by
          rw [ef]
          exact HandSPX.setFlight_upZ fl fun h4 hh4 u4 => wpAny_throw (tk _ _ ⟨e, B, sI, pins, σ1, H1, cls, d, rfl, J, nb, (up.trans u3).trans u4, .inr (.inr (by rw [es]; exact hh4)), na, os, ag, w⟩)
        first
          | exact wpAny_bind (wpAny_pure (wpAny_bind fin))
          | exact wpAny_bind fin
      | @bare x c ts f fs p1 p2 hs3 l3 hc su r ih =>
        rintro ⟨b, hb1, yes, no⟩
        refine wpAny_handleBy_cons (codeAny_handlers_test (test hc ((PySem.W.exm_one (M := model X.prog X.w) J3.kIn LT hb1).here ?_))) (by intro q; cases q)
        cases b with
        | false => exact ih (no rfl)
        | true =>
          refine codeAny_handlers_suite (HandSPX.lands_againZ fl fun h4 fl4 u4 => ?_)
          have J4 : Inv X pins σ1 H1 { t with heap := h4 } := J.landed nb fl4.1 ((up.trans u3).trans u4) os ag
          obtain ⟨o4, v4, g4, z4, d4⟩ := fl4.there
          refine wpAny_mono ((su e o4 cls d (X.pn ++ pins) z4 ⟨_, d4⟩).run [] _ _ H1 _ (J4.suite g4 d4 na nL nF) (yes rfl e na)) (fun f s6 q => ?_) fun _ _ z => z.elim
          cases f with
          | ret u => obtain ⟨v6, σ6, H6, S6, r6, q6⟩ := q; exact ⟨_, _, _, S6.unsuite ok, r6, q6⟩
          | next => obtain ⟨σ6, H6, S6, q6⟩ := q; exact ⟨_, _, S6.unsuite ok, q6⟩
          | brk => obtain ⟨σ6, H6, S6, q6⟩ := q; exact ⟨_, _, S6.unsuite ok, q6⟩
          | cont => obtain ⟨σ6, H6, S6, q6⟩ := q; exact ⟨_, _, S6.unsuite ok, q6⟩
      | @named x n c i ts f fs p1 p2 hs3 l3 nd hi hl hc su r ih =>
        rintro ⟨b, hb1, yes, no⟩
        refine wpAny_handleBy_cons (codeAny_handlers_test (test hc ((PySem.W.exm_one (M := model X.prog X.w) J3.kIn LT hb1).here ?_))) (by intro q; cases q)
        cases b with
        | false => exact ih (no rfl)
        | true =>
          refine codeAny_handlers_suite_as (HandSPX.lands_againZ fl fun h4 fl4 u4 => ?_)
          have J4 : Inv X pins σ1 H1 { t with heap := h4 } := J.landed nb fl4.1 ((up.trans u3).trans u4) os ag
          obtain ⟨o4, v4, g4, z4, d4⟩ := fl4.there
          refine store_ok (X := X.suite e ((e, o4) :: (X.pn ++ pins))) (v := .ref e) (J4.suite g4 d4 na nL nF) nd hi (.inl hl) rfl (fun s5 S5 => ?_) (.inr hl)
          refine wpAny_mono ((su e o4 cls d (X.pn ++ pins) z4 ⟨_, d4⟩).run [] s5 _ H1 _ S5 (yes rfl e na)) (fun f s6 q => ?_) fun _ _ z => z.elim
          have fin : ∀ {σ6 : L2.St} {H6 : Hp} {Q : Shared → Prop}, Inv (X.suite e ((e, o4) :: (X.pn ++ pins))) [] σ6 H6 s6 → (∀ s7, Inv X pins (σ6.set i none) H6 s7 → Q s7) → wpAny (model X.prog X.w) X.A (do bindName X.env n .none; unbindBehindTheSuite X.env n p2) (fun _ s7 => Q s7) X.xe s6 := fun S6 k => gone_ok (S6.unsuite ok) nd hi hl k
          cases f with
          | ret u => obtain ⟨v6, σ6, H6, S6, r6, q6⟩ := q; exact fin S6 fun s7 J7 => ⟨_, _, _, J7, r6, q6⟩
          | next => obtain ⟨σ6, H6, S6, q6⟩ := q; exact fin S6 fun s7 J7 => ⟨_, _, J7, q6⟩
          | brk => obtain ⟨σ6, H6, S6, q6⟩ := q; exact fin S6 fun s7 J7 => ⟨_, _, J7, q6⟩
          | cont => obtain ⟨σ6, H6, S6, q6⟩ := q; exact fin S6 fun s7 J7 => ⟨_, _, J7, q6⟩
    exact go hh w
  · cases f with
    | ret u => obtain ⟨v, σ1, H1, J, r, q⟩ := hsp; exact ⟨v, σ1, H1, J.ofTry ok, r, q⟩
    | next => obtain ⟨σ1, H1, J, q⟩ := hsp; exact wpAny_execs_nil ⟨σ1, H1, J.ofTry ok, q⟩
    | brk => obtain ⟨σ1, H1, J, q⟩ := hsp; exact ⟨σ1, H1, J.ofTry ok, q⟩
    | cont => obtain ⟨σ1, H1, J, q⟩ := hsp; exact ⟨σ1, H1, J.ofTry ok, q⟩
structure Txe (K : PySem.W.Frag) (a : Ad) : Prop where
  ne : PySem.W.exmOne K (.ref a.c_BadName) (.ref a.c_BadText) = some false
/-! ### what the tries tell -/
def dErr (e : Er) : PyData := .tuple [.str (if e.1 = true then "name" else "text"), .int (e.2.1 : Nat), .str e.2.2]
def dTold : Except Er Ex3 → PyData
  | .ok r => .tuple [.str "read", .tuple [r.1, .int (r.2.2 : Nat)]]
  | .error e => dErr e
def dWant (e : Er) : PyData := .tuple [.int (e.2.1 : Nat), .str e.2.2]
section
variable {P : Program} {w : World} {K : PySem.W.Frag} {mg : Str → Option Value} {base : Heap} {a : Ad}
def spRT (K : PySem.W.Frag) : Sp := fun vs H Q _ => ∃ (p : Addr) (i : Nat) (nv : V) (f : Addr) (ts : List Tok) (ns : Option (List Cs)) (fs : List Fun3) (r : Except Er Ex3), vs = [.ref p, .int i, nv, .ref f] ∧ RdA K H p nv f ts ns fs ∧ rDeep ts ns fs 12 i 0 = some r ∧
  ∀ q H', Evl.Ex H H' → At H' (.ref q) (dTold r) → Q (.ref q) H'
theorem ok_law_read_told (T : Txt K mg a) (D : Txd w K a) (TE : Txe K a) : FnOk P w K mg base CX0 66 a.f_law_read_told a.d_law_read_told ["_law_tokens", "_law_at", "_law_names", "_law_funs"] (spRT K) := by
  have ok_read_expression := fun T : Txt K mg a => ok_read_expression (P := P) (base := base) T D 12
  refine T.F_law_read_told.ok sc_law_read_told (fun vs H Q E h => ?_) (fun cdv A outer s H vs Q E hr h => ?_)
  · obtain ⟨_, _, _, _, _, _, _, _, rfl, _⟩ := h
    rfl
  · obtain ⟨p, i, nv, f, ts, ns, fs, r, rfl, rd, er, z⟩ := h
    refine ⟨_, (pss_cons (ps_set (i := 4) sc_law_read_told.nd rfl (by first | exact Or.inl rfl | exact Or.inr rfl) pe_non)
  (pss_cons (ps_try_m (W := fun _ _ _ _ => False) rfl rfl takes0 (fun V pn xe tk _ => (pss_one (ps_set (i := 4) sc_law_read_told.nd rfl (by first | exact Or.inl rfl | exact Or.inr rfl) (pe_tup (pa_cons pe_str (pa_cons (pe_callS (ok_read_expression T) (hr.mono (by decide)) rfl T.m_read_expression T.F_read_expression.kp T.b_read_expression (fun σ => passAt tk σ) (pa_cons (pv 0) (pa_cons (pv 1) (pa_cons (pv 2) (pa_cons (pv 3) pa_nil))))) pa_nil)))))) (ClaOk.named (i := 5) sc_law_read_told.nd rfl rfl ⟨rfl, by decide, Or.inl T.m_BadText⟩ (fun e o cls d pn hz hf => (pss_one (ps_set (i := 4) sc_law_read_told.nd rfl (by first | exact Or.inl rfl | exact Or.inr rfl) (pe_tup (pa_cons pe_str (pa_cons (pe_xf T.xf_BadText T.xn_BadText_spot hz hf (pv 5)) (pa_cons (pe_xf T.xf_BadText T.xn_BadText_what hz hf (pv 5)) pa_nil))))))) (ClaOk.named (i := 5) sc_law_read_told.nd rfl rfl ⟨rfl, by decide, Or.inl T.m_BadName⟩ (fun e o cls d pn hz hf => (pss_one (ps_set (i := 4) sc_law_read_told.nd rfl (by first | exact Or.inl rfl | exact Or.inr rfl) (pe_tup (pa_cons pe_str (pa_cons (pe_xf T.xf_BadName T.xn_BadName_spot hz hf (pv 5)) (pa_cons (pe_xf T.xf_BadName T.xn_BadName_what hz hf (pv 5)) pa_nil))))))) ClaOk.nil)))
  (pss_one (ps_ret (pv 4))))), ?_⟩
    walk_at "sm"
    refine ⟨p, i, nv, f, ts, ns, fs, rfl, rd, r, er, fun e he => ?_, fun x hx q v H1 e1 hq hv => ?_⟩
    · subst he
      obtain ⟨b, sp, wd⟩ := e
      cases b with
      | false =>
        show Rz a.c_BadText H _ sp wd
        intro d HW eW hd
        refine ⟨true, T.xe_BadText, fun _ eo heo => ?_, fun q => (nomatch q)⟩
        dsimp only [enM, stM]
        walk_at "sm"
        refine ⟨_, hd, _, rfl, _, hd, _, rfl, sz (by decide), fun o ho => ?_⟩
        refine z o _ (eW.trans (Evl.Ex.new ho)) (.tup upd_same (.cons (.str _) (.cons (.int _) (.cons (.str _) .nil))))
      | true =>
        show Rz a.c_BadName H _ sp wd
        intro d HW eW hd
        refine ⟨false, TE.ne, fun q => (nomatch q), fun _ => ⟨true, T.xe_BadName, fun _ eo heo => ?_, fun q => (nomatch q)⟩⟩
        dsimp only [enM, stM]
        walk_at "sm"
        refine ⟨_, hd, _, rfl, _, hd, _, rfl, sz (by decide), fun o ho => ?_⟩
        refine z o _ (eW.trans (Evl.Ex.new ho)) (.tup upd_same (.cons (.str _) (.cons (.int _) (.cons (.str _) .nil))))
    · walk_at "sm"
      subst hx
      refine ⟨sz (by decide), fun o ho => z o _ (e1.trans (Evl.Ex.new ho)) ?_⟩
      exact .tup upd_same (.cons (.str _) (.cons (At.ex (Evl.Ex.new ho) (.tup hq (.cons hv (.cons (.int _) .nil)))) .nil))
/-- what take_sign and take_name tell -/
def spST : Sp := fun vs H Q _ => ∃ (p : Addr) (ts : List Tok) (i : Nat) (v : Cs) (t : Tok), vs = [.ref p, .int i, .str (S v)] ∧ TkA H p ts ∧ ts[i]? = some t ∧
  ∀ y H', Evl.Ex H H' → At H' y (if isS t v = true then .int ((i + 1 : Nat) : Int) else dWant (false, t.2, "want")) → Q y H'
theorem ok_law_sign_told (T : Txt K mg a) : FnOk P w K mg base CX0 4 a.f_law_sign_told a.d_law_sign_told ["_law_tokens", "_law_at", "_law_value"] spST := by
  refine T.F_law_sign_told.ok sc_law_sign_told (fun vs H Q E h => ?_) (fun cdv A outer s H vs Q E hr h => ?_)
  · obtain ⟨_, _, _, _, _, rfl, _⟩ := h
    rfl
  · obtain ⟨p, ts, i, v, t, rfl, tk, e, z⟩ := h
    refine ⟨_, (pss_cons (ps_set (i := 3) sc_law_sign_told.nd rfl (by first | exact Or.inl rfl | exact Or.inr rfl) pe_non)
  (pss_cons (ps_try_as (i := 4) (Wout := fun _ _ _ _ => False) rfl rfl sc_law_sign_told.nd rfl rfl ⟨rfl, by decide, Or.inl T.m_BadText⟩ takes0 (fun W pn xe tk _ => (pss_one (ps_set (i := 3) sc_law_sign_told.nd rfl (by first | exact Or.inl rfl | exact Or.inr rfl) (pe_callS (ok_take_sign T) (hr.mono (by decide)) rfl T.m_take_sign T.F_take_sign.kp T.b_take_sign (fun σ => passAt tk σ) (pa_cons (pv 0) (pa_cons (pv 1) (pa_cons (pv 2) pa_nil))))))) (fun a oe cls d pn hz hf => (pss_one (ps_set (i := 3) sc_law_sign_told.nd rfl (by first | exact Or.inl rfl | exact Or.inr rfl) (pe_tup (pa_cons (pe_xf T.xf_BadText T.xn_BadText_spot hz hf (pv 4)) (pa_cons (pe_xf T.xf_BadText T.xn_BadText_what hz hf (pv 4)) pa_nil)))))))
  (pss_one (ps_ret (pv 3))))), ?_⟩
    walk_at "sm"
    cases hs : isS t v with
    | true =>
      rw [hs, if_pos rfl] at z
      refine ⟨p, ts, i, v, rfl, tk, .ok (i + 1), ?_, fun e he => (nomatch he), fun j hj H1 e1 => ?_⟩
      · unfold rSign
        rw [e]
        show (if isS t v = true then _ else _) = _
        rw [hs, if_pos rfl]
        rfl
      · cases hj
        exact z _ H1 e1 (.int _)
    | false =>
      rw [hs, if_neg (by decide)] at z
      refine ⟨p, ts, i, v, rfl, tk, .error (false, t.2, "want"), ?_, fun e he => ?_, fun j hj => (nomatch hj)⟩
      · unfold rSign
        rw [e]
        show (if isS t v = true then _ else _) = _
        rw [hs, if_neg (by decide)]
        rfl
      · cases he
        show Rz a.c_BadText H _ _ _
        intro d HW eW hd
        refine was_true T.xe_BadText fun eo heo => ?_
        walk_at "sm"
        exact ⟨_, hd, _, rfl, _, hd, _, rfl, sz (by decide), fun o ho => z _ _ (eW.trans (Evl.Ex.new ho)) (.tup upd_same (.cons (.int _) (.cons (.str _) .nil)))⟩
def nmT (t : Tok) (i : Nat) : PyData := match t.1 with
  | some (.name w) => .tuple [.str (S w), .int ((i + 1 : Nat) : Int)]
  | _ => dWant (false, t.2, "want")
def spNT : Sp := fun vs H Q _ => ∃ (p : Addr) (ts : List Tok) (i : Nat) (t : Tok), vs = [.ref p, .int i] ∧ TkA H p ts ∧ ts[i]? = some t ∧
  ∀ y H', Evl.Ex H H' → At H' y (nmT t i) → Q y H'
theorem ok_law_name_told (T : Txt K mg a) : FnOk P w K mg base CX0 4 a.f_law_name_told a.d_law_name_told ["_law_tokens", "_law_at"] spNT := by
  refine T.F_law_name_told.ok sc_law_name_told (fun vs H Q E h => ?_) (fun cdv A outer s H vs Q E hr h => ?_)
  · obtain ⟨_, _, _, _, rfl, _⟩ := h
    rfl
  · obtain ⟨p, ts, i, t, rfl, tk, e, z⟩ := h
    refine ⟨_, (pss_cons (ps_set (i := 2) sc_law_name_told.nd rfl (by first | exact Or.inl rfl | exact Or.inr rfl) pe_non)
  (pss_cons (ps_try_as (i := 3) (Wout := fun _ _ _ _ => False) rfl rfl sc_law_name_told.nd rfl rfl ⟨rfl, by decide, Or.inl T.m_BadText⟩ takes0 (fun W pn xe tk _ => (pss_one (ps_set (i := 2) sc_law_name_told.nd rfl (by first | exact Or.inl rfl | exact Or.inr rfl) (pe_callS (ok_take_name T) (hr.mono (by decide)) rfl T.m_take_name T.F_take_name.kp T.b_take_name (fun σ => passAt tk σ) (pa_cons (pv 0) (pa_cons (pv 1) pa_nil)))))) (fun a oe cls d pn hz hf => (pss_one (ps_set (i := 2) sc_law_name_told.nd rfl (by first | exact Or.inl rfl | exact Or.inr rfl) (pe_tup (pa_cons (pe_xf T.xf_BadText T.xn_BadText_spot hz hf (pv 3)) (pa_cons (pe_xf T.xf_BadText T.xn_BadText_what hz hf (pv 3)) pa_nil)))))))
  (pss_one (ps_ret (pv 2))))), ?_⟩
    walk_at "sm"
    obtain ⟨o, sp⟩ := t
    have good : ∀ wd, o = some (.name wd) → rName ts i = some (.ok (wd, i + 1)) := fun wd q => by unfold rName; rw [e, q]; rfl
    have bad : (∀ wd, o ≠ some (.name wd)) → rName ts i = some (.error (false, sp, "want")) ∧ nmT (o, sp) i = dWant (false, sp, "want") := fun q => by
      unfold rName nmT
      rw [e]
      cases o with
      | none => exact ⟨rfl, rfl⟩
      | some k => cases k with
        | word _ => exact ⟨rfl, rfl⟩
        | num _ => exact ⟨rfl, rfl⟩
        | sign _ => exact ⟨rfl, rfl⟩
        | name wd => exact absurd rfl (q wd)
    by_cases hn : ∃ wd, o = some (.name wd)
    · obtain ⟨wd, hn⟩ := hn
      refine ⟨p, ts, i, rfl, tk, .ok (wd, i + 1), good wd hn, fun e he => (nomatch he), fun r hr q H1 e1 hq => ?_⟩
      cases hr
      subst hn
      exact z _ H1 e1 (.tup hq (.cons (.str _) (.cons (.int _) .nil)))
    · obtain ⟨b1, b2⟩ := bad fun wd q => hn ⟨wd, q⟩
      rw [b2] at z
      refine ⟨p, ts, i, rfl, tk, _, b1, fun e he => ?_, fun j hj => (nomatch hj)⟩
      cases he
      show Rz a.c_BadText H _ _ _
      intro d HW eW hd
      refine was_true T.xe_BadText fun eo heo => ?_
      walk_at "sm"
      exact ⟨_, hd, _, rfl, _, hd, _, rfl, sz (by decide), fun o ho => z _ _ (eW.trans (Evl.Ex.new ho)) (.tup upd_same (.cons (.int _) (.cons (.str _) .nil)))⟩
/-- a token of a text -/
def okTok (t : Tok) : Prop := match t.1 with
  | some k => okTk k = true
  | none => True
theorem for_lst {K : PySem.W.Frag} {te : TE} {g : TG} {tb : TS} {D : Ends} {σ : L2.St} {H : Hp} (h : te σ H fun x H1 => ∃ b, x = .ref b ∧ (∃ xs, SqL K H1 b xs) ∧ tFor (fun _ H R => R (Itl K b) H) g tb D σ H1) : tFor (iList K te) g tb D σ H := h
theorem sh_want {i : Nat} {w : Str} (h : PyData.strOk w = true) {b : Bool} : SeqAt.shaped (dWant (b, i, w)) = true := by
  refine shaped_of (n := 1) (lay_tup (n := 0) fun d hm => ?_) (by decide)
  simp only [List.mem_cons, List.not_mem_nil, or_false] at hm
  rcases hm with rfl | rfl
  · exact lay_i
  · exact lay_s h
theorem strOk_want : PyData.strOk (Str.ofString "want") = true := by decide +kernel
def rtI (p : Addr) (i : Nat) (t : Tok) (HA : Hp) : Nat → L2.St → Hp → Prop := fun _ σ H' => ∃ v5 v6, σ = [some (.ref p), some (.int i), some (.str (tkKind t)), some (tkVal t), some (.int (t.2 : Nat)), v5, v6] ∧ Evl.Ex HA H'
def rtM (p : Addr) (i : Nat) (t : Tok) (HA : Hp) (v : Cs) : L2.St → Hp → Prop := fun σ H' => ∃ due, σ = [some (.ref p), some (.int i), some (.str (tkKind t)), some (tkVal t), some (.int (t.2 : Nat)), some (.str (S v)), some due] ∧ Evl.Ex HA H' ∧ At H' due (if isS t v = true then .int ((i + 1 : Nat) : Int) else dWant (false, t.2, "want"))
theorem sh_due {t : Tok} {v : Cs} {i : Nat} : SeqAt.shaped (if isS t v = true then .int ((i + 1 : Nat) : Int) else dWant (false, t.2, "want")) = true := by
  by_cases h : isS t v = true
  · rw [if_pos h]; rfl
  · rw [if_neg h]; exact sh_want strOk_want
def spRight : Sp := fun vs H Q _ => ∃ (p : Addr) (ts : List Tok) (i : Nat) (t : Tok), vs = [.ref p, .int i] ∧ TkA H p ts ∧ ts[i]? = some t ∧ okTok t ∧ ∀ H', Evl.Ex H H' → Q (.bl true) H'
theorem ok_law_tokens_right (T : Txt K mg a) : FnOk P w K mg base CX0 5 a.f_law_tokens_right a.d_law_tokens_right ["_law_tokens", "_law_at"] spRight := by
  refine T.F_law_tokens_right.ok sc_law_tokens_right (fun vs H Q E h => ?_) (fun cdv A outer s H vs Q E hr h => ?_)
  · obtain ⟨_, _, _, _, rfl, _⟩ := h
    rfl
  · obtain ⟨p, ts, i, t, rfl, tk, e, ok, z⟩ := h
    refine ⟨_, (pss_cons (ps_asg (pe_ix ix_tup (pv 0) (pv 1) (fun _ _ => rfl)) (pg_tup rfl (pgs_cons (pg_name (i := 2) sc_law_tokens_right.nd rfl (by first | exact Or.inl rfl | exact Or.inr rfl)) (pgs_cons (pg_name (i := 3) sc_law_tokens_right.nd rfl (by first | exact Or.inl rfl | exact Or.inr rfl)) (pgs_cons (pg_name (i := 4) sc_law_tokens_right.nd rfl (by first | exact Or.inl rfl | exact Or.inr rfl)) pgs_nil)))))
  (pss_cons (ps_for PassesOwn.never rfl (pi_list (pe_lst (pa_cons pe_str (pa_cons pe_str (pa_cons pe_str (pa_cons pe_str (pa_cons pe_str (pa_cons pe_str (pa_cons pe_str (pa_cons pe_str pa_nil)))))))))) (pg_name (i := 5) sc_law_tokens_right.nd rfl (by first | exact Or.inl rfl | exact Or.inr rfl)) (Evl.pss_cut (ps_set (i := 6) sc_law_tokens_right.nd rfl (by first | exact Or.inl rfl | exact Or.inr rfl) (pe_ifExp (PW.pt (pw_and (pt_cmpR op_in_seq (pv 2) (pe_lst (pa_cons pe_str (pa_cons pe_str pa_nil))) (by rfl)) (pw_and1 (pt_cmpR op_eq (pv 3) (pv 5) (nomark _))))) (pe_op op_add (pv 1) pe_int) (pe_tup (pa_cons (pv 4) (pa_cons pe_str pa_nil)))))
  (pss_one (ps_if (pt_cmpR (op_neD hr.units) (pe_call (ok_law_sign_told T) (hr.mono (by decide)) rfl T.m_law_sign_told T.F_law_sign_told.kp T.b_law_sign_told .nil pass0 (pa_cons (pv 0) (pa_cons (pv 1) (pa_cons (pv 5) pa_nil)))) (pv 6) (nomark _)) (pss_one (ps_ret pe_bl))
    pss_nil))))
  (pss_cons (ps_if (PW.pt (pw_and (pt_cmpR op_in_seq (pv 2) (pe_lst (pa_cons pe_str (pa_cons pe_str pa_nil))) (by rfl)) (pw_and1 (pt_cmpR (op_neD hr.units) (pe_call (ok_law_sign_told T) (hr.mono (by decide)) rfl T.m_law_sign_told T.F_law_sign_told.kp T.b_law_sign_told .nil pass0 (pa_cons (pv 0) (pa_cons (pv 1) (pa_cons (pv 3) pa_nil)))) (pe_op op_add (pv 1) pe_int) (nomark _))))) (pss_one (ps_ret pe_bl))
    pss_nil)
  (pss_one (ps_ret (pe_cmpR (op_eqD hr.units) (pe_call (ok_law_name_told T) (hr.mono (by decide)) rfl T.m_law_name_told T.F_law_name_told.kp T.b_law_name_told .nil pass0 (pa_cons (pv 0) (pa_cons (pv 1) pa_nil))) (pe_ifExp (pt_cmpR op_eq (pv 2) pe_str (nomark _)) (pe_tup (pa_cons (pv 3) (pa_cons (pe_op op_add (pv 1) pe_int) pa_nil))) (pe_tup (pa_cons (pv 4) (pa_cons pe_str pa_nil)))) (nomark _))))))), ?_⟩
    walk_at "sm"
    refine tkA_ix tk e fun b hb => ?_
    rw [tkV_eq] at hb
    refine ⟨b, rfl, _, .inl (.inl hb), rfl, ?_⟩
    walk_at "sm"
    refine for_lst ?_
    walk_at "sm"
    refine ⟨sz (by decide), fun l hl => ⟨⟨_, SqL.of upd_same⟩, ?_⟩⟩
    have e0 := Evl.Ex.new (o := .lst ((["(", "+", "pick", "let", "<<", ";", "x", ""] : List Str).map V.str)) hl
    have hl1 : (upd H l (.lst ((["(", "+", "pick", "let", "<<", ";", "x", ""] : List Str).map V.str))) l = some (.lst ((["(", "+", "pick", "let", "<<", ";", "x", ""] : List Str).map V.str)) := upd_same
    change tFor _ _ _ _ _ (upd H l (.lst ((["(", "+", "pick", "let", "<<", ";", "x", ""] : List Str).map V.str)))
    generalize upd H l (.lst ((["(", "+", "pick", "let", "<<", ";", "x", ""] : List Str).map V.str)) = HA at *
    refine for_list (K := K) (a := l) (xs := (["(", "+", "pick", "let", "<<", ";", "x", ""] : List Str).map V.str) (rtI p i t HA) ⟨none, none, rfl, Evl.Ex.refl _⟩ (fun j σ H' _ ⟨_, _, _, e⟩ => Evl.ex_l e (SqL.of hl1)) ?_ ?_
    · rintro j x σ H1 hj ⟨v5, v6, rfl, e1⟩
      obtain ⟨zz, _, rfl⟩ := str_at_map hj
      obtain ⟨v, rfl⟩ : ∃ v : Cs, zz = S v := ⟨zz.cps.toList, (SX.S_tl zz).symm⟩
      walk_at "sm"
      refine ⟨rtM p i t HA v, ?_, ?_⟩
      · walk_at "sm"
        refine ⟨sz (by decide), fun q hq => in_lst upd_same rfl (by decide +kernel) ⟨_, rfl, ?_⟩⟩
        have e2 := e1.trans (Evl.Ex.new (o := .lst [V.str "sign", V.str "word"]) hq)
        have hq2 := isS_eq t v
        change if inV (V.str (tkKind t)) [V.str "sign", V.str "word"] = true then _ else _
        change Evl.Ex HA (upd H1 q (.lst [V.str "sign", V.str "word"])) at e2
        generalize upd H1 q (.lst [V.str "sign", V.str "word"]) = H2 at *
        have no : isS t v = false → 0 + 1 + 1 ≤ sizeLine ∧ ∀ p_1, H2 p_1 = none → rtM p i t HA v [some (V.ref p), some (V.int ↑i), some (V.str (tkKind t)), some (tkVal t), some (V.int ↑t.snd), some (V.str (S v)), some (V.ref p_1)] (upd H2 p_1 (HO.tup [V.int ↑t.snd, V.str "want"])) := fun h => ⟨sz (by decide), fun p1 hp1 => ⟨_, rfl, e2.trans (Evl.Ex.new hp1), by
          rw [h, if_neg (by decide)]
          exact .tup upd_same (.cons (.int _) (.cons (.str _) .nil))⟩⟩
        generalize hc : inV (V.str (tkKind t)) _ = c at hq2 ⊢
        cases c with
        | false => exact iteF (no hq2)
        | true =>
          refine iteT ⟨tkVal_scal t v, ite2 (fun hv => ⟨_, rfl, e2, ?_⟩) (fun hv => no (by rw [hq2, decide_eq_false hv]; rfl))⟩
          rw [hq2, decide_eq_true hv]
          exact .int _
      · rintro σ H2 ⟨due, rfl, e2, hd⟩
        walk_at "sm"
        refine ⟨p, ts, i, v, t, rfl, tk.go (Tp.ex (e0.trans e2)), e, fun y H3 e3 hy => ?_⟩
        refine ne_same (At.dp _ _ hy) (At.dp _ _ (hd.ex e3)) sh_due ⟨_, rfl, iteF ⟨_, _, rfl, e2.trans e3⟩⟩
    · rintro σ H1 ⟨v5, v6, rfl, e1⟩
      walk_at "sm"
      have tail : ∀ H2, Evl.Ex HA H2 → spNT [V.ref p, V.int ↑i] H2 (fun x H1 => if tkKind t = Str.ofString "name" then 0 + 1 + 1 ≤ sizeLine ∧ ∀ (p : Addr), H1 p = none → rEqD K x (V.ref p) (upd H1 p (HO.tup [tkVal t, V.int (↑i + 1)])) Q
          else 0 + 1 + 1 ≤ sizeLine ∧ ∀ (p : Addr), H1 p = none → rEqD K x (V.ref p) (upd H1 p (HO.tup [V.int ↑t.snd, V.str (Str.ofString "want")])) Q) E0 := fun H2 e2 => by
        refine ⟨p, ts, i, t, rfl, tk.go (Tp.ex (e0.trans e2)), e, fun y H3 e3 hy => ite2 (fun hn => ⟨sz (by decide), fun q hq => ?_⟩) (fun hn => ⟨sz (by decide), fun q hq => ?_⟩)⟩
        · obtain ⟨wd, hwd⟩ := kind_nm hn
          have hok : okTk (.name wd) = true := by
            unfold okTok at ok
            rw [hwd] at ok
            exact ok
          have hd : nmT t i = .tuple [.str (S wd), .int ((i + 1 : Nat) : Int)] := by unfold nmT; rw [hwd]
          have hv : tkVal t = .str (S wd) := by unfold tkVal; rw [hwd]; rfl
          rw [hd] at hy
          rw [hv]
          refine eq_same (At.dp _ _ (At.ex (Evl.Ex.new hq) hy)) (At.dp _ _ (.tup upd_same (.cons (.str _) (.cons (.int _) .nil)))) ?_ (z _ (e0.trans (e2.trans (e3.trans (Evl.Ex.new hq)))))
          refine shaped_of (n := 1) (lay_tup (n := 0) fun d hm => ?_) (by decide)
          simp only [List.mem_cons, List.not_mem_nil, or_false] at hm
          rcases hm with rfl | rfl
          · exact lay_s (okS (okTk_nm hok))
          · exact lay_i
        · have hd : nmT t i = dWant (false, t.2, "want") := by
            unfold nmT
            obtain ⟨o, sp⟩ := t
            cases o with
            | none => rfl
            | some k => cases k with
              | word _ => rfl
              | num _ => rfl
              | sign _ => rfl
              | name wd => exact absurd rfl hn
          rw [hd] at hy
          exact eq_same (At.dp _ _ (At.ex (Evl.Ex.new hq) hy)) (At.dp _ _ (.tup upd_same (.cons (.int _) (.cons (.str _) .nil)))) (sh_want strOk_want) (z _ (e0.trans (e2.trans (e3.trans (Evl.Ex.new hq)))))
      refine ⟨sz (by decide), fun q hq => in_lst upd_same rfl (by decide +kernel) ⟨_, rfl, ?_⟩⟩
      have e2 := e1.trans (Evl.Ex.new (o := .lst [V.str "sign", V.str "word"]) hq)
      change Evl.Ex HA (upd H1 q (.lst [V.str "sign", V.str "word"])) at e2
      have ks := kind_sw t
      change if inV (V.str (tkKind t)) [V.str "sign", V.str "word"] = true then _ else _
      generalize upd H1 q (.lst [V.str "sign", V.str "word"]) = H2 at *
      have yes : ∀ s, isS t s = true → tkVal t = .str (S s) → inV (V.str (tkKind t)) [V.str "sign", V.str "word"] = true → if inV (V.str (tkKind t)) [V.str "sign", V.str "word"] = true then spST [V.ref p, V.int ↑i, tkVal t] H2 (fun x H1 => rNeD K x (V.int (↑i + 1)) H1 fun x H' => ∃ k, x = V.bl k ∧ if k = true then Q (V.bl false) H' else spNT [V.ref p, V.int ↑i] H' (fun x H1 => if tkKind t = Str.ofString "name" then 0 + 1 + 1 ≤ sizeLine ∧ ∀ (p : Addr), H1 p = none → rEqD K x (V.ref p) (upd H1 p (HO.tup [tkVal t, V.int (↑i + 1)])) Q
          else 0 + 1 + 1 ≤ sizeLine ∧ ∀ (p : Addr), H1 p = none → rEqD K x (V.ref p) (upd H1 p (HO.tup [V.int ↑t.snd, V.str (Str.ofString "want")])) Q) E0) E0 else spNT [V.ref p, V.int ↑i] H2 (fun x H1 => if tkKind t = Str.ofString "name" then 0 + 1 + 1 ≤ sizeLine ∧ ∀ (p : Addr), H1 p = none → rEqD K x (V.ref p) (upd H1 p (HO.tup [tkVal t, V.int (↑i + 1)])) Q
          else 0 + 1 + 1 ≤ sizeLine ∧ ∀ (p : Addr), H1 p = none → rEqD K x (V.ref p) (upd H1 p (HO.tup [V.int ↑t.snd, V.str (Str.ofString "want")])) Q) E0 := fun s h1 h2 h3 => by
        rw [if_pos h3]
        refine ⟨p, ts, i, s, t, by rw [h2], tk.go (Tp.ex (e0.trans e2)), e, fun y H3 e3 hy => ?_⟩
        rw [h1, if_pos rfl] at hy
        exact ne_same (At.dp _ _ hy) (.int _) rfl ⟨_, rfl, iteF (tail H3 (e2.trans e3))⟩
      obtain ⟨o, sp⟩ := t
      cases o with
      | none => exact iteN (by rw [ks]; exact fun q => nomatch q) (tail H2 e2)
      | some k => cases k with
        | num _ => exact iteN (by rw [ks]; exact fun q => nomatch q) (tail H2 e2)
        | name _ => exact iteN (by rw [ks]; exact fun q => nomatch q) (tail H2 e2)
        | word s => exact yes s (decide_eq_true rfl) rfl ks
        | sign s => exact yes s (decide_eq_true rfl) rfl ks
end

/-! ### what is spoiled -/
inductive Bd | qq | qq1 | one (w : Cs) | plus | sh (w : Cs) | pick | many (f : Cs) (n : Nat)
def wQq : Cs := [113, 113]
def Bd.ps : Bd → List Pc
  | .qq => [(0, .name wQq)]
  | .qq1 => [(0, .name wQq), (0, .sign [40]), (0, .num 1), (0, .sign [41])]
  | .one w => [(0, .name w), (0, .sign [40]), (0, .name w), (0, .sign [41])]
  | .plus => [(0, .num 1), (1, .sign [43]), (1, .sign [59])]
  | .sh w => [(0, .sign [40]), (0, .name w), (1, .sign [60, 60]), (1, .name w), (0, .sign [41])]
  | .pick => [(0, .word wPick), (0, .sign [40]), (0, .num 1), (0, .sign [44]), (1, .num 2), (0, .sign [41])]
  | .many f n => (0, .name f) :: (0, .sign [40]) :: (numsP (List.replicate n 1) ++ [(0, .sign [41])])
def Bd.er (sp : Nat) : Bd → Er
  | .qq => (true, sp, "unknown")
  | .qq1 => (true, sp, "elder")
  | .one _ => (true, sp, "elder")
  | .plus => (false, sp + 4, "want")
  | .sh w => (false, sp + (5 + w.length), "want")
  | .pick => (false, sp + 9, "want")
  | .many _ _ => (true, sp, "many")
def Bd.ok (ws : List Cs) (fs : List Fun3) : Bd → Prop
  | .one w => w ∈ ws
  | .sh w => w ∈ ws
  | .many f n => ∃ g, g ∈ fs ∧ g.1 = f ∧ n = g.2.1 + 1
  | _ => True
structure WSep (ws : List Cs) (fs : List Fun3) : Prop where
  q1 : wQq ∉ ws
  q2 : fs.find? (fun g => decide (g.1 = wQq)) = none
  q3 : ∀ w ∈ ws, fs.find? (fun g => decide (g.1 = w)) = none
theorem ones_le {n : Nat} : ∀ m ∈ List.replicate n 1, m ≤ 4095 := fun m hm => by
  rw [(List.mem_replicate.mp hm).2]; omega
theorem Bd.good {ws : List Cs} {fs : List Fun3} (W : WEnv ws fs) : ∀ {b : Bd}, b.ok ws fs → okPs b.ps [] = true ∧ ∀ c, c < 20 → brks c b.ps = some c
  | .qq, _ => ⟨by decide, fun _ _ => rfl⟩
  | .qq1, _ => ⟨by decide +kernel, fun c hc => brC rfl (brC (brk_op hc) (brC rfl (brC brk_cl rfl)))⟩
  | .one w, h => ⟨okC (W.nw w h).1 (adj_end rfl (by intro s q; cases q)) (okC (by decide) (adj_solo (by decide)) (okC (W.nw w h).1 (adj_end rfl (by intro s q; cases q)) (okC (by decide) (adj_solo (by decide)) rfl))), fun c hc => brC rfl (brC (brk_op hc) (brC rfl (brC brk_cl rfl)))⟩
  | .plus, _ => ⟨by decide +kernel, fun _ _ => rfl⟩
  | .sh w, h => ⟨okC (by decide) (adj_solo (by decide)) (okC (W.nw w h).1 (adj_end rfl (by intro s q; cases q)) (okC (by decide) adj_bl (okC (W.nw w h).1 (adj_end rfl (by intro s q; cases q)) (okC (by decide) (adj_solo (by decide)) rfl)))), fun c hc => brC (brk_op hc) (brC rfl (brC rfl (brC rfl (brC brk_cl rfl))))⟩
  | .pick, _ => ⟨by decide +kernel, fun c hc => brC rfl (brC (brk_op hc) (brC rfl (brC rfl (brC rfl (brC brk_cl rfl)))))⟩
  | .many f n, h => by
    obtain ⟨g, hg, rfl, _⟩ := h
    exact ⟨okC (W.nf g hg).1 (adj_end rfl (by intro s q; cases q)) (okC (by decide) (adj_solo (by decide)) (okA (okPs_nums ones_le rfl).1 (okC (by decide) (adj_solo (by decide)) rfl))), fun c hc => brC rfl (brC (brk_op hc) (brA ((okPs_nums (r := []) ones_le rfl).2 _) (brC brk_cl rfl)))⟩
section
variable {ts : List Tok} {ns : Option (List Cs)} {fs : List Fun3}
theorem op40 (j : Nat) : isS (some (.sign [40]), j) [40] = true := rfl
theorem bnd_er {α β : Type} {x : R α} {b : Bool} {i : Nat} {w : Str} {f : α → R β} (h : x = rer b i w) : bnd x f = rer b i w := by rw [h]; rfl
theorem rSign_no {i j : Nat} {s : Cs} {o : Option Tk} (h : ts[i]? = some (o, j)) (hn : isS (o, j) s = false) : rSign ts i s = rer false j "want" := by
  unfold rSign
  rw [h]
  show (if isS (o, j) s = true then _ else _) = _
  rw [if_neg (by rw [hn]; decide)]
theorem rNum_no {i j : Nat} {o : Option Tk} (h : ts[i]? = some (o, j)) (hn : ∀ n, o ≠ some (.num n)) : rNum ts i = rer false j "want" := by
  unfold rNum
  rw [h]
  cases o with
  | none => rfl
  | some k => cases k with
    | num n => exact absurd rfl (hn n)
    | word _ => rfl
    | name _ => rfl
    | sign _ => rfl
theorem rDeep_num {K i sp n least : Nat} {u : Tok} (h1 : ts[i]? = some (some (.num n), sp)) (h2 : ts[i + 1]? = some u) (ho : opOf u = none) : rDeep ts ns fs (K + 1) i least = rok (dNum n, 1, i + 1) := by
  show bnd (rPart (rDeep ts ns fs K) ts ns fs i) _ = _
  have e : rPart (rDeep ts ns fs K) ts ns fs i = rok (dNum n, 1, i + 1) := by
    show atT ts i _ = _
    rw [atT_eq h1]
    rfl
  rw [bnd_ok e]
  obtain ⟨m, hm⟩ : ∃ m, ts.length = m + 1 := ⟨ts.length - 1, by have := (List.getElem?_eq_some_iff.mp h2).1; omega⟩
  rw [hm]
  exact rLoop_end h2 ho
theorem rParts_ones {K : Nat} : ∀ (n m gr i sp j : Nat) (acc : List PyData) (rest : List Tok), n + 1 ≤ m → ts.drop i = toks sp (numsP (List.replicate (n + 1) 1)) ++ (some (.sign [41]), j) :: rest →
    ∃ g e, rParts (rDeep ts ns fs (K + 1)) ts m acc gr i = rok (acc ++ List.replicate (n + 1) (dNum 1), g, e)
  | 0, m, gr, i, sp, j, acc, rest, hm, hd => by
    obtain ⟨q, rfl⟩ : ∃ q, m = q + 1 := ⟨m - 1, by omega⟩
    obtain ⟨h1, h2⟩ := seg_hd (ps := []) hd
    obtain ⟨h3, _, _⟩ := drop_hd h2
    refine ⟨max gr 1, i + 1 + 1, ?_⟩
    show bnd (rDeep ts ns fs (K + 1) i 0) _ = _
    rw [bnd_ok (rDeep_num h1 h3 rfl)]
    show (match ts[i + 1]? with | none => none | some t => _) = _
    rw [h3]
    show (if decide (([41] : Cs) = [44]) = true then _ else _) = _
    rw [if_neg (by decide), bnd_ok (rSign_ok h3)]
    rfl
  | n + 1, m, gr, i, sp, j, acc, rest, hm, hd => by
    obtain ⟨q, rfl⟩ : ∃ q, m = q + 1 := ⟨m - 1, by omega⟩
    have hd : ts.drop i = toks sp ((0, .num 1) :: (0, .sign [44]) :: bump (numsP (List.replicate (n + 1) 1))) ++ (some (.sign [41]), j) :: rest := hd
    obtain ⟨h1, h2⟩ := seg_hd hd
    obtain ⟨h3, h4⟩ := seg_hd h2
    rw [toks_bump (numsP_ne (by simp))] at h4
    obtain ⟨g, e, hg⟩ := rParts_ones n q (max gr 1) (i + 1 + 1) _ j (acc ++ [dNum 1]) rest (by omega) h4
    refine ⟨g, e, ?_⟩
    show bnd (rDeep ts ns fs (K + 1) i 0) _ = _
    rw [bnd_ok (rDeep_num h1 h3 rfl)]
    show (match ts[i + 1]? with | none => none | some t => _) = _
    rw [h3]
    show (if decide (([44] : Cs) = [44]) = true then _ else _) = _
    rw [if_pos (by decide), hg, List.append_assoc]
    rfl
theorem rPart_nm {K i sp : Nat} {nm : Cs} {u : Tok} (h1 : ts[i]? = some (some (.name nm), sp)) (h2 : ts[i + 1]? = some u) : rPart (rDeep ts ns fs K) ts ns fs i = if isS u [40] = true then rCall (rDeep ts ns fs K) ts fs nm sp i else rNm1 ns nm sp i := by
  show atT ts i _ = _
  rw [atT_eq h1]
  show (match ts[i + 1]? with | none => none | some t => _) = _
  rw [h2]
theorem rCall_no {sub : Sub} {nm : Cs} {sp i : Nat} (h : fs.find? (fun g => decide (g.1 = nm)) = none) : rCall sub ts fs nm sp i = rer true sp "elder" := by
  unfold rCall
  rw [h]
theorem rDeep_er {K i least sp : Nat} {b : Bool} {w : Str} (h : rPart (rDeep ts ns fs K) ts ns fs i = rer b sp w) : rDeep ts ns fs (K + 1) i least = rer b sp w := by
  show bnd (rPart (rDeep ts ns fs K) ts ns fs i) _ = _
  exact bnd_er h
theorem Bd.read {ws : List Cs} (W : WEnv ws fs) (Sp : WSep ws fs) {l : List Cs} (hl : l = ws) {b : Bd} (hb : b.ok ws fs) (hns : ns = some l ∨ (ns = none ∧ b ≠ .qq)) {i sp en K : Nat} {rest : List Tok} (hd : ts.drop i = toks sp b.ps ++ (none, en) :: rest) : ∀ {r}, (bnd (rDeep ts ns fs (K + 4) i 6) r : R Ex3) = some (.error (b.er sp)) ∨ (b = .plus ∧ rDeep ts ns fs (K + 4) i 6 = rok (dNum 1, 1, i + 1)) := by
  subst hl
  intro r
  cases b with
  | qq =>
    left
    obtain ⟨h1, h2⟩ := seg_hd (ps := []) hd
    obtain ⟨h3, _, _⟩ := drop_hd h2
    refine bnd_er (rDeep_er ?_)
    rw [rPart_nm h1 h3, if_neg (fun q => nomatch q)]
    rcases hns with rfl | ⟨_, q⟩
    · unfold rNm1
      show (if l.contains wQq = true then _ else _) = _
      rw [if_neg (by simpa using Sp.q1)]
      rfl
    · exact absurd rfl q
  | qq1 =>
    left
    obtain ⟨h1, h2⟩ := seg_hd hd
    obtain ⟨h3, _⟩ := seg_hd h2
    refine bnd_er (rDeep_er ?_)
    rw [rPart_nm h1 h3, if_pos (op40 _), rCall_no Sp.q2]
    rfl
  | one w =>
    left
    obtain ⟨h1, h2⟩ := seg_hd hd
    obtain ⟨h3, _⟩ := seg_hd h2
    refine bnd_er (rDeep_er ?_)
    rw [rPart_nm h1 h3, if_pos (op40 _), rCall_no (Sp.q3 w hb)]
    rfl
  | plus =>
    right
    obtain ⟨h1, h2⟩ := seg_hd hd
    obtain ⟨h3, _⟩ := seg_hd h2
    refine ⟨rfl, ?_⟩
    show bnd (rPart (rDeep ts ns fs (K + 3)) ts ns fs i) _ = _
    have e : rPart (rDeep ts ns fs (K + 3)) ts ns fs i = rok (dNum 1, 1, i + 1) := by
      show atT ts i _ = _
      rw [atT_eq h1]
      rfl
    rw [bnd_ok e]
    obtain ⟨m, hm⟩ : ∃ m, ts.length = m + 1 := ⟨ts.length - 1, by have := (List.getElem?_eq_some_iff.mp h3).1; omega⟩
    rw [hm]
    exact rLoop_low h3 rfl (by decide)
  | sh w =>
    left
    obtain ⟨h1, h2⟩ := seg_hd hd
    obtain ⟨h3, h4⟩ := seg_hd h2
    obtain ⟨h5, h6⟩ := seg_hd h4
    obtain ⟨h7, _⟩ := seg_hd h6
    refine bnd_er (rDeep_er ?_)
    rw [rPart_op h1]
    refine bnd_er ?_
    show bnd (rPart (rDeep ts ns fs (K + 2)) ts ns fs (i + 1)) _ = _
    have e : rPart (rDeep ts ns fs (K + 2)) ts ns fs (i + 1) = rok (dName w, 1, i + 1 + 1) := by
      rw [rPart_nm h3 h5, if_neg (fun q => nomatch q)]
      unfold rNm1
      rcases hns with rfl | ⟨rfl, _⟩
      · show (if l.contains w = true then _ else _) = _
        rw [if_pos (List.contains_iff_mem.mpr hb)]
        rfl
      · rfl
    rw [bnd_ok e]
    obtain ⟨m, hm⟩ : ∃ m, ts.length = m + 1 := ⟨ts.length - 1, by have := (List.getElem?_eq_some_iff.mp h5).1; omega⟩
    rw [hm, rLoop_sh h5 (s := [60, 60]) (g := 7) rfl (by omega) rfl]
    rw [bnd_er (rNum_no h7 (by intro n q; cases q))]
    show rer false _ _ = some (.error (false, sp + (5 + w.length), "want"))
    have : sp + 0 + (tkC (Tk.sign [40])).length + 0 + (tkC (Tk.name w)).length + 1 + (tkC (Tk.sign [60, 60])).length + 1 = sp + (5 + w.length) := by
      show sp + 0 + 1 + 0 + w.length + 1 + 2 + 1 = _
      omega
    rw [this]
    rfl
  | pick =>
    left
    obtain ⟨h1, h2⟩ := seg_hd hd
    obtain ⟨h3, h4⟩ := seg_hd h2
    obtain ⟨h5, h6⟩ := seg_hd h4
    obtain ⟨h7, h8⟩ := seg_hd h6
    obtain ⟨h9, h10⟩ := seg_hd h8
    obtain ⟨h11, _⟩ := seg_hd h10
    refine bnd_er (rDeep_er ?_)
    show atT ts i _ = _
    rw [atT_eq h1]
    show (if decide (wPick = wPick) = true then rPick (rDeep ts ns fs (K + 3)) ts _ i else _) = _
    rw [if_pos (by decide)]
    unfold rPick
    rw [bnd_ok (rSign_ok h3), bnd_ok (rDeep_num h5 h7 rfl), bnd_ok (rSign_ok h7), bnd_ok (rDeep_num h9 h11 rfl), bnd_er (rSign_no h11 rfl)]
    rfl
  | many f n =>
    left
    obtain ⟨g, hg, rfl, rfl⟩ := hb
    obtain ⟨h1, h2⟩ := seg_hd hd
    obtain ⟨h3, h4⟩ := seg_hd h2
    obtain ⟨h5, h6⟩ := seg_ap h4
    obtain ⟨_, _, _, _, w5⟩ := W.nf g hg
    have h5 : ts.drop (i + 2) = toks _ (numsP (List.replicate (g.2.1 + 1) 1)) ++ (some (.sign [41]), _) :: _ := h5
    have ll : g.2.1 + 1 ≤ ts.length := by
      have e1 := congrArg List.length h5
      rw [List.length_drop, List.length_append, toks_len] at e1
      have : ∀ n, n + 1 ≤ (numsP (List.replicate (n + 1) 1)).length := by
        intro n
        induction n with
        | zero => exact Nat.le_refl _
        | succ n ih =>
          show n + 1 + 1 ≤ (bump (numsP (List.replicate (n + 1) 1))).length + 1 + 1
          rw [bump_len]
          omega
      have := this g.2.1
      omega
    have h8 : ∃ t j8, ts[i + 2]? = some (some (.num t), j8) := by
      cases hm : g.2.1 with
      | zero => rw [hm] at h5; exact ⟨_, _, (seg_hd h5).1⟩
      | succ n =>
        rw [hm] at h5
        have h5 : ts.drop (i + 2) = toks _ ((0, .num 1) :: (0, .sign [44]) :: bump (numsP (List.replicate (n + 1) 1))) ++ _ := h5
        exact ⟨_, _, (seg_hd h5).1⟩
    obtain ⟨t, j8, h8⟩ := h8
    obtain ⟨gd, e, hp⟩ := rParts_ones (ns := ns) (fs := fs) (K := K + 2) g.2.1 ts.length 0 (i + 2) _ _ [] _ ll h5
    refine bnd_er (rDeep_er ?_)
    rw [rPart_nm h1 h3, if_pos (op40 _)]
    unfold rCall
    rw [w5]
    have ep : rPartsA (rDeep ts ns fs (K + 3)) ts (i + 2) = rok (List.replicate (g.2.1 + 1) (dNum 1), gd, e) := by
      show (match ts[i + 2]? with | none => none | some t => _) = _
      rw [h8]
      exact hp
    show bnd (rPartsA (rDeep ts ns fs (K + 3)) ts (i + 2)) _ = _
    rw [bnd_ok ep]
    show (if (List.replicate (g.2.1 + 1) (dNum 1)).length = g.2.1 then _ else _) = _
    rw [if_neg (by rw [List.length_replicate]; omega)]
    rfl
end


def Bd.off : Bd → Nat
  | .plus => 4 | .sh w => 5 + w.length | .pick => 9 | _ => 0
def Bd.nm : Bd → Bool
  | .plus => false | .sh _ => false | .pick => false | _ => true
def Bd.what : Bd → Str
  | .qq => "unknown" | .qq1 => "elder" | .one _ => "elder" | .many _ _ => "many" | _ => "want"
theorem Bd.er_eq (b : Bd) (sp : Nat) : b.er sp = (b.nm, sp + b.off, b.what) := by cases b <;> rfl
def Bd.wh (b : Bd) : Str := if b.nm = true then "name" else "text"
def Bd.row (b : Bd) : List V := [.str (S (flat b.ps)), .int (b.off : Nat), .str b.wh, .str b.what]
theorem row_qq : [V.str (Str.ofString "qq"), V.int 0, V.str (Str.ofString "name"), V.str (Str.ofString "unknown")] = Bd.qq.row := by
  have e : (Str.ofString "qq" : Str) = S (flat Bd.qq.ps) := by decide +kernel
  rw [e]; rfl
theorem row_qq1 : [V.str (Str.ofString "qq(1)"), V.int 0, V.str (Str.ofString "name"), V.str (Str.ofString "elder")] = Bd.qq1.row := by
  have e : (Str.ofString "qq(1)" : Str) = S (flat Bd.qq1.ps) := by decide +kernel
  rw [e]; rfl
theorem row_one (w : Cs) : [V.str (S w ++ Str.ofString "(" ++ S w ++ Str.ofString ")"), V.int 0, V.str (Str.ofString "name"), V.str (Str.ofString "elder")] = (Bd.one w).row := by
  have e : S w ++ Str.ofString "(" ++ S w ++ Str.ofString ")" = S (flat (Bd.one w).ps) := by
    simp only [lito, litq, SX.S_cat]
    simp [Bd.ps, flat, tkC]
  rw [e]; rfl
theorem row_plus : [V.str (Str.ofString "1 + ;"), V.int 4, V.str (Str.ofString "text"), V.str (Str.ofString "want")] = Bd.plus.row := by
  have e : (Str.ofString "1 + ;" : Str) = S (flat Bd.plus.ps) := by decide +kernel
  rw [e]; rfl
theorem litsh : (Str.ofString " << " : Str) = S [32, 60, 60, 32] := by decide +kernel
theorem row_sh (w : Cs) : [V.str (Str.ofString "(" ++ S w ++ Str.ofString " << " ++ S w ++ Str.ofString ")"), V.int (2 + ((S w).length : Nat) + 3), V.str (Str.ofString "text"), V.str (Str.ofString "want")] = (Bd.sh w).row := by
  have e : Str.ofString "(" ++ S w ++ Str.ofString " << " ++ S w ++ Str.ofString ")" = S (flat (Bd.sh w).ps) := by
    simp only [lito, litq, litsh, SX.S_cat]
    simp [Bd.ps, flat, tkC]
  have e2 : (2 + ((S w).length : Nat) + 3 : Int) = (((Bd.sh w).off : Nat) : Int) := by
    rw [SX.S_len]
    show (2 + (w.length : Int) + 3) = ((5 + w.length : Nat) : Int)
    omega
  rw [e, e2]; rfl
theorem row_pick : [V.str (Str.ofString "pick(1, 2)"), V.int 9, V.str (Str.ofString "text"), V.str (Str.ofString "want")] = Bd.pick.row := by
  have e : (Str.ofString "pick(1, 2)" : Str) = S (flat Bd.pick.ps) := by decide +kernel
  rw [e]; rfl
def RowsAt (H : Hp) (xs : List V) (bs : List Bd) : Prop := Paired (fun v b => ∃ q, v = V.ref q ∧ H q = some (.tup b.row)) xs bs
theorem RowsAt.go {H H' : Hp} {xs : List V} {bs : List Bd} (h : RowsAt H xs bs) (e : Tp H H') : RowsAt H' xs bs := Paired.mapP h fun _ _ ⟨q, h1, h2⟩ => ⟨q, h1, e _ _ h2⟩
theorem row_many (f : Cs) (n : Nat) : [V.str (S f ++ Str.ofString "(" ++ S (flat (numsP (List.replicate n 1))) ++ Str.ofString ")"), V.int 0, V.str (Str.ofString "name"), V.str (Str.ofString "many")] = (Bd.many f n).row := by
  have e : S f ++ Str.ofString "(" ++ S (flat (numsP (List.replicate n 1))) ++ Str.ofString ")" = S (flat (Bd.many f n).ps) := by
    simp only [lito, litq, SX.S_cat]
    show _ = S ([] ++ (f ++ ([] ++ ([40] ++ flat (numsP (List.replicate n 1) ++ [(0, Tk.sign [41])])))))
    rw [flat_app]
    simp [flat, tkC]
  rw [e]; rfl
def FnL3 (H : Hp) (f : Addr) (fs : List Fun3) : Prop := ∃ xs, H f = some (.lst xs) ∧ ToksAt H xs (fs.map fnV)
theorem FnL3.fr {H H' : Hp} {p f : Addr} {l : List V} {fs : List Fun3} (h : FnL3 H f fs) (n : f ≠ p) (e : Fr p H H') (hp : H p = some (.lst l)) : FnL3 H' f fs := by
  obtain ⟨xs, h1, h2⟩ := h
  exact ⟨xs, e _ _ n h1, Paired.mapP h2 fun _ _ ⟨b, e1, e2⟩ => ⟨b, e1, (Tp.fr e hp) b _ e2⟩⟩
section
variable {P : Program} {w : World} {K : PySem.W.Frag} {mg : Str → Option Value} {base : Heap} {a : Ad}
def spSpoil : Sp := fun vs H Q _ => ∃ (p c na fa : Addr) (w0 : Cs) (ws : List Cs) (fs : List Fun3), vs = [.ref p, .ref na, .ref fa] ∧ HandAt H p c ∧ H na = some (.lst ((w0 :: ws).map fun w => V.str (S w))) ∧ FnL3 H fa fs ∧ na ≠ p ∧ fa ≠ p ∧ w0.length ≤ 5 ∧ 1 ≤ fs.length ∧ fs.length ≤ 1000 ∧ (∀ f ∈ fs, f.2.1 ≤ 3 ∧ f.1.length ≤ 5) ∧
  ∀ q (b : Bd) H', Fr p H H' → HandAt H' p c → b.ok (w0 :: ws) fs → H' q = some (.tup b.row) → Q (.ref q) H'
theorem ok_law_spoiled (T : Txt K mg a) : FnOk P w K mg base CX0 3 a.f_law_spoiled a.d_law_spoiled ["_law_hand_here", "_law_names", "_law_funs"] spSpoil := by
  refine T.F_law_spoiled.ok sc_law_spoiled (fun vs H Q E h => ?_) (fun cdv A outer s H vs Q E hr h => ?_)
  · obtain ⟨_, _, _, _, _, _, _, rfl, _⟩ := h
    rfl
  · obtain ⟨p, c, na, fa, w0, ws, fs, rfl, hh, hna, hfa, n1, n2, lw, l1, l2, l3, z⟩ := h
    refine ⟨_, (pss_cons (ps_set (i := 3) sc_law_spoiled.nd rfl (by first | exact Or.inl rfl | exact Or.inr rfl) (pe_ix ix_list (pv 1) pe_int (fun _ _ => rfl)))
  (pss_cons (ps_set (i := 4) sc_law_spoiled.nd rfl (by first | exact Or.inl rfl | exact Or.inr rfl) (pe_lst (pa_cons (pe_tup (pa_cons pe_str (pa_cons pe_int (pa_cons pe_str (pa_cons pe_str pa_nil))))) (pa_cons (pe_tup (pa_cons pe_str (pa_cons pe_int (pa_cons pe_str (pa_cons pe_str pa_nil))))) (pa_cons (pe_tup (pa_cons (pe_op op_add_str (pe_op op_add_str (pe_op op_add_str (pv 3) pe_str) (pv 3)) pe_str) (pa_cons pe_int (pa_cons pe_str (pa_cons pe_str pa_nil))))) (pa_cons (pe_tup (pa_cons pe_str (pa_cons pe_int (pa_cons pe_str (pa_cons pe_str pa_nil))))) pa_nil))))))
  (pss_cons (ps_set (i := 4) sc_law_spoiled.nd rfl (by first | exact Or.inl rfl | exact Or.inr rfl) (pe_op op_cat (pv 4) (pe_lst (pa_cons (pe_tup (pa_cons (pe_op op_add_str (pe_op op_add_str (pe_op op_add_str (pe_op op_add_str pe_str (pv 3)) pe_str) (pv 3)) pe_str) (pa_cons (pe_op op_add (pe_op op_add pe_int (pe_callB call_len_str (by rfl) T.z_len (by decide +kernel) (pa_cons (pv 3) pa_nil))) pe_int) (pa_cons pe_str (pa_cons pe_str pa_nil))))) (pa_cons (pe_tup (pa_cons pe_str (pa_cons pe_int (pa_cons pe_str (pa_cons pe_str pa_nil))))) pa_nil)))))
  (pss_cons (ps_set (i := 5) sc_law_spoiled.nd rfl (by first | exact Or.inl rfl | exact Or.inr rfl) (pe_ix ix_list (pv 2) (pe_call (ok_law_take T) (hr.mono (by decide)) rfl T.m_law_take T.F_law_take.kp T.b_law_take .nil pass0 (pa_cons (pv 0) (pa_cons (pe_callB call_len_seq (by rfl) T.z_len (by decide +kernel) (pa_cons (pv 2) pa_nil)) pa_nil))) (fun _ _ => rfl)))
  (pss_cons (ps_set (i := 6) sc_law_spoiled.nd rfl (by first | exact Or.inl rfl | exact Or.inr rfl) (pe_join pe_str (pe_lc (own := [("_law_k", 7)]) (g := gName 7) (tt := tYes) rfl sc_law_spoiled.nd (pi_range1 (by rfl) T.z_range (pa_cons (pe_op op_add (pe_ix ix_tup (pv 5) pe_int (fun _ _ => rfl)) pe_int) pa_nil)) (blkOk_by (own := [("_law_k", 7)]) (N := ["_law_hand_here", "_law_names", "_law_funs", "_law_one", "_law_rows", "_law_called", "_law_handed", "_law_k"]) (sc := defScope s_law_spoiled) (by decide +kernel)) (fun _ _ _ _ _ => pg_name (i := 7) sc_law_spoiled.nd rfl (Or.inl rfl)) (fun _ _ _ _ _ => pts_nil) (fun _ _ _ _ _ => pe_str))))
  (pss_one (ps_ret (pe_ix ix_list (pe_op op_cat (pv 4) (pe_lst (pa_cons (pe_tup (pa_cons (pe_op op_add_str (pe_op op_add_str (pe_op op_add_str (pe_ix ix_tup (pv 5) pe_int (fun _ _ => rfl)) pe_str) (pv 6)) pe_str) (pa_cons pe_int (pa_cons pe_str (pa_cons pe_str pa_nil))))) pa_nil))) (pe_call (ok_law_take T) (hr.mono (by decide)) rfl T.m_law_take T.F_law_take.kp T.b_law_take .nil pass0 (pa_cons (pv 0) (pa_cons pe_int pa_nil))) (fun _ _ => rfl))))))))), ?_⟩
    walk_at "sm"
    refine ixl (SqL.of hna) (atI_nat (j := 0) rfl) ?_
    walk_at "sm"
    simp only [row_qq, row_qq1, row_one, row_plus, row_sh, row_pick]
    have lw2 : (S w0).length ≤ sizeLine := by rw [SX.S_len]; exact sz (by omega)
    refine ⟨sz (by decide), fun p1 h1 => ⟨sz (by decide), fun p2 h2 => ⟨?_, ?_, ?_, sz (by decide), fun p3 h3 => ⟨sz (by decide), fun p4 h4 => ⟨sz (by decide), fun l1' hl1 => ⟨?_, ?_, ?_, ?_, lw2, sz (by decide), fun p5 h5 => ⟨sz (by decide), fun p6 h6 => ⟨sz (by decide), fun l2' hl2 => ?_⟩⟩⟩⟩⟩⟩⟩⟩
    · simp only [lito, litq, SX.S_cat, SX.S_len, List.length_append, List.length_cons, List.length_nil]; exact sz (by omega)
    · simp only [lito, litq, SX.S_cat, SX.S_len, List.length_append, List.length_cons, List.length_nil]; exact sz (by omega)
    · simp only [lito, litq, SX.S_cat, SX.S_len, List.length_append, List.length_cons, List.length_nil]; exact sz (by omega)
    · simp only [lito, litq, litsh, SX.S_cat, SX.S_len, List.length_append, List.length_cons, List.length_nil]; exact sz (by omega)
    · simp only [lito, litq, litsh, SX.S_cat, SX.S_len, List.length_append, List.length_cons, List.length_nil]; exact sz (by omega)
    · simp only [lito, litq, litsh, SX.S_cat, SX.S_len, List.length_append, List.length_cons, List.length_nil]; exact sz (by omega)
    · simp only [lito, litq, litsh, SX.S_cat, SX.S_len, List.length_append, List.length_cons, List.length_nil]; exact sz (by omega)
    have g1 := Evl.Ex.new (o := .tup Bd.qq.row) h1
    have u1 : (upd H p1 (.tup Bd.qq.row)) p1 = some (.tup Bd.qq.row) := upd_same
    generalize upd H p1 (.tup Bd.qq.row) = H1 at *
    have g2 := Evl.Ex.new (o := .tup Bd.qq1.row) h2
    have u2 : (upd H1 p2 (.tup Bd.qq1.row)) p2 = some (.tup Bd.qq1.row) := upd_same
    generalize upd H1 p2 (.tup Bd.qq1.row) = H2 at *
    have g3 := Evl.Ex.new (o := .tup (Bd.one w0).row) h3
    have u3 : (upd H2 p3 (.tup (Bd.one w0).row)) p3 = some (.tup (Bd.one w0).row) := upd_same
    generalize upd H2 p3 (.tup (Bd.one w0).row) = H3 at *
    have g4 := Evl.Ex.new (o := .tup Bd.plus.row) h4
    have u4 : (upd H3 p4 (.tup Bd.plus.row)) p4 = some (.tup Bd.plus.row) := upd_same
    generalize upd H3 p4 (.tup Bd.plus.row) = H4 at *
    have g5 := Evl.Ex.new (o := .lst [.ref p1, .ref p2, .ref p3, .ref p4]) hl1
    have u5 : (upd H4 l1' (.lst [.ref p1, .ref p2, .ref p3, .ref p4])) l1' = some (.lst [.ref p1, .ref p2, .ref p3, .ref p4]) := upd_same
    generalize upd H4 l1' (.lst [.ref p1, .ref p2, .ref p3, .ref p4]) = H5 at *
    have g6 := Evl.Ex.new (o := .tup (Bd.sh w0).row) h5
    have u6 : (upd H5 p5 (.tup (Bd.sh w0).row)) p5 = some (.tup (Bd.sh w0).row) := upd_same
    generalize upd H5 p5 (.tup (Bd.sh w0).row) = H6 at *
    have g7 := Evl.Ex.new (o := .tup Bd.pick.row) h6
    have u7 : (upd H6 p6 (.tup Bd.pick.row)) p6 = some (.tup Bd.pick.row) := upd_same
    generalize upd H6 p6 (.tup Bd.pick.row) = H7 at *
    have g8 := Evl.Ex.new (o := .lst [.ref p5, .ref p6]) hl2
    have u8 : (upd H7 l2' (.lst [.ref p5, .ref p6])) l2' = some (.lst [.ref p5, .ref p6]) := upd_same
    generalize upd H7 l2' (.lst [.ref p5, .ref p6]) = H8 at *
    have k4 := (g5.trans (g6.trans (g7.trans g8)))
    have rows : RowsAt H8 [.ref p1, .ref p2, .ref p3, .ref p4, .ref p5, .ref p6] [.qq, .qq1, .one w0, .plus, .sh w0, .pick] :=
      .cons ⟨_, rfl, k4 _ _ (g4 _ _ (g3 _ _ (g2 _ _ u1)))⟩ (.cons ⟨_, rfl, k4 _ _ (g4 _ _ (g3 _ _ u2))⟩ (.cons ⟨_, rfl, k4 _ _ (g4 _ _ u3)⟩ (.cons ⟨_, rfl, k4 _ _ u4⟩ (.cons ⟨_, rfl, g8 _ _ (g7 _ _ u6)⟩ (.cons ⟨_, rfl, g8 _ _ u7⟩ .nil)))))
    have e8 : Evl.Ex H H8 := g1.trans (g2.trans (g3.trans (g4.trans k4)))
    have v5 := (g6.trans (g7.trans g8)) _ _ u5
    refine ⟨l1', l2', _, _, rfl, rfl, v5, u8, sz (by show 6 ≤ 100000; decide), fun l3' hl3 => ?_⟩
    have g9 := Evl.Ex.new (o := .lst ([V.ref p1, .ref p2, .ref p3, .ref p4] ++ [.ref p5, .ref p6])) hl3
    have u9 : (upd H8 l3' (.lst ([V.ref p1, .ref p2, .ref p3, .ref p4] ++ [.ref p5, .ref p6]))) l3' = some (.lst [.ref p1, .ref p2, .ref p3, .ref p4, .ref p5, .ref p6]) := upd_same
    generalize upd H8 l3' (.lst ([V.ref p1, .ref p2, .ref p3, .ref p4] ++ [.ref p5, .ref p6])) = H9 at *
    have e9 := e8.trans g9
    have rows9 := rows.go (Tp.ex g9)
    have hh9 := hh.go e9
    obtain ⟨pl, hpl⟩ := hh9.lst
    have hfa9 : FnL3 H9 fa fs := by
      obtain ⟨xs, q1, q2⟩ := hfa
      exact ⟨xs, e9 _ _ q1, Paired.mapP q2 fun _ _ ⟨b, a1, a2⟩ => ⟨b, a1, e9 _ _ a2⟩⟩
    obtain ⟨fxs, hf1, hf2⟩ := hfa9
    have hfl : fxs.length = fs.length := by have := paired_len hf2; rwa [List.length_map] at this
    have nlp : l3' ≠ p := by
      intro q
      subst q
      exact absurd (hh.lst) (by
        rintro ⟨l, hl⟩
        have := e8 _ _ hl
        rw [hl3] at this
        cases this)
    refine ⟨fxs, .inl (SqL.of hf1), tk hh9 (by omega) (by omega) fun r HA r0 r1 fA hhA => ?_⟩
    obtain ⟨j, rfl⟩ : ∃ j : Nat, r = (j : Int) := ⟨r.toNat, by omega⟩
    have hj : j < fs.length := by omega
    obtain ⟨x, hx1, b, rfl, hb⟩ := paired_at (i := j) hf2 (by rw [List.getElem?_map, List.getElem?_eq_getElem hj]; rfl)
    have hbA := (Tp.fr fA hpl) _ _ hb
    obtain ⟨m3, m5⟩ := l3 _ (List.getElem_mem hj)
    have rowsA := rows9.go (Tp.fr fA hpl)
    have u9A := fA _ _ nlp u9
    refine ixl (SqL.of (fA _ _ n2 hf1)) (atI_nat hx1) ⟨⟨_, rfl⟩, ix1 hbA ⟨_, rfl, by omega, by omega, ?_⟩⟩
    have en : (((fs[j]).2.1 : Nat) : Int) + 1 = (((fs[j]).2.1 + 1 : Nat) : Int) := rfl
    rw [en, Int.toNat_natCast]
    refine lcg_range (fun D i H' => Evl.Ex HA H' ∧ H' D = some (.lst ((List.replicate i (S [49])).map V.str))) (fun D hD => ⟨Evl.Ex.new hD, upd_same⟩) (fun D i H' hD hi h => ?_) (fun D H' hD h => ?_)
    · walk_at "sm"
      refine ⟨_, h.2, ?_, h.1.mut hD, ?_⟩
      · rw [List.length_map, List.length_replicate]
        exact Nat.lt_of_le_of_lt (show i ≤ 1000 by omega) (by decide)
      · have e1 : (Str.ofString "1" : Str) = S [49] := by decide +kernel
        have e2 : List.replicate (i + 1) (S [49]) = List.replicate i (S [49]) ++ [S [49]] := List.replicate_succ'
        rw [upd_same, e1]
        show _ = some (HO.lst ((List.replicate (i + 1) (S [49])).map V.str))
        rw [e2, List.map_append]
        rfl
    · obtain ⟨eB, hD1⟩ := h
      have ej : Txt.join (Str.ofString ", ") (List.replicate ((fs[j]).2.1 + 1) (S [49])) = S (flat (numsP (List.replicate ((fs[j]).2.1 + 1) 1))) := by
        have e1 : List.replicate ((fs[j]).2.1 + 1) (S [49]) = ((List.replicate ((fs[j]).2.1 + 1) 1).map TL.numL).map S := by
          rw [List.map_replicate, List.map_replicate, TL.numL_lt (by decide)]
        rw [litn, e1, SX.join_S, join_nums]
      have ln := numsP_len (l := List.replicate ((fs[j]).2.1 + 1) 1) ones_le
      rw [List.length_replicate] at ln
      refine ⟨D, rfl, _, .inl (SqL.of hD1), ?_, ix0 (eB _ _ hbA) ⟨_, rfl, ?_, ?_, ?_, sz (by decide), fun p7 h7 => ⟨sz (by decide), fun l4' hl4 => ?_⟩⟩⟩
      · have := sum_le (B := 1) (l := List.replicate ((fs[j]).2.1 + 1) (S [49])) fun y hy => by rw [(List.mem_replicate.mp hy).2]; exact Nat.le_refl 1
        refine Nat.le_trans (Nat.add_le_add this (Nat.le_refl _)) ?_
        rw [litn, SX.S_len, List.length_replicate]
        show ((fs[j]).2.1 + 1) * 1 + ((fs[j]).2.1 + 1) * 2 ≤ _
        omega
      · rw [lito, SX.S_len, SX.S_len]; exact sz (by show (fs[j]).1.length + 1 ≤ 100000; omega)
      · rw [ej]; simp only [lito, litq, SX.S_cat, SX.S_len, List.length_append, List.length_cons, List.length_nil]; exact sz (by omega)
      · rw [ej]; simp only [lito, litq, SX.S_cat, SX.S_len, List.length_append, List.length_cons, List.length_nil]; exact sz (by omega)
      rw [ej] at hl4 ⊢
      rw [row_many] at hl4 ⊢
      have gC := Evl.Ex.new (o := .tup (Bd.many (fs[j]).1 ((fs[j]).2.1 + 1)).row) h7
      have uC : (upd H' p7 (.tup (Bd.many (fs[j]).1 ((fs[j]).2.1 + 1)).row)) p7 = some (.tup (Bd.many (fs[j]).1 ((fs[j]).2.1 + 1)).row) := upd_same
      generalize upd H' p7 (.tup (Bd.many (fs[j]).1 ((fs[j]).2.1 + 1)).row) = HC at *
      have gD := Evl.Ex.new (o := .lst [.ref p7]) hl4
      have uD : (upd HC l4' (.lst [.ref p7])) l4' = some (.lst [.ref p7]) := upd_same
      generalize upd HC l4' (.lst [.ref p7]) = HD at *
      have eD := eB.trans (gC.trans gD)
      refine ⟨l3', l4', _, _, rfl, rfl, eD _ _ u9A, uD, sz (by show 7 ≤ 100000; decide), fun l5 hl5 => ?_⟩
      have gE := Evl.Ex.new (o := .lst ([V.ref p1, .ref p2, .ref p3, .ref p4, .ref p5, .ref p6] ++ [.ref p7])) hl5
      have uE : (upd HD l5 (.lst ([V.ref p1, .ref p2, .ref p3, .ref p4, .ref p5, .ref p6] ++ [.ref p7]))) l5 = some (.lst ([V.ref p1, .ref p2, .ref p3, .ref p4, .ref p5, .ref p6] ++ [.ref p7])) := upd_same
      generalize upd HD l5 (.lst ([V.ref p1, .ref p2, .ref p3, .ref p4, .ref p5, .ref p6] ++ [.ref p7])) = HE at *
      have eE := eD.trans gE
      have hhE := hhA.go eE
      obtain ⟨pl2, hpl2⟩ := hhE.lst
      have rowsE : RowsAt HE ([V.ref p1, .ref p2, .ref p3, .ref p4, .ref p5, .ref p6] ++ [.ref p7]) ([.qq, .qq1, .one w0, .plus, .sh w0, .pick] ++ [.many (fs[j]).1 ((fs[j]).2.1 + 1)]) :=
        Paired.snoc ⟨_, rfl, gE _ _ (gD _ _ uC)⟩ (rowsA.go (Tp.ex eE))
      have nl5 : l5 ≠ p := by
        intro q
        subst q
        obtain ⟨l, hl⟩ := hhA.lst
        have := eD _ _ hl
        rw [hl5] at this
        cases this
      refine tk hhE (by decide) (by decide) fun r2 HF s0 s1 fF hhF => ?_
      obtain ⟨m, rfl⟩ : ∃ m : Nat, r2 = (m : Int) := ⟨r2.toNat, by omega⟩
      have hm : m < 7 := by omega
      have rowsF := rowsE.go (Tp.fr fF hpl2)
      have hm' : m < ([.qq, .qq1, .one w0, .plus, .sh w0, .pick] ++ [.many (fs[j]).1 ((fs[j]).2.1 + 1)] : List Bd).length := hm
      obtain ⟨bd, hbd⟩ : ∃ bd, ([.qq, .qq1, .one w0, .plus, .sh w0, .pick] ++ [.many (fs[j]).1 ((fs[j]).2.1 + 1)] : List Bd)[m]? = some bd := ⟨_, List.getElem?_eq_getElem hm'⟩
      obtain ⟨y, hy1, q, rfl, hq⟩ := paired_at rowsF hbd
      refine ixl (SqL.of (fF _ _ nl5 uE)) (atI_nat hy1) (z q bd HF (((Fr.of e9).trans fA).trans ((Fr.of eE).trans fF)) hhF ?_ hq)
      have hm2 := List.mem_of_getElem? hbd
      simp only [List.cons_append, List.nil_append, List.mem_cons, List.not_mem_nil, or_false] at hm2
      rcases hm2 with rfl | rfl | rfl | rfl | rfl | rfl | rfl
      · trivial
      · trivial
      · exact List.mem_cons_self
      · trivial
      · exact List.mem_cons_self
      · trivial
      · exact ⟨fs[j], List.getElem_mem hj, rfl, rfl⟩
end

/-! ### texts cut -/
theorem okPs_lenLe : ∀ {ps : List Pc} {r : Cs}, okPs ps r = true → ps.length ≤ (flat ps).length
  | [], _, _ => Nat.le_refl _
  | (b, t) :: ps, r, h => by
    have h : (okTk t && adj t (flat ps ++ r) && okPs ps r) = true := h
    rw [Bool.and_eq_true, Bool.and_eq_true] at h
    have h1 := (tok1_of h.1.1 h.1.2).2.1
    have h2 := okPs_lenLe h.2
    rw [fl_cons, List.length_cons]
    omega
def tokS (ps : List Pc) (n : Nat) : List Tok := toks 0 ps ++ [(none, n)]
theorem cut_ps {cs : Cs} {ps : List Pc} {b br : Nat} (h : cs = flat ps ++ List.replicate b 32) (ho : okPs ps (List.replicate b 32) = true) (hb : brks 0 ps = some br) : scan cs 0 0 = .ok ((tokS ps cs.length).map tkV) := by
  have hd : cs.drop 0 = flat ps ++ List.replicate b 32 := by rw [List.drop_zero]; exact h
  obtain ⟨s1, s2⟩ := scan_ps ps cs _ 0 0 br hd ho hb
  have s3 : cs.drop (0 + (flat ps).length) = List.replicate b 32 ++ [] := by rw [s2, List.append_nil]
  obtain ⟨s4, s5⟩ := scan_bls b _ br cs [] s3
  have hl : cs.length = (flat ps).length + b := by rw [h, List.length_append, List.length_replicate]
  rw [s1, s4, scan_end (by omega)]
  unfold tokS
  rw [List.map_append]
  rfl
theorem toks_sg : ∀ {ps : List Pc} {r : Cs} {i : Nat}, okPs ps r = true → ∀ t ∈ toks i ps, okTok t
  | [], _, _, _, t, ht => by cases ht
  | (b, t) :: ps, r, i, h, u, hu => by
    have h0 : (okTk t && adj t (flat ps ++ r) && okPs ps r) = true := h
    rw [Bool.and_eq_true, Bool.and_eq_true] at h0
    rcases List.mem_cons.mp hu with rfl | hu
    · exact h0.1.1
    · exact toks_sg h0.2 u hu
theorem tokS_ok {ps : List Pc} {r : Cs} {n : Nat} (h : okPs ps r = true) : ∀ t ∈ tokS ps n, okTok t := fun t ht => by
  rcases List.mem_append.mp ht with q | q
  · exact toks_sg h t q
  · rw [List.mem_singleton] at q
    subst q
    trivial
theorem tok_sg {ts : List Tok} (h : ∀ t ∈ ts, okTok t) : ∀ t ∈ ts, ∀ s, t.1 = some (.sign s) → s ∈ sgs := fun t ht s hs => by
  have := h t ht
  unfold okTok at this
  rw [hs] at this
  exact List.contains_iff_mem.mp this
theorem tokS_len (ps : List Pc) (n : Nat) : (tokS ps n).length = ps.length + 1 := by
  unfold tokS
  rw [List.length_append, toks_len]
  rfl
/-- heads and tails of the law's texts -/
def heads : List Str := ["", "let x = ", "( ", "+ 7 "]
def tails : List Str := [";", " )", " { }", "", ", 1", " 5", " x", "]"]
def wLet : Cs := [108, 101, 116]
structure HdOk (z : Str) (hps : List Pc) (hb br : Nat) : Prop where
  tx : z = S (flat hps ++ List.replicate hb 32)
  ok : ∀ r, okPs hps (List.replicate hb 32 ++ r) = true
  bk : brks 0 hps = some br
  b1 : br ≤ 1
  ln : (flat hps).length + hb ≤ 8
  hb1 : hb ≤ 1
theorem head_ok : ∀ z ∈ heads, ∃ hps hb br, HdOk z hps hb br := by
  intro z hz
  simp only [heads, List.mem_cons, List.not_mem_nil, or_false] at hz
  rcases hz with rfl | rfl | rfl | rfl
  · exact ⟨[], 0, 0, by decide +kernel, fun _ => rfl, rfl, by decide, by decide, by decide⟩
  · exact ⟨[(0, .word wLet), (1, .name [120]), (1, .sign [61])], 1, 0, by decide +kernel, fun _ => by rfl, rfl, by decide, by decide, by decide⟩
  · exact ⟨[(0, .sign [40])], 1, 1, by decide +kernel, fun _ => by rfl, rfl, by decide, by decide, by decide⟩
  · exact ⟨[(0, .sign [43]), (1, .num 7)], 1, 0, by decide +kernel, fun _ => okC (by decide) adj_bl (okC (by decide) adj_bl rfl), rfl, by decide, by decide +kernel, by decide⟩
structure TlOk (z : Str) (tps : List Pc) : Prop where
  tx : z = S (flat tps)
  ok : okPs tps [] = true
  bk : ∀ b, b ≤ 1 → ∃ c, brks b tps = some c
  en : endOk (flat tps) = true
  ln : (flat tps).length ≤ 4
  nx : ∀ i n, ∃ u r, toks i tps ++ [(none, n)] = u :: r ∧ isS u [40] = false ∧ opOf u = none
theorem tail_ok : ∀ z ∈ tails, ∃ tps, TlOk z tps := by
  intro z hz
  simp only [tails, List.mem_cons, List.not_mem_nil, or_false] at hz
  have b2 : ∀ b, b ≤ 1 → b = 0 ∨ b = 1 := fun b h => by omega
  rcases hz with rfl | rfl | rfl | rfl | rfl | rfl | rfl | rfl
  · exact ⟨[(0, .sign [59])], by decide +kernel, by decide +kernel, fun b _ => ⟨_, rfl⟩, by decide, by decide, fun _ _ => ⟨_, _, rfl, rfl, rfl⟩⟩
  · exact ⟨[(1, .sign [41])], by decide +kernel, by decide +kernel, fun b _ => ⟨_, rfl⟩, by decide, by decide, fun _ _ => ⟨_, _, rfl, rfl, rfl⟩⟩
  · exact ⟨[(1, .sign [123]), (1, .sign [125])], by decide +kernel, by decide +kernel, fun b h => by rcases b2 b h with rfl | rfl <;> exact ⟨_, rfl⟩, by decide, by decide, fun _ _ => ⟨_, _, rfl, rfl, rfl⟩⟩
  · exact ⟨[], by decide +kernel, rfl, fun b _ => ⟨_, rfl⟩, by decide, by decide, fun _ _ => ⟨_, _, rfl, rfl, rfl⟩⟩
  · exact ⟨[(0, .sign [44]), (1, .num 1)], by decide +kernel, by decide +kernel, fun b _ => ⟨_, rfl⟩, by decide, by decide +kernel, fun _ _ => ⟨_, _, rfl, rfl, rfl⟩⟩
  · exact ⟨[(1, .num 5)], by decide +kernel, by decide +kernel, fun b _ => ⟨_, rfl⟩, by decide, by decide +kernel, fun _ _ => ⟨_, _, rfl, rfl, rfl⟩⟩
  · exact ⟨[(1, .name [120])], by decide +kernel, by decide +kernel, fun b _ => ⟨_, rfl⟩, by decide, by decide +kernel, fun _ _ => ⟨_, _, rfl, rfl, rfl⟩⟩
  · exact ⟨[(0, .sign [93])], by decide +kernel, by decide +kernel, fun b _ => ⟨_, rfl⟩, by decide, by decide +kernel, fun _ _ => ⟨_, _, rfl, rfl, rfl⟩⟩
def lead (hb : Nat) (ps : List Pc) : List Pc := if hb = 0 then ps else bump ps
theorem flat_lead {hb : Nat} {ps : List Pc} (h : hb ≤ 1) (hp : ps ≠ []) : flat (lead hb ps) = List.replicate hb 32 ++ flat ps := by
  unfold lead
  rcases (show hb = 0 ∨ hb = 1 by omega) with rfl | rfl
  · rfl
  · rw [if_neg (by decide), flat_bump hp]; rfl
theorem toks_lead {hb : Nat} {ps : List Pc} (h : hb ≤ 1) (hp : ps ≠ []) (sp : Nat) : toks sp (lead hb ps) = toks (sp + hb) ps := by
  unfold lead
  rcases (show hb = 0 ∨ hb = 1 by omega) with rfl | rfl
  · rfl
  · rw [if_neg (by decide), toks_bump hp]
theorem lead_len (hb : Nat) (ps : List Pc) : (lead hb ps).length = ps.length := by
  unfold lead
  by_cases h : hb = 0
  · rw [if_pos h]
  · rw [if_neg h, bump_len]
theorem okPs_lead {hb : Nat} {ps : List Pc} {r : Cs} (h : okPs ps r = true) : okPs (lead hb ps) r = true := by
  unfold lead
  by_cases q : hb = 0
  · rw [if_pos q]; exact h
  · rw [if_neg q]; exact okB h
theorem brks_lead {hb : Nat} {ps : List Pc} {b : Nat} {c : Option Nat} (h : brks b ps = c) : brks b (lead hb ps) = c := by
  unfold lead
  by_cases q : hb = 0
  · rw [if_pos q]; exact h
  · rw [if_neg q]; exact brB h
section
variable {ws : List Cs} {fs : List Fun3} {ns : Option (List Cs)} {k : Nat} {d : PyData} {ps : List Pc}
/-- the whole text of the first reading -/
theorem all_ok (W : WEnv ws fs) (hw : Wr ws fs k d ps) (hk : k ≤ 4) {hd tl : Str} {hps tps : List Pc} {hb br : Nat} (Hh : HdOk hd hps hb br) (Ht : TlOk tl tps) :
    hd ++ S (flat ps) ++ tl = S (flat (hps ++ (lead hb ps ++ tps))) ∧ okPs (hps ++ (lead hb ps ++ tps)) [] = true ∧ (∃ c, brks 0 (hps ++ (lead hb ps ++ tps)) = some c) ∧
    ∀ n, ∃ sp u rest, (tokS (hps ++ (lead hb ps ++ tps)) n).drop hps.length = toks sp ps ++ u :: rest ∧ isS u [40] = false ∧ opOf u = none := by
  obtain ⟨g1, g2⟩ := hw.good W
  refine ⟨?_, ?_, ?_, fun n => ?_⟩
  · rw [Hh.tx, Ht.tx, SX.S_cat, SX.S_cat, flat_app, flat_app, flat_lead Hh.hb1 hw.ne]
    simp
  · refine okA ?_ (okA (okPs_lead (g1 _ (by rw [List.append_nil]; exact Ht.en))) Ht.ok)
    rw [flat_app, flat_lead Hh.hb1 hw.ne, List.append_assoc, List.append_assoc]
    exact Hh.ok _
  · obtain ⟨c, hc⟩ := Ht.bk br Hh.b1
    exact ⟨c, brA Hh.bk (brA (brks_lead (g2 br (by have := Hh.b1; omega))) hc)⟩
  · have e : tokS (hps ++ (lead hb ps ++ tps)) n = toks 0 hps ++ (toks (0 + (flat hps).length + hb) ps ++ (toks (0 + (flat hps).length + (flat (lead hb ps)).length) tps ++ [(none, n)])) := by
      unfold tokS
      rw [toks_app, toks_app, toks_lead Hh.hb1 hw.ne, List.append_assoc, List.append_assoc]
    obtain ⟨u, r, q1, q2, q3⟩ := Ht.nx (0 + (flat hps).length + (flat (lead hb ps)).length) n
    refine ⟨0 + (flat hps).length + hb, u, r, ?_, q2, q3⟩
    have el : (toks 0 hps).length = hps.length := toks_len hps 0
    rw [e, q1, ← el, List.drop_left]
/-- the spoiled text -/
def spP (ps : List Pc) (b : Bd) : List Pc := (0, .sign [40]) :: (ps ++ (0, .sign [41]) :: (1, .sign [45]) :: bump b.ps)
theorem Bd.ne (b : Bd) : b.ps ≠ [] := by cases b <;> exact List.cons_ne_nil _ _
theorem spo_ok (W : WEnv ws fs) (hw : Wr ws fs k d ps) (hk : k ≤ 4) {b : Bd} (hb : b.ok ws fs) :
    Str.ofString "(" ++ S (flat ps) ++ Str.ofString ") - " ++ S (flat b.ps) = S (flat (spP ps b)) ∧ okPs (spP ps b) [] = true ∧ brks 0 (spP ps b) = some 0 := by
  obtain ⟨g1, g2⟩ := hw.good W
  obtain ⟨b1, b2⟩ := Bd.good W hb
  have lit : (Str.ofString ") - " : Str) = S [41, 32, 45, 32] := by decide +kernel
  refine ⟨?_, okC (by decide) (adj_solo (by decide)) (okA (g1 _ rfl) (okC (by decide) (adj_solo (by decide)) (okC (by decide) ?_ (okB b1)))), brC (brk_op (by decide)) (brA (g2 1 (by omega)) (brC brk_cl (brC rfl (brB (b2 0 (by decide))))))⟩
  · rw [lito, lit, SX.S_cat, SX.S_cat, SX.S_cat]
    show _ = S ([] ++ ([40] ++ flat (ps ++ (0, Tk.sign [41]) :: (1, Tk.sign [45]) :: bump b.ps)))
    rw [flat_app]
    show _ = S ([] ++ ([40] ++ (flat ps ++ ([] ++ ([41] ++ ([32] ++ ([45] ++ flat (bump b.ps))))))))
    rw [flat_bump b.ne]
    simp
  · rw [flat_bump b.ne]
    exact adj_bl
theorem spo_read (W : WEnv ws fs) (Sp : WSep ws fs) (hw : Wr ws fs k d ps) (hk : k ≤ 4) {b : Bd} (hb : b.ok ws fs) (n : Nat) :
    rDeep (tokS (spP ps b) n) (some ws) fs 12 0 0 = some (.error (b.er ((flat ps).length + 5))) ∧ (b = .qq → ∃ r, rDeep (tokS (spP ps b) n) none fs 12 0 0 = some (.ok r)) := by
  have base : (tokS (spP ps b) n).drop 0 = toks 0 (spP ps b) ++ [(none, n)] := rfl
  obtain ⟨h1, h2⟩ := seg_hd (ps := ps ++ (0, Tk.sign [41]) :: (1, Tk.sign [45]) :: bump b.ps) base
  obtain ⟨h3, h4⟩ := seg_ap h2
  obtain ⟨h5, h6⟩ := seg_hd h4
  obtain ⟨h7, h8⟩ := seg_hd h6
  rw [toks_bump b.ne] at h8
  have esp : 0 + 0 + (tkC (Tk.sign [40])).length + (flat ps).length + 0 + (tkC (Tk.sign [41])).length + 1 + (tkC (Tk.sign [45])).length + 1 = (flat ps).length + 5 := by
    show 0 + 0 + 1 + (flat ps).length + 0 + 1 + 1 + 1 + 1 = _
    omega
  rw [esp] at h8
  obtain ⟨m, hm⟩ : ∃ m, (tokS (spP ps b) n).length = m + 1 + 1 := ⟨(tokS (spP ps b) n).length - 2, by have := (List.getElem?_eq_some_iff.mp h7).1; omega⟩
  have first : ∀ ns, NsOk ws ns → ∃ dep, dep ≤ 54 ∧ rPart (rDeep (tokS (spP ps b) n) ns fs 11) (tokS (spP ps b) n) ns fs 0 = rok (d, dep, 0 + 1 + ps.length + 1) := fun ns hns => by
    obtain ⟨dep, d1, d2⟩ := (hw.read W hns (by omega) 10 (by omega)).deep (0 + 1) _ _ _ 0 h3 rfl rfl
    refine ⟨dep, by omega, ?_⟩
    rw [rPart_op h1, bnd_ok d2, bnd_ok (rSign_ok h5)]
  have go : ∀ ns dep, dep ≤ 54 → rPart (rDeep (tokS (spP ps b) n) ns fs 11) (tokS (spP ps b) n) ns fs 0 = rok (d, dep, 0 + 1 + ps.length + 1) →
      rDeep (tokS (spP ps b) n) ns fs 12 0 0 = bnd (rDeep (tokS (spP ps b) n) ns fs 11 (0 + 1 + ps.length + 1 + 1) 6) fun r => bnd (rChk (max dep r.2.1 + 1) _) fun d2 => rLoop (rDeep (tokS (spP ps b) n) ns fs 11) (tokS (spP ps b) n) 0 (m + 1) (dOp [.str (S [45])] [d, r.1]) d2 r.2.2 := fun ns dep hd hp => by
    show bnd (rPart (rDeep (tokS (spP ps b) n) ns fs 11) (tokS (spP ps b) n) ns fs 0) _ = _
    rw [bnd_ok hp, hm, rLoop_op h7 (s := [45]) (g := 5) rfl (by omega) rfl]
  constructor
  · obtain ⟨dep, d1, d2⟩ := first (some ws) fun w hw => List.contains_iff_mem.mpr hw
    rw [go (some ws) dep d1 d2]
    rcases Bd.read (ns := some ws) W Sp rfl hb (.inl rfl) (K := 7) h8 (r := fun r => bnd (rChk (max dep r.2.1 + 1) (0 + 0 + (tkC (Tk.sign [40])).length + (flat ps).length + 0 + (tkC (Tk.sign [41])).length + 1)) fun d2 => rLoop (rDeep (tokS (spP ps b) n) (some ws) fs 11) (tokS (spP ps b) n) 0 (m + 1) (dOp [.str (S [45])] [d, r.1]) d2 r.2.2) with h | ⟨rfl, h⟩
    · exact h
    · have h : rDeep (tokS (spP ps .plus) n) (some ws) fs 11 (0 + 1 + ps.length + 1 + 1) 6 = rok (dNum 1, 1, 0 + 1 + ps.length + 1 + 1 + 1) := h
      rw [bnd_ok h, bnd_ok (rChk_ok (by show max dep 1 + 1 ≤ 60; omega))]
      obtain ⟨k1, k2⟩ := seg_hd (ps := [(1, Tk.sign [43]), (1, Tk.sign [59])]) h8
      obtain ⟨k3, k4⟩ := seg_hd k2
      obtain ⟨k5, _⟩ := seg_hd k4
      rw [rLoop_op k3 (s := [43]) (g := 5) rfl (by omega) rfl]
      refine bnd_er (rDeep_er ?_)
      show atT _ _ _ = _
      rw [atT_eq k5]
      show (if decide (([59] : Cs) = wPick) = true then _ else if decide (([59] : Cs) = wTable) = true then _ else _) = _
      rw [if_neg (by decide), if_neg (by decide), bnd_er (rSign_no k5 rfl)]
      have : (flat ps).length + 5 + 0 + (tkC (Tk.num 1)).length + 1 + (tkC (Tk.sign [43])).length + 1 = (flat ps).length + 5 + 4 := by
        show (flat ps).length + 5 + 0 + (TL.numL 1).length + 1 + 1 + 1 = _
        rw [TL.numL_lt (by decide)]
        rfl
      rw [this]
  · rintro rfl
    obtain ⟨dep, d1, d2⟩ := first none trivial
    rw [go none dep d1 d2]
    obtain ⟨k1, k2⟩ := seg_hd (ps := []) h8
    obtain ⟨k3, _, k4⟩ := drop_hd k2
    have e : rDeep (tokS (spP ps .qq) n) none fs 11 (0 + 1 + ps.length + 1 + 1) 6 = rok (dName wQq, 1, 0 + 1 + ps.length + 1 + 1 + 1) := by
      show bnd (rPart (rDeep (tokS (spP ps .qq) n) none fs 10) (tokS (spP ps .qq) n) none fs (0 + 1 + ps.length + 1 + 1)) _ = _
      have e1 : rPart (rDeep (tokS (spP ps .qq) n) none fs 10) (tokS (spP ps .qq) n) none fs (0 + 1 + ps.length + 1 + 1) = rok (dName wQq, 1, 0 + 1 + ps.length + 1 + 1 + 1) := by
        rw [rPart_nm k1 k3, if_neg (fun q => nomatch q)]
        rfl
      rw [bnd_ok e1, hm]
      exact rLoop_end k3 rfl
    rw [bnd_ok e, bnd_ok (rChk_ok (by show max dep 1 + 1 ≤ 60; omega)), rLoop_end k3 rfl]
    exact ⟨_, rfl⟩
end


/-! ### the drawn names -/
structure NmsOk (ws : List Cs) (fs : List Fun3) : Prop where
  w : ∀ i x, ws[i]? = some x → NmOk x (i + 1)
  f : ∀ i x, fs[i]? = some x → NmOk x.1 (ws.length + i + 1) ∧ x.2.1 ≤ 3 ∧ x.2.2 ≤ 50
theorem NmOk.inj {x : Cs} {m n : Nat} (h : NmOk x m) (h' : NmOk x n) : m = n := by
  obtain ⟨l, _, _, _, e, _⟩ := h
  obtain ⟨l', _, _, _, e', _⟩ := h'
  rw [e] at e'
  have q := congrArg List.getLast? e'
  rw [List.getLast?_concat, List.getLast?_concat] at q
  have := Option.some.inj q
  omega
theorem low_aln {c : Nat} (h : lowB c = true) : alnB c = true := by unfold alnB; rw [h]; rfl
theorem NmOk.tk {x : Cs} {n : Nat} (h : NmOk x n) : okTk (.name x) = true ∧ x.length ≤ 5 ∧ 2 ≤ x.length := by
  obtain ⟨ls, h1, h2, h3, rfl, h5, h6⟩ := h
  have hd : digB (48 + n) = true := by unfold digB; simp; omega
  refine ⟨?_, by rw [List.length_append, List.length_singleton]; omega, by rw [List.length_append, List.length_singleton]; omega⟩
  show (lowB ((ls ++ [48 + n]).headD 0) && (ls ++ [48 + n]).all alnB && decide ((ls ++ [48 + n]).length ≤ 8) && !kws.contains (ls ++ [48 + n])) = true
  have a1 : lowB ((ls ++ [48 + n]).headD 0) = true := by
    cases ls with
    | nil => exact absurd h2 (by decide)
    | cons c r =>
      rw [List.all_cons, Bool.and_eq_true] at h1
      exact h1.1
  have a2 : (ls ++ [48 + n]).all alnB = true := by
    rw [List.all_append, Bool.and_eq_true]
    refine ⟨?_, ?_⟩
    · rw [List.all_eq_true] at h1 ⊢
      exact fun c hc => low_aln (h1 c hc)
    · show (alnB (48 + n) && true) = true
      unfold alnB
      rw [hd, Bool.or_true]
      rfl
  have a4 : kws.contains (ls ++ [48 + n]) = false := by
    refine Bool.eq_false_iff.mpr fun q => ?_
    have hm := List.contains_iff_mem.mp q
    have key : ∀ w ∈ kws, w.all lowB = true := by decide +kernel
    have := List.all_eq_true.mp (key _ hm) (48 + n) (List.mem_append.mpr (.inr List.mem_cons_self))
    rw [dig_low hd] at this
    cases this
  rw [a1, a2, a4, decide_eq_true (by rw [List.length_append, List.length_singleton]; omega)]
  rfl
theorem find_none' {l : List Fun3} {x : Cs} (h : ∀ (i : Nat) (y : Fun3), l[i]? = some y → y.1 ≠ x) : l.find? (fun g => decide (g.1 = x)) = none :=
  find_none_take _ _ fun i y e => decide_eq_false (h i y e)
theorem NmsOk.env {ws : List Cs} {fs : List Fun3} (h : NmsOk ws fs) : WEnv ws fs := by
  refine ⟨fun w hw => ?_, fun f hf => ?_⟩
  · obtain ⟨i, hi⟩ := List.getElem?_of_mem hw
    have q := (h.w i w hi).tk
    exact ⟨q.1, q.2.1⟩
  · obtain ⟨i, hi⟩ := List.getElem?_of_mem hf
    obtain ⟨h1, h2, h3⟩ := h.f i f hi
    refine ⟨h1.tk.1, h1.tk.2.1, h2, h3, find_at _ _ i f hi (decide_eq_true rfl) fun j y hj hy => decide_eq_false fun q => ?_⟩
    have := (h.f j y hy).1
    rw [q] at this
    have := this.inj h1
    omega
theorem NmsOk.sep {ws : List Cs} {fs : List Fun3} (h : NmsOk ws fs) : WSep ws fs := by
  have noq : ∀ n, ¬ NmOk wQq n := by
    rintro n ⟨ls, h1, h2, h3, e, h5, h6⟩
    have q := congrArg List.getLast? e
    rw [List.getLast?_concat] at q
    have : some 113 = some (48 + n) := q
    have := Option.some.inj this
    omega
  refine ⟨fun hm => ?_, find_none' fun i y hy q => ?_, fun w hw => find_none' fun i y hy q => ?_⟩
  · obtain ⟨i, hi⟩ := List.getElem?_of_mem hm
    exact noq _ (h.w i _ hi)
  · have := (h.f i y hy).1
    rw [q] at this
    exact noq _ this
  · obtain ⟨j, hj⟩ := List.getElem?_of_mem hw
    have h1 := (h.f i y hy).1
    rw [q] at h1
    have := h1.inj (h.w j w hj)
    have := (List.getElem?_eq_some_iff.mp hj).1
    omega
section
variable {P : Program} {w : World} {K : PySem.W.Frag} {mg : Str → Option Value} {base : Heap} {a : Ad}
def spExpA : Sp := fun vs H Q E => ∃ k, k ≤ 4 ∧ spExp k vs H Q E
theorem ok_exp_all (T : Txt K mg a) : FnOk P w K mg base CX0 8 a.f_law_expression a.d_law_expression ["_law_hand_here", "_law_names", "_law_funs", "_law_depth"] spExpA :=
  ⟨fun vs H Q E ⟨k, _, h⟩ => (ok_law_expression (P := P) (w := w) (base := base) T k).len vs H Q E h, fun A outer s H args us vs Q E hr he hb hv ⟨k, hk, h⟩ => ((ok_law_expression (P := P) (w := w) (base := base) T k).mono (by omega)).run A outer s H args us vs Q E hr he hb hv h⟩
def spTextA : Sp := fun vs H Q E => ∃ k, k ≤ 5 ∧ spText k vs H Q E
theorem ok_text_all (T : Txt K mg a) : FnOk P w K mg base CX0 8 a.f_law_expression_text a.d_law_expression_text ["_law_part"] spTextA :=
  ⟨fun vs H Q E ⟨k, hk, h⟩ => (ok_law_expression_text (P := P) (w := w) (base := base) T k hk).len vs H Q E h, fun A outer s H args us vs Q E hr he hb hv ⟨k, hk, h⟩ => ((ok_law_expression_text (P := P) (w := w) (base := base) T k hk).mono (by omega)).run A outer s H args us vs Q E hr he hb hv h⟩
end
/-! ### the deep ones -/
def wQ1 : Cs := [113, 49]
def wQ0 : Cs := [113, 48]
def dpP : List Pc := [(0, .name wQ1), (0, .sign [40]), (0, .num 7), (0, .sign [41])]
def dpP2 : List Pc := (0, .num 7) :: (1, .sign [43]) :: bump dpP
theorem dp1 : (Str.ofString "q1(7)" : Str) = S (flat dpP) ∧ okPs dpP [] = true ∧ brks 0 dpP = some 0 ∧ (flat dpP).length = 5 := ⟨by decide +kernel, by decide +kernel, by rfl, by decide +kernel⟩
theorem dp2 : (Str.ofString "7 + q1(7)" : Str) = S (flat dpP2) ∧ okPs dpP2 [] = true ∧ brks 0 dpP2 = some 0 ∧ (flat dpP2).length = 9 := ⟨by decide +kernel, by decide +kernel, by rfl, by decide +kernel⟩
theorem toks_dp : tokS dpP 5 = [(some (.name wQ1), 0), (some (.sign [40]), 2), (some (.num 7), 3), (some (.sign [41]), 4), (none, 5)] := by rfl
theorem toks_dp2 : tokS dpP2 9 = [(some (.num 7), 0), (some (.sign [43]), 2), (some (.name wQ1), 4), (some (.sign [40]), 6), (some (.num 7), 7), (some (.sign [41]), 8), (none, 9)] := by rfl
theorem deep1 : rDeep (tokS dpP 5) (some []) [(wQ1, 1, 60)] 12 0 0 = some (.error (false, 0, "deep")) := by rw [toks_dp]; rfl
theorem deep2 : ∃ r, rDeep (tokS dpP 5) (some []) [(wQ0, 1, 60), (wQ1, 1, 59)] 12 0 0 = some (.ok r) := by rw [toks_dp]; exact ⟨_, rfl⟩
theorem deep3 : rDeep (tokS dpP2 9) (some []) [(wQ1, 1, 59)] 12 0 0 = some (.error (false, 2, "deep")) := by rw [toks_dp2]; rfl

theorem bd_len {ws : List Cs} {fs : List Fun3} (W : WEnv ws fs) : ∀ {b : Bd}, b.ok ws fs → (flat b.ps).length ≤ 100
  | .qq, _ => by decide +kernel
  | .qq1, _ => by decide +kernel
  | .plus, _ => by decide +kernel
  | .pick, _ => by decide +kernel
  | .one w, h => by
    have := (W.nw w h).2
    show (flat [(0, Tk.name w), (0, Tk.sign [40]), (0, Tk.name w), (0, Tk.sign [41])]).length ≤ 100
    simp [flat, tkC]
    omega
  | .sh w, h => by
    have := (W.nw w h).2
    show (flat [(0, Tk.sign [40]), (0, Tk.name w), (1, Tk.sign [60, 60]), (1, Tk.name w), (0, Tk.sign [41])]).length ≤ 100
    simp [flat, tkC]
    omega
  | .many f n, h => by
    obtain ⟨g, hg, rfl, rfl⟩ := h
    obtain ⟨_, w2, w3, _, _⟩ := W.nf g hg
    have := numsP_len (l := List.replicate (g.2.1 + 1) 1) ones_le
    rw [List.length_replicate] at this
    show (flat ((0, Tk.name g.1) :: (0, Tk.sign [40]) :: (numsP (List.replicate (g.2.1 + 1) 1) ++ [(0, Tk.sign [41])]))).length ≤ 100
    rw [fl_cons, fl_cons, fl_app, fl_cons, fl_nil]
    show 0 + g.1.length + (0 + 1 + ((flat (numsP (List.replicate (g.2.1 + 1) 1))).length + (0 + 1 + 0))) ≤ 100
    omega
theorem qq_only {ws : List Cs} {fs : List Fun3} (N : NmsOk ws fs) {b : Bd} (hb : b.ok ws fs) (h : S (flat b.ps) = Str.ofString "qq") : b = .qq := by
  have e : (Str.ofString "qq" : Str) = S [113, 113] := by decide +kernel
  rw [e] at h
  have h := congrArg List.length (S_inj h)
  have h : (flat b.ps).length = 2 := h
  cases b with
  | qq => rfl
  | qq1 => exact absurd h (by decide +kernel)
  | one w =>
    have h : (flat [(0, Tk.name w), (0, Tk.sign [40]), (0, Tk.name w), (0, Tk.sign [41])]).length = 2 := h
    simp [flat, tkC] at h
    have := (N.w · w)
    obtain ⟨i, hi⟩ := List.getElem?_of_mem (show w ∈ ws from hb)
    have := (N.w i w hi).tk.2.2
    omega
  | plus => exact absurd h (by decide +kernel)
  | sh w =>
    have h : (flat [(0, Tk.sign [40]), (0, Tk.name w), (1, Tk.sign [60, 60]), (1, Tk.name w), (0, Tk.sign [41])]).length = 2 := h
    simp [flat, tkC] at h
    omega
  | pick => exact absurd h (by decide +kernel)
  | many f n =>
    obtain ⟨g, hg, rfl, rfl⟩ := hb
    obtain ⟨i, hi⟩ := List.getElem?_of_mem hg
    have := (N.f i g hi).1.tk.2.2
    have h : (flat ((0, Tk.name g.1) :: (0, Tk.sign [40]) :: (numsP (List.replicate (g.2.1 + 1) 1) ++ [(0, Tk.sign [41])]))).length = 2 := h
    rw [fl_cons, fl_cons, fl_app, fl_cons, fl_nil] at h
    have h : 0 + g.1.length + (0 + 1 + ((flat (numsP (List.replicate (g.2.1 + 1) 1))).length + (0 + 1 + 0))) = 2 := h
    omega
theorem what_mem (b : Bd) : b.what ∈ (["unknown", "elder", "many", "want"] : List Str) := by cases b <;> simp [Bd.what]
theorem sh_err (b : Bd) (sp : Nat) : SeqAt.shaped (dErr (b.er sp)) = true := by
  have h1 : ∀ c : Bool, PyData.strOk (if c = true then Str.ofString "name" else Str.ofString "text") = true := by decide +kernel
  have h2 : ∀ x ∈ (["unknown", "elder", "many", "want"] : List Str), PyData.strOk x = true := by decide +kernel
  rw [Bd.er_eq]
  refine shaped_of (n := 1) (lay_tup (n := 0) fun x hm => ?_) (by decide)
  simp only [List.mem_cons, List.not_mem_nil, or_false] at hm
  rcases hm with rfl | rfl | rfl
  · exact lay_s (h1 _)
  · exact lay_i
  · exact lay_s (h2 _ (what_mem b))


/-! ### the law -/
theorem for_wi {wi : TI} {g : TG} {tb : TS} {D : Ends} {σ : L2.St} {H : Hp} (h : wi σ H fun J H1 => tFor (fun _ H R => R J H) g tb D σ H1) : tFor wi g tb D σ H := h
structure LW (H : Hp) (p c na fa : Addr) (ws : List Cs) (fs : List Fun3) : Prop where
  hh : HandAt H p c
  nl : H na = some (.lst (ws.map fun w => V.str (S w)))
  fl : FnL3 H fa fs
  n1 : na ≠ p
  n2 : fa ≠ p
  nm : NmsOk ws fs
  w1 : 1 ≤ ws.length
  w5 : ws.length ≤ 5
  f1 : 1 ≤ fs.length
  f3 : fs.length ≤ 3
theorem LW.ex {H H' : Hp} {p c na fa : Addr} {ws : List Cs} {fs : List Fun3} (h : LW H p c na fa ws fs) (e : Evl.Ex H H') : LW H' p c na fa ws fs := by
  obtain ⟨xs, q1, q2⟩ := h.fl
  exact { h with hh := h.hh.go e, nl := e _ _ h.nl, fl := ⟨xs, e _ _ q1, Paired.mapP q2 fun _ _ ⟨b, a1, a2⟩ => ⟨b, a1, e _ _ a2⟩⟩ }
theorem LW.fr {H H' : Hp} {p c na fa : Addr} {ws : List Cs} {fs : List Fun3} (h : LW H p c na fa ws fs) (f : Fr p H H') (hh : HandAt H' p c) : LW H' p c na fa ws fs := by
  obtain ⟨l, hl⟩ := h.hh.lst
  exact { h with hh := hh, nl := f _ _ h.n1 h.nl, fl := h.fl.fr h.n2 f hl }
def ivNs (p c q : Addr) (D : Addr) (i : Nat) (H' : Hp) : Prop := ∃ ws : List Cs, H' D = some (.lst (ws.map fun w => V.str (S w))) ∧ ws.length = i ∧ (∀ j x, ws[j]? = some x → NmOk x (j + 1)) ∧ HandAt H' p c ∧ H' q = some (.lst [.int i])
def m1 (sa : V) : L2.St → Hp → Prop := fun σ H => ∃ (p c q na fa : Addr) (ws : List Cs) (fs : List Fun3) (v5 : Option V), σ = [some sa, some (.ref p), some (.ref q), some (.ref na), some (.ref fa), v5, none, none, none, none, none, none, none, none, none, none, none, none, none, none, none, none, none] ∧ LW H p c na fa ws fs
def m2 (sa : V) : L2.St → Hp → Prop := fun σ H => ∃ (p c q na fa : Addr) (ws : List Cs) (fs : List Fun3) (v5 : Option V) (pr : Addr) (d : PyData) (ps : List Pc) (k : Nat), σ = [some sa, some (.ref p), some (.ref q), some (.ref na), some (.ref fa), v5, some (.ref pr), some (.str (S (flat ps))), none, none, none, none, none, none, none, none, none, none, none, none, none, none, none] ∧
  LW H p c na fa ws fs ∧ At H (.ref pr) d ∧ Wr ws fs k d ps ∧ k ≤ 4
theorem cutc {C : Addr} {cs : Cs} {m : Int} {H : Hp} {Q : VK} {E : XK} {ps : List Pc} {b br : Nat} (h : cs = flat ps ++ List.replicate b 32) (ho : okPs ps (List.replicate b 32) = true) (hb : brks 0 ps = some br) (hm : (cs.length : Int) ≤ m) (hn : cs.length ≤ 90000)
    (k : ∀ p H', Evl.Ex H H' → TkA H' p (tokS ps cs.length) → Q (.ref p) H') : spCutText C [.str (S cs), .int m] H Q E := by
  have e := cut_ps h ho hb
  refine .inl ⟨cs, m, rfl, hn, fun q => absurd q (by omega), fun _ => ⟨fun i w q => ?_, fun ts q p xs H' e1 hp tk => ?_⟩⟩
  · rw [e] at q; cases q
  · rw [e] at q; cases q
    exact k p H' e1 ⟨xs, hp, tk⟩
/-- tokens among which, from i on, stand those of the drawn expression -/
structure T1 (ts : List Tok) (i : Nat) (ps : List Pc) : Prop where
  dr : ∃ sp u rest, ts.drop i = toks sp ps ++ u :: rest ∧ isS u [40] = false ∧ opOf u = none
  ok : ∀ t ∈ ts, okTok t
  ln : ts.length ≤ 90000
def m3 (sa : V) : L2.St → Hp → Prop := fun σ H => ∃ (p c q na fa : Addr) (ws : List Cs) (fs : List Fun3) (v5 v8 v9 : Option V) (pr : Addr) (d : PyData) (ps : List Pc) (k : Nat) (tp : Addr) (ts : List Tok) (i : Nat), σ = [some sa, some (.ref p), some (.ref q), some (.ref na), some (.ref fa), v5, some (.ref pr), some (.str (S (flat ps))), v8, v9, some (.ref tp), some (.int i), some (.int ((i + ps.length : Nat) : Int)), none, none, none, none, none, none, none, none, none, none] ∧
  LW H p c na fa ws fs ∧ At H (.ref pr) d ∧ Wr ws fs k d ps ∧ k ≤ 4 ∧ (flat ps).length < 2900 ∧ TkA H tp ts ∧ T1 ts i ps
def m4 (sa : V) : L2.St → Hp → Prop := fun σ H => ∃ (p c q na fa : Addr) (ws : List Cs) (fs : List Fun3) (v5 v8 v9 v13 : Option V) (pr : Addr) (d : PyData) (ps : List Pc) (k : Nat) (tp : Addr) (ts : List Tok) (i : Nat), σ = [some sa, some (.ref p), some (.ref q), some (.ref na), some (.ref fa), v5, some (.ref pr), some (.str (S (flat ps))), v8, v9, some (.ref tp), some (.int i), some (.int ((i + ps.length : Nat) : Int)), v13, none, none, none, none, none, none, none, none, none] ∧
  LW H p c na fa ws fs ∧ At H (.ref pr) d ∧ Wr ws fs k d ps ∧ k ≤ 4 ∧ (flat ps).length < 2900 ∧ TkA H tp ts ∧ T1 ts i ps
def dRead (d : PyData) (j : Nat) : PyData := .tuple [.str "read", .tuple [d, .int (j : Nat)]]
theorem sh_read {ws : List Cs} {fs : List Fun3} {k : Nat} {d : PyData} {ps : List Pc} (W : WEnv ws fs) (hw : Wr ws fs k d ps) (hk : k ≤ 4) (j : Nat) : SeqAt.shaped (dRead d j) = true := by
  refine shaped_of (n := 17) (lay_tup (n := 16) fun x hm => ?_) (by decide)
  simp only [List.mem_cons, List.not_mem_nil, or_false] at hm
  rcases hm with rfl | rfl
  · exact lay_s (by decide +kernel)
  · refine lay_up (n := 16) (lay_tup (n := 14) fun x hm => ?_) (by omega)
    simp only [List.mem_cons, List.not_mem_nil, or_false] at hm
    rcases hm with rfl | rfl
    · exact lay_up (hw.lay W) (by omega)
    · exact lay_i
/-- the reading of the drawn expression, whatever the names are told as -/
theorem rt_ok {K : PySem.W.Frag} {H : Hp} {tp f : Addr} {nv : V} {ts : List Tok} {ns : Option (List Cs)} {ws : List Cs} {fs : List Fun3} {k i : Nat} {d : PyData} {ps : List Pc} {Q : VK} (W : WEnv ws fs) (hw : Wr ws fs k d ps) (hk : k ≤ 4) (t1 : T1 ts i ps) (tk : TkA H tp ts) (hn : NmA K H nv ns) (hns : NsOk ws ns) (hf : FnA H f fs) (hl : fs.length ≤ 1000)
    (z : ∀ q H', Evl.Ex H H' → At H' (.ref q) (dRead d (i + ps.length)) → Q (.ref q) H') : spRT K [.ref tp, .int i, nv, .ref f] H Q E0 := by
  obtain ⟨sp, u, rest, h1, h2, h3⟩ := t1.dr
  obtain ⟨dep, _, e⟩ := (hw.read W hns (by omega) 11 (by omega)).deep i sp u rest 0 h1 h2 h3
  exact ⟨tp, i, nv, f, ts, ns, fs, _, rfl, ⟨tk, hn, hf, tok_sg t1.ok, t1.ln, hl⟩, e, fun q H' e1 hq => z q H' e1 hq⟩
theorem FnL3.len {H : Hp} {f : Addr} {fs : List Fun3} {xs : List V} (h : ToksAt H xs (fs.map fnV)) : xs.length = fs.length := by
  have := paired_len h
  rwa [List.length_map] at this
def m5 (sa : V) : L2.St → Hp → Prop := fun σ H => ∃ (p c q na fa : Addr) (ws : List Cs) (fs : List Fun3) (v5 v8 v9 v10 v11 v12 v13 v14 : Option V) (d : PyData) (ps : List Pc) (k : Nat) (v6 : Option V), σ = [some sa, some (.ref p), some (.ref q), some (.ref na), some (.ref fa), v5, v6, some (.str (S (flat ps))), v8, v9, v10, v11, v12, v13, v14, none, none, none, none, none, none, none, none] ∧
  LW H p c na fa ws fs ∧ Wr ws fs k d ps ∧ k ≤ 4 ∧ (flat ps).length < 2900
def ivPl (H0 : Hp) (s0 s1 s2 s3 s4 v5 v6 s7 v8 v9 s10 s11 s12 v13 : Option V) : Nat → L2.St → Hp → Prop := fun _ σ H => ∃ v14 : Option V, σ = [s0, s1, s2, s3, s4, v5, v6, s7, v8, v9, s10, s11, s12, v13, v14, none, none, none, none, none, none, none, none] ∧ Evl.Ex H0 H
def m6 : L2.St → Hp → Prop := fun σ H => ∃ (p c q na fa : Addr) (ws : List Cs) (fs : List Fun3) (o0 v5 v6 v8 v9 v10 v11 v12 v13 v14 v16 v17 v18 : Option V) (d : PyData) (ps : List Pc) (k : Nat) (b : Bd) (sp du : Addr) (n : Nat), σ = [o0, some (.ref p), some (.ref q), some (.ref na), some (.ref fa), v5, v6, some (.str (S (flat ps))), v8, v9, v10, v11, v12, v13, v14, some (.str (S (flat b.ps))), v16, v17, v18, some (.ref sp), some (.ref du), none, none] ∧
  LW H p c na fa ws fs ∧ Wr ws fs k d ps ∧ k ≤ 4 ∧ b.ok ws fs ∧ (flat ps).length ≤ 8000 ∧ TkA H sp (tokS (spP ps b) n) ∧ At H (.ref du) (dErr (b.er ((flat ps).length + 5)))
def m7 : L2.St → Hp → Prop := fun σ _ => ∃ (o0 o1 o2 o3 o4 o5 o6 o7 o8 o9 o10 o11 o12 o13 o14 o15 o16 o17 o18 o19 o20 : Option V), σ = [o0, o1, o2, o3, o4, o5, o6, o7, o8, o9, o10, o11, o12, o13, o14, o15, o16, o17, o18, o19, o20, none, none]
def m8 : L2.St → Hp → Prop := fun σ H => ∃ (o0 o1 o2 o3 o4 o5 o6 o7 o8 o9 o10 o11 o12 o13 o14 o15 o16 o17 o18 o19 o20 : Option V) (dp : Addr), σ = [o0, o1, o2, o3, o4, o5, o6, o7, o8, o9, o10, o11, o12, o13, o14, o15, o16, o17, o18, o19, o20, some (.ref dp), none] ∧ TkA H dp (tokS dpP 5)
theorem q1_S : (Str.ofString "q1" : Str) = S wQ1 := by decide +kernel
theorem q0_S : (Str.ofString "q0" : Str) = S wQ0 := by decide +kernel
theorem dE_deep (sp : Nat) : SeqAt.shaped (dErr (false, sp, "deep")) = true := by
  refine shaped_of (n := 1) (lay_tup (n := 0) fun x hm => ?_) (by decide)
  simp only [List.mem_cons, List.not_mem_nil, or_false] at hm
  rcases hm with rfl | rfl | rfl
  · exact lay_s (by show PyData.strOk (Str.ofString "text") = true; decide +kernel)
  · exact lay_i
  · exact lay_s (by decide +kernel)
def ivFs (sa : V) (p c q na fa : Addr) (ws : List Cs) : Nat → L2.St → Hp → Prop := fun i σ H => ∃ (fs : List Fun3) (v5 : Option V), σ = [some sa, some (.ref p), some (.ref q), some (.ref na), some (.ref fa), v5, none, none, none, none, none, none, none, none, none, none, none, none, none, none, none, none, none] ∧
  HandAt H p c ∧ H q = some (.lst [.int ((ws.length + i : Nat) : Int)]) ∧ H na = some (.lst (ws.map fun w => V.str (S w))) ∧ FnL3 H fa fs ∧ fs.length = i ∧ NmsOk ws fs
theorem getElem?_snoc {α : Type} {l : List α} {x y : α} {j : Nat} (h : (l ++ [x])[j]? = some y) : l[j]? = some y ∨ (j = l.length ∧ y = x) := by
  by_cases hj : j < l.length
  · rw [List.getElem?_append_left hj] at h
    exact .inl h
  · rw [List.getElem?_append_right (by omega)] at h
    have : j - l.length = 0 := by
      rcases Nat.eq_zero_or_pos (j - l.length) with q | q
      · exact q
      · rw [List.getElem?_eq_none (by simp; omega)] at h
        cases h
    rw [this] at h
    exact .inr ⟨by omega, (Option.some.inj h).symm⟩
section
variable {P : Program} {w : World} {K : PySem.W.Frag} {mg : Str → Option Value} {base : Heap} {a : Ad}
def spLaw (K : PySem.W.Frag) : Sp := fun vs H Q _ => ∃ (s : Addr) (ns : List Int), vs = [.ref s] ∧ SqL K H s (ns.map V.int) ∧ ns.length ≤ 63 ∧ ∀ H', Q (.bl true) H'
theorem ok_law (T : Txt K mg a) (D : Txd w K a) (TE : Txe K a) : FnOk P w K mg base (L2.CX P w) 70 a.f_law a.d_law ["_law_script"] (spLaw K) := by
  have ok_law_expression := fun T : Txt K mg a => ok_exp_all (P := P) (w := w) (base := base) T
  have ok_law_expression_text := fun T : Txt K mg a => ok_text_all (P := P) (w := w) (base := base) T
  have ok_law_read_told := fun T : Txt K mg a => ok_law_read_told (P := P) (base := base) T D TE
  refine T.F_law.okX sc_law (fun vs H Q E h => ?_) (fun cdv A outer s H vs Q E hr h => ?_)
  · obtain ⟨_, _, rfl, _⟩ := h
    rfl
  · obtain ⟨sa, ns, rfl, hS, hl, k⟩ := h
    refine ⟨_, (pss_cons (ps_set (i := 1) sc_law.nd rfl (by first | exact Or.inl rfl | exact Or.inr rfl) (pe_call (ok_law_hand T) (hr.mono (by decide)) rfl T.m_law_hand T.F_law_hand.kp T.b_law_hand .nil pass0 (pa_cons (pv 0) pa_nil)))
  (pss_cons (ps_set (i := 2) sc_law.nd rfl (by first | exact Or.inl rfl | exact Or.inr rfl) (pe_lst (pa_cons pe_int pa_nil)))
  (pss_cons (ps_setLc (i := 3) (own := [("_law_k", 5)]) (g := gName 5) (tt := tYes) rfl sc_law.nd rfl rfl (sw_true rfl rfl rfl (by decide +kernel)) (pi_range1 (by rfl) T.z_range (pa_cons (pe_op op_add pe_int (pe_call (ok_law_take T) (hr.mono (by decide)) rfl T.m_law_take T.F_law_take.kp T.b_law_take .nil pass0 (pa_cons (pv 1) (pa_cons pe_int pa_nil)))) pa_nil)) (blkOk_by (own := [("_law_k", 5)]) (N := ["_law_script", "_law_hand_here", "_law_count", "_law_names", "_law_funs", "_law_k", "_law_part", "_law_written", "_law_head", "_law_tail", "_law_tokens", "_law_at", "_law_behind", "_law_told", "_law_place", "_law_bad", "_law_offset", "_law_where", "_law_what", "_law_spoiled_here", "_law_due", "_law_deep", "_law_fun"]) (sc := defScope s_law) (by decide +kernel)) (fun _ _ _ _ _ => pg_name (i := 5) sc_law.nd rfl (Or.inl rfl)) (fun _ _ _ _ _ => pts_nil) (fun _ _ _ _ _ => (pe_call (ok_law_name T) (hr.mono (by decide)) rfl T.m_law_name T.F_law_name.kp T.b_law_name .nil pass0 (pa_cons (pv 1) (pa_cons (pv 2) pa_nil)))))
  (pss_cons (ps_set (i := 4) sc_law.nd rfl (by first | exact Or.inl rfl | exact Or.inr rfl) (pe_lst pa_nil))
  (Evl.pss_cut (ps_for (passes_of rfl) rfl (pi_range1 (by rfl) T.z_range (pa_cons (pe_op op_add pe_int (pe_call (ok_law_take T) (hr.mono (by decide)) rfl T.m_law_take T.F_law_take.kp T.b_law_take .nil pass0 (pa_cons (pv 1) (pa_cons pe_int pa_nil)))) pa_nil)) (pg_name (i := 5) sc_law.nd rfl (by first | exact Or.inl rfl | exact Or.inr rfl)) (pss_one (ps_expr (pe_bm PySem.F.plainAttrs_list PySem.F.slot_list_append PySem.F.type_list_append mt_append (pv 4) (pa_cons (pe_tup (pa_cons (pe_call (ok_law_name T) (hr.mono (by decide)) rfl T.m_law_name T.F_law_name.kp T.b_law_name .nil pass0 (pa_cons (pv 1) (pa_cons (pv 2) pa_nil))) (pa_cons (pe_call (ok_law_take T) (hr.mono (by decide)) rfl T.m_law_take T.F_law_take.kp T.b_law_take .nil pass0 (pa_cons (pv 1) (pa_cons pe_int pa_nil))) (pa_cons (pe_op op_add pe_int (pe_call (ok_law_take T) (hr.mono (by decide)) rfl T.m_law_take T.F_law_take.kp T.b_law_take .nil pass0 (pa_cons (pv 1) (pa_cons pe_int pa_nil)))) pa_nil)))) pa_nil)))))
  (pss_cons (ps_set (i := 6) sc_law.nd rfl (by first | exact Or.inl rfl | exact Or.inr rfl) (pe_call (ok_law_expression T) (hr.mono (by decide)) rfl T.m_law_expression T.F_law_expression.kp T.b_law_expression .nil pass0 (pa_cons (pv 1) (pa_cons (pv 3) (pa_cons (pe_lc (own := [("_law_fun", 22)]) (g := gName 22) (tt := tYes) rfl sc_law.nd (pi_list (pv 4)) (blkOk_by (own := [("_law_fun", 22)]) (N := ["_law_script", "_law_hand_here", "_law_count", "_law_names", "_law_funs", "_law_k", "_law_part", "_law_written", "_law_head", "_law_tail", "_law_tokens", "_law_at", "_law_behind", "_law_told", "_law_place", "_law_bad", "_law_offset", "_law_where", "_law_what", "_law_spoiled_here", "_law_due", "_law_deep", "_law_fun"]) (sc := defScope s_law) (by decide +kernel)) (fun _ _ _ _ _ => pg_name (i := 22) sc_law.nd rfl (Or.inl rfl)) (fun _ _ _ _ _ => pts_nil) (fun _ _ _ _ _ => (pe_tup (pa_cons (pe_ix ix_tup_b (pv 22) pe_int (fun _ _ => rfl)) (pa_cons (pe_ix ix_tup_b (pv 22) pe_int (fun _ _ => rfl)) pa_nil))))) (pa_cons (pe_op op_add pe_int (pe_call (ok_law_take T) (hr.mono (by decide)) rfl T.m_law_take T.F_law_take.kp T.b_law_take .nil pass0 (pa_cons (pv 1) (pa_cons pe_int pa_nil)))) pa_nil))))))
  (Evl.pss_cut (ps_set (i := 7) sc_law.nd rfl (by first | exact Or.inl rfl | exact Or.inr rfl) (pe_call (ok_law_expression_text T) (hr.mono (by decide)) rfl T.m_law_expression_text T.F_law_expression_text.kp T.b_law_expression_text .nil pass0 (pa_cons (pv 6) pa_nil)))
  (pss_cons (ps_set (i := 8) sc_law.nd rfl (by first | exact Or.inl rfl | exact Or.inr rfl) (pe_ix ix_list (pe_lst (pa_cons pe_str (pa_cons pe_str (pa_cons pe_str (pa_cons pe_str pa_nil))))) (pe_call (ok_law_take T) (hr.mono (by decide)) rfl T.m_law_take T.F_law_take.kp T.b_law_take .nil pass0 (pa_cons (pv 1) (pa_cons pe_int pa_nil))) (fun _ _ => rfl)))
  (pss_cons (ps_set (i := 9) sc_law.nd rfl (by first | exact Or.inl rfl | exact Or.inr rfl) (pe_ix ix_list (pe_lst (pa_cons pe_str (pa_cons pe_str (pa_cons pe_str (pa_cons pe_str (pa_cons pe_str (pa_cons pe_str (pa_cons pe_str (pa_cons pe_str pa_nil))))))))) (pe_call (ok_law_take T) (hr.mono (by decide)) rfl T.m_law_take T.F_law_take.kp T.b_law_take .nil pass0 (pa_cons (pv 1) (pa_cons pe_int pa_nil))) (fun _ _ => rfl)))
  (pss_cons (ps_set (i := 10) sc_law.nd rfl (by first | exact Or.inl rfl | exact Or.inr rfl) (pe_ifExp (pt_cmpR op_lt (pe_callB call_len_str (by rfl) T.z_len (by decide +kernel) (pa_cons (pv 7) pa_nil)) pe_int (nomark _)) (pe_call (ok_cut_text T) (hr.mono (by decide)) rfl T.m_cut_text T.F_cut_text.kp T.b_cut_text .nil (passes_call (takes_of rfl rfl rfl rfl) (fun _ _ _ _ q => q)) (pa_cons (pe_op op_add_str (pe_op op_add_str (pv 8) (pv 7)) (pv 9)) (pa_cons pe_int pa_nil))) (pe_call (ok_cut_text T) (hr.mono (by decide)) rfl T.m_cut_text T.F_cut_text.kp T.b_cut_text .nil (passes_call (takes_of rfl rfl rfl rfl) (fun _ _ _ _ q => q)) (pa_cons pe_str (pa_cons pe_int pa_nil)))))
  (pss_cons (ps_if (pt_cmpR op_ge (pe_callB call_len_str (by rfl) T.z_len (by decide +kernel) (pa_cons (pv 7) pa_nil)) pe_int (nomark _)) (pss_one (ps_ret (pe_cmpR op_eq (pe_callB call_len_seq (by rfl) T.z_len (by decide +kernel) (pa_cons (pv 10) pa_nil)) pe_int (nomark _))))
    pss_nil)
  (pss_cons (ps_set (i := 11) sc_law.nd rfl (by first | exact Or.inl rfl | exact Or.inr rfl) (pe_op op_sub (pe_callB call_len_seq (by rfl) T.z_len (by decide +kernel) (pa_cons (pe_call (ok_cut_text T) (hr.mono (by decide)) rfl T.m_cut_text T.F_cut_text.kp T.b_cut_text .nil (passes_call (takes_of rfl rfl rfl rfl) (fun _ _ _ _ q => q)) (pa_cons (pv 8) (pa_cons pe_int pa_nil))) pa_nil)) pe_int))
  (Evl.pss_cut (ps_set (i := 12) sc_law.nd rfl (by first | exact Or.inl rfl | exact Or.inr rfl) (pe_op op_sub (pe_op op_add (pv 11) (pe_callB call_len_seq (by rfl) T.z_len (by decide +kernel) (pa_cons (pe_call (ok_cut_text T) (hr.mono (by decide)) rfl T.m_cut_text T.F_cut_text.kp T.b_cut_text .nil (passes_call (takes_of rfl rfl rfl rfl) (fun _ _ _ _ q => q)) (pa_cons (pv 7) (pa_cons pe_int pa_nil))) pa_nil))) pe_int))
  (pss_cons (ps_set (i := 13) sc_law.nd rfl (by first | exact Or.inl rfl | exact Or.inr rfl) (pe_call (ok_law_read_told T) (hr.mono (by decide)) rfl T.m_law_read_told T.F_law_read_told.kp T.b_law_read_told .nil pass0 (pa_cons (pv 10) (pa_cons (pv 11) (pa_cons (pe_callTy call_tuple_of (by rfl) T.z_tuple (by decide +kernel) (pa_cons (pv 3) pa_nil)) (pa_cons (pe_callTy call_tuple_of (by rfl) T.z_tuple (by decide +kernel) (pa_cons (pv 4) pa_nil)) pa_nil))))))
  (pss_cons (ps_if (PW.pt (pw_or (pt_cmpR (op_neD hr.units) (pv 13) (pe_tup (pa_cons pe_str (pa_cons (pe_tup (pa_cons (pv 6) (pa_cons (pv 12) pa_nil))) pa_nil))) (nomark _)) (pw_or (pt_not (pt_val (pe_callB call_isi (by rfl) T.z_isinstance (by decide +kernel) (pa_cons (pe_ix ix_tup (pv 13) pe_int (fun _ _ => rfl)) (pa_cons (pe_bltn (v := .ty "tuple") (by rfl) T.z_tuple (by decide +kernel) rfl) pa_nil))))) (pw_or1 (pt_not (pt_val (pe_call (ok_law_whole T) (hr.mono (by decide)) rfl T.m_law_whole T.F_law_whole.kp T.b_law_whole .nil pass0 (pa_cons (pe_ix ix_tup (pe_ix ix_tup (pv 13) pe_int (fun _ _ => rfl)) pe_int (fun _ _ => rfl)) pa_nil)))))))) (pss_one (ps_ret pe_bl))
    pss_nil)
  (Evl.pss_cut (ps_if (PW.pt (pw_or (pt_cmpR (op_neD hr.units) (pe_call (ok_law_read_told T) (hr.mono (by decide)) rfl T.m_law_read_told T.F_law_read_told.kp T.b_law_read_told .nil pass0 (pa_cons (pv 10) (pa_cons (pv 11) (pa_cons (pv 3) (pa_cons (pe_callTy call_tuple_of (by rfl) T.z_tuple (by decide +kernel) (pa_cons (pv 4) pa_nil)) pa_nil))))) (pv 13) (nomark _)) (pw_or1 (pt_cmpR (op_neD hr.units) (pe_call (ok_law_read_told T) (hr.mono (by decide)) rfl T.m_law_read_told T.F_law_read_told.kp T.b_law_read_told .nil pass0 (pa_cons (pv 10) (pa_cons (pv 11) (pa_cons pe_non (pa_cons (pe_callTy call_tuple_of (by rfl) T.z_tuple (by decide +kernel) (pa_cons (pv 4) pa_nil)) pa_nil))))) (pv 13) (nomark _))))) (pss_one (ps_ret pe_bl))
    pss_nil)
  (Evl.pss_cut (ps_for (passes_of rfl) rfl (pi_list (pe_lst (pa_cons (pv 11) (pa_cons (pe_op op_fdiv (pe_callTy call_int1 (by rfl) T.z_int (by decide +kernel) (pa_cons (pe_op op_add (pv 11) (pv 12)) pa_nil)) pe_int) (pa_cons (pe_op op_sub (pe_callB call_len_seq (by rfl) T.z_len (by decide +kernel) (pa_cons (pv 10) pa_nil)) pe_int) pa_nil))))) (pg_name (i := 14) sc_law.nd rfl (by first | exact Or.inl rfl | exact Or.inr rfl)) (pss_one (ps_if (pt_not (pt_val (pe_call (ok_law_tokens_right T) (hr.mono (by decide)) rfl T.m_law_tokens_right T.F_law_tokens_right.kp T.b_law_tokens_right .nil pass0 (pa_cons (pv 10) (pa_cons (pv 14) pa_nil))))) (pss_one (ps_ret pe_bl))
    pss_nil)))
  (pss_cons (ps_asg (pe_call (ok_law_spoiled T) (hr.mono (by decide)) rfl T.m_law_spoiled T.F_law_spoiled.kp T.b_law_spoiled .nil pass0 (pa_cons (pv 1) (pa_cons (pv 3) (pa_cons (pv 4) pa_nil)))) (pg_tup rfl (pgs_cons (pg_name (i := 15) sc_law.nd rfl (by first | exact Or.inl rfl | exact Or.inr rfl)) (pgs_cons (pg_name (i := 16) sc_law.nd rfl (by first | exact Or.inl rfl | exact Or.inr rfl)) (pgs_cons (pg_name (i := 17) sc_law.nd rfl (by first | exact Or.inl rfl | exact Or.inr rfl)) (pgs_cons (pg_name (i := 18) sc_law.nd rfl (by first | exact Or.inl rfl | exact Or.inr rfl)) pgs_nil))))))
  (pss_cons (ps_set (i := 19) sc_law.nd rfl (by first | exact Or.inl rfl | exact Or.inr rfl) (pe_call (ok_cut_text T) (hr.mono (by decide)) rfl T.m_cut_text T.F_cut_text.kp T.b_cut_text .nil (passes_call (takes_of rfl rfl rfl rfl) (fun _ _ _ _ q => q)) (pa_cons (pe_op op_add_str (pe_op op_add_str (pe_op op_add_str pe_str (pv 7)) pe_str) (pv 15)) (pa_cons (pe_op op_add pe_int (pe_callB call_len_str (by rfl) T.z_len (by decide +kernel) (pa_cons (pv 15) pa_nil))) pa_nil))))
  (Evl.pss_cut (ps_set (i := 20) sc_law.nd rfl (by first | exact Or.inl rfl | exact Or.inr rfl) (pe_tup (pa_cons (pv 17) (pa_cons (pe_op op_add (pe_op op_add (pe_callB call_len_str (by rfl) T.z_len (by decide +kernel) (pa_cons (pv 7) pa_nil)) pe_int) (pv 16)) (pa_cons (pv 18) pa_nil)))))
  (pss_cons (ps_if (pt_cmpR (op_neD hr.units) (pe_call (ok_law_read_told T) (hr.mono (by decide)) rfl T.m_law_read_told T.F_law_read_told.kp T.b_law_read_told .nil pass0 (pa_cons (pv 19) (pa_cons pe_int (pa_cons (pe_callTy call_tuple_of (by rfl) T.z_tuple (by decide +kernel) (pa_cons (pv 3) pa_nil)) (pa_cons (pe_callTy call_tuple_of (by rfl) T.z_tuple (by decide +kernel) (pa_cons (pv 4) pa_nil)) pa_nil))))) (pv 20) (nomark _)) (pss_one (ps_ret pe_bl))
    pss_nil)
  (Evl.pss_cut (ps_if (PW.pt (pw_and (pt_cmpR op_eq (pv 15) pe_str (nomark _)) (pw_and1 (pt_cmpR op_ne (pe_ix ix_tup (pe_call (ok_law_read_told T) (hr.mono (by decide)) rfl T.m_law_read_told T.F_law_read_told.kp T.b_law_read_told .nil pass0 (pa_cons (pv 19) (pa_cons pe_int (pa_cons pe_non (pa_cons (pe_callTy call_tuple_of (by rfl) T.z_tuple (by decide +kernel) (pa_cons (pv 4) pa_nil)) pa_nil))))) pe_int (fun _ _ => rfl)) pe_str (nomark _))))) (pss_one (ps_ret pe_bl))
    pss_nil)
  (Evl.pss_cut (ps_set (i := 21) sc_law.nd rfl (by first | exact Or.inl rfl | exact Or.inr rfl) (pe_call (ok_cut_text T) (hr.mono (by decide)) rfl T.m_cut_text T.F_cut_text.kp T.b_cut_text .nil (passes_call (takes_of rfl rfl rfl rfl) (fun _ _ _ _ q => q)) (pa_cons pe_str (pa_cons pe_int pa_nil))))
  (pss_cons (ps_if (pt_cmpR (op_neD hr.units) (pe_call (ok_law_read_told T) (hr.mono (by decide)) rfl T.m_law_read_told T.F_law_read_told.kp T.b_law_read_told .nil pass0 (pa_cons (pv 21) (pa_cons pe_int (pa_cons (pe_tup pa_nil) (pa_cons (pe_tup (pa_cons (pe_tup (pa_cons pe_str (pa_cons pe_int (pa_cons pe_int pa_nil)))) pa_nil)) pa_nil))))) (pe_tup (pa_cons pe_str (pa_cons pe_int (pa_cons pe_str pa_nil)))) (nomark _)) (pss_one (ps_ret pe_bl))
    pss_nil)
  (pss_cons (ps_if (pt_cmpR op_ne (pe_ix ix_tup (pe_call (ok_law_read_told T) (hr.mono (by decide)) rfl T.m_law_read_told T.F_law_read_told.kp T.b_law_read_told .nil pass0 (pa_cons (pv 21) (pa_cons pe_int (pa_cons (pe_tup pa_nil) (pa_cons (pe_tup (pa_cons (pe_tup (pa_cons pe_str (pa_cons pe_int (pa_cons pe_int pa_nil)))) (pa_cons (pe_tup (pa_cons pe_str (pa_cons pe_int (pa_cons pe_int pa_nil)))) pa_nil))) pa_nil))))) pe_int (fun _ _ => rfl)) pe_str (nomark _)) (pss_one (ps_ret pe_bl))
    pss_nil)
  (pss_one (ps_ret (pe_cmpR (op_eqD hr.units) (pe_call (ok_law_read_told T) (hr.mono (by decide)) rfl T.m_law_read_told T.F_law_read_told.kp T.b_law_read_told .nil pass0 (pa_cons (pe_call (ok_cut_text T) (hr.mono (by decide)) rfl T.m_cut_text T.F_cut_text.kp T.b_cut_text .nil (passes_call (takes_of rfl rfl rfl rfl) (fun _ _ _ _ q => q)) (pa_cons pe_str (pa_cons pe_int pa_nil))) (pa_cons pe_int (pa_cons (pe_tup pa_nil) (pa_cons (pe_tup (pa_cons (pe_tup (pa_cons pe_str (pa_cons pe_int (pa_cons pe_int pa_nil)))) pa_nil)) pa_nil))))) (pe_tup (pa_cons pe_str (pa_cons pe_int (pa_cons pe_str pa_nil)))) (nomark _))))))))))))))))))))))))))))), ?_⟩
    walk_at "sm"
    refine ⟨sa, ns, rfl, hS, hl, fun p c H1 hp0 e1 hh1 => ?_⟩
    walk_at "sm"
    refine ⟨sz (by decide), fun q hq => ?_⟩
    have nqp := hh1.lt hq
    have nqc := hh1.lc hq
    have hh2 := hh1.go (Evl.Ex.new (o := .lst [.int 0]) hq)
    have hq2 : (upd H1 q (.lst [.int 0])) q = some (.lst [.int ((0 : Nat) : Int)]) := upd_same
    generalize upd H1 q (.lst [.int 0]) = H2 at *
    refine tk hh2 (by decide) (by decide) fun r H3 r0 r1 f3 hh3 => ?_
    walk_at "sm"
    have hq3 := f3 _ _ nqp hq2
    refine ⟨by omega, by omega, lcg_range (ivNs p c q) (fun D hD => ⟨[], upd_same, rfl, (by intro j x hx; cases hx), hh3.upd (hh3.lt hD) (hh3.lc hD), by rw [upd_ne (ne_of_none hq3 hD)]; exact hq3⟩) (fun na i H4 hD hi ⟨ws, h1, h2, h3, h4, h5⟩ => ?_) (fun na H4 hD ⟨ws, h1, h2, h3, h4, h5⟩ => ⟨Nat.zero_le _, fun fa hfa0 => ?_⟩)⟩
    · walk_at "sm"
      have nDq : na ≠ q := Ne.symm (ne_of_none hq3 hD)
      refine ⟨p, c, q, i, rfl, h4, h5, by omega, nqp, nqc, fun x H5 f5 hh5 hq5 hx => ⟨_, f5 _ _ (hh3.lt hD) nDq h1, ?_, ws ++ [x], ?_, by rw [List.length_append, h2]; rfl, fun j y hy => ?_, hh5.upd (hh3.lt hD) (hh3.lc hD), by rw [upd_ne (Ne.symm nDq)]; exact hq5⟩⟩
      · rw [List.length_map]
        exact Nat.lt_of_le_of_lt (show ws.length ≤ 1000 by omega) (by decide)
      · rw [upd_same, List.map_append]; rfl
      · rcases getElem?_snoc hy with q1 | ⟨q1, q2⟩
        · exact h3 j y q1
        · rw [q1, q2, h2]; exact hx
    have hwl : ws.length = (1 + r).toNat := h2
    have nfq : fa ≠ q := Ne.symm (ne_of_none h5 hfa0)
    have nfn : fa ≠ na := Ne.symm (ne_of_none h1 hfa0)
    have nfp := h4.lt hfa0
    have nfc := h4.lc hfa0
    have nnq : na ≠ q := Ne.symm (ne_of_none hq3 hD)
    have nnp := hh3.lt hD
    refine ⟨m1 (.ref sa), for_wi ?_, ?_⟩
    · walk_at "sm"
      refine tk (h4.upd nfp nfc) (by decide) (by decide) fun r' H5 r0' r1' f5 hh5 => ?_
      walk_at "sm"
      refine ⟨by omega, by omega, ?_⟩
      refine for_range (lo := 0) (n := (1 + r').toNat) (ivFs (.ref sa) p c q na fa ws) ⟨[], none, rfl, hh5, ?_, ?_, ?_, rfl, h3, fun i x hx => (by cases hx)⟩ ?_ ?_
      · rw [h2]
        exact f5 _ _ nqp (by rw [upd_ne (Ne.symm nfq)]; exact h5)
      · exact f5 _ _ nnp (by rw [upd_ne (Ne.symm nfn)]; exact h1)
      · exact ⟨[], f5 _ _ nfp upd_same, .nil⟩
      · rintro i σ H6 hi ⟨fs, v5, rfl, g1, g2, g3, g4, g5, g6⟩
        walk_at "sm"
        obtain ⟨fxs, k1, k2⟩ := g4
        obtain ⟨pl, hpl⟩ := g1.lst
        refine ⟨.inl ⟨rfl, _, SqL.of k1⟩, p, c, q, ws.length + i, rfl, g1, g2, by omega, nqp, nqc, fun x H7 f7 hh7 hq7 hx => ?_⟩
        refine tk hh7 (by decide) (by decide) fun rm H8 m0 m1' f8 hh8 => tk hh8 (by decide) (by decide) fun rd H9 d0 d1 f9 hh9 => ⟨_, rfl, sz (by decide), fun t ht => ?_⟩
        obtain ⟨pl7, hpl7⟩ := hh7.lst
        obtain ⟨pl8, hpl8⟩ := hh8.lst
        have T69 : Tp H6 H9 := fun b xs hb => (Tp.fr f9 hpl8) _ _ ((Tp.fr f8 hpl7) _ _ (f7 _ _ (ne_of hb hpl (by intro z; cases z)) (ne_of hb g2 (by intro z; cases z)) hb))
        have k9 : H9 fa = some (.lst fxs) := f9 _ _ nfp (f8 _ _ nfp (f7 _ _ nfp nfq k1))
        have n9 := f9 _ _ nnp (f8 _ _ nnp (f7 _ _ nnp nnq g3))
        have q9 := f9 _ _ nqp (f8 _ _ nqp hq7)
        obtain ⟨om, rfl⟩ : ∃ om : Nat, rm = (om : Int) := ⟨rm.toNat, by omega⟩
        obtain ⟨od, rfl⟩ : ∃ od : Nat, rd = (od : Int) := ⟨rd.toNat, by omega⟩
        have et := Evl.Ex.new (o := .tup [.str (S x), .int (om : Int), .int (1 + (od : Int))]) ht
        have ut : (upd H9 t (.tup [.str (S x), .int (om : Int), .int (1 + (od : Int))])) t = some (.tup (fnV (x, om, od + 1))) := by
          rw [upd_same]
          show some (HO.tup [V.str (S x), V.int om, V.int (1 + (od : Int))]) = some (HO.tup [V.str (S x), V.int om, V.int ((od + 1 : Nat) : Int)])
          rw [show (1 + (od : Int)) = ((od + 1 : Nat) : Int) by omega]
        generalize upd H9 t (.tup [.str (S x), .int (om : Int), .int (1 + (od : Int))]) = HA at *
        have kA := et _ _ k9
        have hlen := paired_len k2
        rw [List.length_map] at hlen
        refine ⟨fa, fxs, .ref t, rfl, rfl, kA, Nat.lt_of_le_of_lt (show fxs.length ≤ 1000 by omega) (by decide), fs ++ [(x, om, od + 1)], _, rfl, (hh9.go et).upd nfp nfc, ?_, ?_, ⟨_, upd_same, ?_⟩, by rw [List.length_append, g5]; rfl, ⟨g6.w, fun j y hy => ?_⟩⟩
        · rw [upd_ne (Ne.symm nfq)]
          exact et _ _ q9
        · rw [upd_ne (Ne.symm nfn)]
          exact et _ _ n9
        · rw [List.map_append]
          refine Paired.snoc ⟨t, rfl, Tp.upd kA _ _ ut⟩ (Paired.mapP k2 fun _ _ ⟨b, a1, a2⟩ => ⟨b, a1, Tp.upd kA _ _ (et _ _ (T69 _ _ a2))⟩)
        · rcases getElem?_snoc hy with q1 | ⟨q1, q2⟩
          · exact g6.f j y q1
          · rw [q1, q2, g5]
            exact ⟨hx, by show om ≤ 3; omega, by show od + 1 ≤ 50; omega⟩
      · rintro σ H6 ⟨fs, v5, rfl, g1, g2, g3, g4, g5, g6⟩
        exact ⟨p, c, q, na, fa, ws, fs, v5, rfl, ⟨g1, g3, g4, nnp, nfp, g6, by omega, by omega, by omega, by omega⟩⟩
    · rintro σ H5 ⟨p, c, q, na, fa, ws, fs, v5, rfl, L⟩
      walk_at "sm"
      obtain ⟨fxs, k1, k2⟩ := L.fl
      have hlen := paired_len k2
      rw [List.length_map] at hlen
      have L3 := L.f3
      refine ⟨⟨_, SqL.of k1⟩, lcg_list (xs := fxs) (fun D i H' => Evl.Ex H5 H' ∧ ∃ ys, H' D = some (.lst ys) ∧ ys.length ≤ i ∧ ToksAt H' ys ((fs.take i).map fun g => [V.str (S g.1), V.int (g.2.1 : Nat)])) (fun D hD => ⟨Evl.Ex.new hD, [], upd_same, Nat.le_refl _, .nil⟩) (fun D i H' _ _ h => SqL.of (h.1 _ _ k1)) (fun D i x H' hD hi h => ?_) (fun D H' hD h => ?_)⟩
      · obtain ⟨e1, ys, y1, y2, y3⟩ := h
        have hi2 := (List.getElem?_eq_some_iff.mp hi).1
        have hi3 : i < fs.length := by omega
        obtain ⟨x', h3, b', h4, h5⟩ := paired_at (i := i) k2 (by rw [List.getElem?_map, List.getElem?_eq_getElem hi3]; rfl)
        rw [hi] at h3
        cases h3
        subst h4
        have et : fs.take (i + 1) = fs.take i ++ [fs[i]] := by rw [List.take_add_one, List.getElem?_eq_getElem hi3]; rfl
        walk_at "sm"
        have h6 := e1 _ _ h5
        refine ix0 h6 (ix1 h6 ⟨sz (by decide), fun t ht => ?_⟩)
        have e2 := Evl.Ex.new (o := .tup [.str (S (fs[i]).1), .int ((fs[i]).2.1 : Nat)]) ht
        have y4 := e2 _ _ y1
        refine ⟨ys, y4, Nat.lt_of_le_of_lt (show ys.length ≤ 1000 by omega) (by decide), (e1.trans e2).mut hD, _, upd_same, by rw [List.length_append, List.length_singleton]; omega, ?_⟩
        rw [et, List.map_append]
        exact Paired.snoc ⟨t, rfl, Tp.upd y4 _ _ upd_same⟩ (Paired.mapP y3 fun _ _ ⟨b, a1, a2⟩ => ⟨b, a1, Tp.upd y4 _ _ (e2 _ _ a2)⟩)
      · obtain ⟨e1, ys, y1, y2, y3⟩ := h
        rw [hlen, List.take_length] at y3
        have L1 := L.ex e1
        refine tk L1.hh (by decide) (by decide) fun r4 H6 r40 r41 f6 hh6 => ⟨_, rfl, ?_⟩
        obtain ⟨kk, hkk⟩ : ∃ kk : Nat, 1 + r4 = (kk : Int) := ⟨(1 + r4).toNat, by omega⟩
        rw [hkk]
        have L2 := L1.fr f6 hh6
        have nDp := L.hh.lt hD
        obtain ⟨pl, hpl⟩ := L1.hh.lst
        have fD : FnL H6 D fs := FnL.fr ⟨ys, y1, y3⟩ nDp f6 hpl
        refine ⟨kk, by omega, p, c, na, D, ws, fs, rfl, by omega, hh6, L2.nl, fD, L2.n1, nDp, L2.w1, by have := L2.w5; omega, by omega, fun f hf => ?_, fun pr d ps H7 f7 hh7 hpr hw => ?_⟩
        · obtain ⟨j, hj⟩ := List.getElem?_of_mem hf
          exact (L.nm.f j f hj).2.1
        have L4 := L2.fr f7 hh7
        refine ⟨m2 (.ref sa), ?_, ?_⟩
        · walk_at "sm"
          exact ⟨kk, by omega, .ref pr, ws, fs, d, ps, rfl, L4.nm.env, hw, hpr, fun H8 e8 => ⟨p, c, q, na, fa, ws, fs, v5, pr, d, ps, kk, rfl, L4.ex e8, hpr.ex e8, hw, by omega⟩⟩
        · skip
          rintro σ H5 ⟨p, c, q, na, fa, ws, fs, v5, pr, d, ps, kk, rfl, L, hpr, hw, hkk⟩
          walk_at "sm"
          refine ⟨sz (by decide), fun l1 hl1 => ?_⟩
          have eh := Evl.Ex.new (o := .lst (heads.map V.str)) hl1
          have uh : (upd H5 l1 (.lst (heads.map V.str))) l1 = some (.lst (heads.map V.str)) := upd_same
          refine tk (H := upd H5 l1 (.lst (heads.map V.str))) (L.hh.go eh) (by decide) (by decide) fun r6 H6 r60 r61 f6 hh6 => ?_
          generalize upd H5 l1 (.lst (heads.map V.str)) = HH at *
          have LH := L.ex eh
          obtain ⟨plH, hplH⟩ := LH.hh.lst
          have L6 := LH.fr f6 hh6
          refine pickI (L := heads) (f6 _ _ (L.hh.lt hl1) uh) r60 (by show _ < (4 : Int); exact r61) fun hd hhd => ⟨sz (by decide), fun l2 hl2 => ?_⟩
          have et := Evl.Ex.new (o := .lst (tails.map V.str)) hl2
          have ut : (upd H6 l2 (.lst (tails.map V.str))) l2 = some (.lst (tails.map V.str)) := upd_same
          refine tk (H := upd H6 l2 (.lst (tails.map V.str))) (L6.hh.go et) (by decide) (by decide) fun r7 H7 r70 r71 f7 hh7 => ?_
          generalize upd H6 l2 (.lst (tails.map V.str)) = HT at *
          have LT := L6.ex et
          obtain ⟨plT, hplT⟩ := LT.hh.lst
          have L7 := LT.fr f7 hh7
          have p7 : At H7 (.ref pr) d := At.go (Tp.fr f7 hplT) _ _ (At.ex et (At.go (Tp.fr f6 hplH) _ _ (hpr.ex eh)))
          refine pickI (L := tails) (f7 _ _ (L6.hh.lt hl2) ut) r70 (by show _ < (8 : Int); exact r71) fun tl htl => ?_
          obtain ⟨hps, hb, br, Hh⟩ := head_ok hd (List.mem_of_getElem? hhd)
          obtain ⟨tps, Ht⟩ := tail_ok tl (List.mem_of_getElem? htl)
          have W := L.nm.env
          have hlen := Nat.le_trans (hw.len W) (lenB4 hkk)
          obtain ⟨a1, a2, ⟨ac, a3⟩, a4⟩ := all_ok W hw hkk Hh Ht
          have hl5 := Hh.ln
          have hl6 := Ht.ln
          have hl7 := Hh.hb1
          have lS : (S (flat ps)).length ≤ sizeLine := by rw [SX.S_len]; exact sz (by omega)
          have lhd : hd.length = (flat hps).length + hb := by rw [Hh.tx, SX.S_len, List.length_append, List.length_replicate]
          have ltl : tl.length = (flat tps).length := by rw [Ht.tx, SX.S_len]
          have lall : (flat (hps ++ (lead hb ps ++ tps))).length = (flat hps).length + hb + (flat ps).length + (flat tps).length := by
            rw [flat_app, flat_app, flat_lead hl7 hw.ne, List.length_append, List.length_append, List.length_append, List.length_replicate]
            omega
          refine ⟨lS, ite2 (fun hlt => ⟨_, rfl, ?_, _, rfl, ?_, ?_⟩) (fun hge => ?_)⟩
          · rw [lhd, SX.S_len]; exact sz (by omega)
          · rw [show (hd ++ S (flat ps)).length = hd.length + (flat ps).length by rw [Hh.tx, SX.S_cat, SX.S_len, SX.S_len, List.length_append], lhd, ltl]; exact sz (by omega)
          · rw [a1]
            rw [SX.S_len] at hlt
            refine cutc (b := 0) (by simp) a2 a3 (by omega) (by omega) fun tp H8 e8 tk8 => ⟨lS, iteN (by rw [SX.S_len]; omega) ?_⟩
            have hhx : hd = S (flat hps ++ List.replicate hb 32) := Hh.tx
            rw [hhx]
            have ok1 := Hh.ok []
            rw [List.append_nil] at ok1
            refine cutc (b := hb) rfl ok1 Hh.bk (by rw [List.length_append, List.length_replicate]; omega) (by rw [List.length_append, List.length_replicate]; omega) fun tq H9 e9 ⟨xs, x1, x2⟩ => ⟨tq, rfl, xs, .inr (SqT.of x1), ?_⟩
            have lx : xs.length = hps.length + 1 := by
              have := paired_len x2
              rwa [List.length_map, tokS_len] at this
            refine ⟨m3 (.ref sa), ?_, ?_⟩
            · walk_at "sm"
              refine cutc (b := 0) (ps := ps) (by simp) ((hw.good W).1 [] rfl) ((hw.good W).2 0 (by omega)) (by omega) (by omega) fun tr HA eA ⟨ys, y1, y2⟩ => ⟨tr, rfl, ys, .inr (SqT.of y1), ?_⟩
              have ly : ys.length = ps.length + 1 := by
                have := paired_len y2
                rwa [List.length_map, tokS_len] at this
              have e8A := (e8.trans e9).trans eA
              have ei : (xs.length : Int) - 1 = (hps.length : Nat) := by omega
              have ej : (xs.length : Int) - 1 + (ys.length : Nat) - 1 = ((hps.length + ps.length : Nat) : Int) := by omega
              rw [ej, ei]
              refine ⟨p, c, q, na, fa, ws, fs, v5, _, _, pr, d, ps, kk, tp, _, hps.length, rfl, L7.ex e8A, p7.ex e8A, hw, hkk, by omega, tk8.go (Tp.ex (e9.trans eA)), a4 _, tokS_ok a2, ?_⟩
              rw [tokS_len]
              have := okPs_lenLe a2
              omega
            · rintro σ H5 ⟨p, c, q, na, fa, ws, fs, v5, v8, v9, pr, d, ps, kk, tp, ts, i, rfl, L, hpr, hw, hkk, hlt, htk, t1⟩
              walk_at "sm"
              have W := L.nm.env
              have hl3 := L.f3
              obtain ⟨fxs, k1, k2⟩ := L.fl
              have nsS : NsOk ws (some ws) := fun w hw => List.contains_iff_mem.mpr hw
              refine ⟨_, .inl ⟨SqL.of L.nl, fun l1 hl1 => ?_⟩⟩
              have e1 := Evl.Ex.new (o := .tup (ws.map fun w => V.str (S w))) hl1
              have u1 : (upd H5 l1 (.tup (ws.map fun w => V.str (S w)))) l1 = some (.tup (ws.map fun w => V.str (S w))) := upd_same
              generalize upd H5 l1 (.tup (ws.map fun w => V.str (S w))) = H6 at *
              refine ⟨fxs, .inl ⟨SqL.of (e1 _ _ k1), fun l2 hl2 => ?_⟩⟩
              have e2 := Evl.Ex.new (o := .tup fxs) hl2
              have u2 : (upd H6 l2 (.tup fxs)) l2 = some (.tup fxs) := upd_same
              generalize upd H6 l2 (.tup fxs) = H7 at *
              have e12 := e1.trans e2
              have fnT : ∀ {H' : Hp}, Evl.Ex H5 H' → ToksAt H' fxs (fs.map fnV) := fun e => Paired.mapP k2 fun _ _ ⟨b, a1, a2⟩ => ⟨b, a1, e _ _ a2⟩
              refine rt_ok (ns := some ws) W hw hkk t1 (htk.go (Tp.ex e12)) ⟨l1, rfl, .inr (SqT.of (e2 _ _ u1))⟩ nsS ⟨fxs, u2, fnT e12⟩ (by omega) fun q1 H8 e8 hq1 => ⟨sz (by decide), fun t1' ht1 => ⟨sz (by decide), fun t2' ht2 => ?_⟩⟩
              have e3 := Evl.Ex.new (o := .tup [.ref pr, .int ((i + ps.length : Nat) : Int)]) ht1
              have u3 : (upd H8 t1' (.tup [.ref pr, .int ((i + ps.length : Nat) : Int)])) t1' = some (.tup [.ref pr, .int ((i + ps.length : Nat) : Int)]) := upd_same
              generalize upd H8 t1' (.tup [.ref pr, .int ((i + ps.length : Nat) : Int)]) = H9 at *
              have e4 := Evl.Ex.new (o := .tup [.str "read", .ref t1']) ht2
              have u4 : (upd H9 t2' (.tup [.str "read", .ref t1'])) t2' = some (.tup [.str "read", .ref t1']) := upd_same
              have e89 := e12.trans (e8.trans (e3.trans e4))
              change rNeD K (.ref q1) (.ref t2') (upd H9 t2' (.tup [.str "read", .ref t1'])) _
              generalize upd H9 t2' (.tup [.str "read", .ref t1']) = HA at *
              have pA := hpr.ex e89
              have qA := hq1.ex (e3.trans e4)
              have nA : At HA (.ref t2') (dRead d (i + ps.length)) := .tup u4 (.cons (.str _) (.cons (.tup (e4 _ _ u3) (.cons pA (.cons (.int _) .nil))) .nil))
              have shR := sh_read W hw hkk (i + ps.length)
              refine ne_same (At.dp _ _ qA) (At.dp _ _ nA) shR ⟨_, rfl, iteF ?_⟩
              obtain ⟨aq, xq, eaq, haq, hxq⟩ := qA.tupI
              cases eaq
              obtain ⟨y1, y2, rfl, hy1, hy2⟩ := at2 hxq
              obtain ⟨ar, xr, rfl, har, hxr⟩ := hy2.tupI
              obtain ⟨z1, z2, rfl, hz1, hz2⟩ := at2 hxr
              cases hz2.intI
              refine ix1 haq (isi_ty (t := "tuple") (b := true) (.base (.tup har)) (by decide +kernel) ⟨_, rfl, iteF (ix1 haq (ix1 har ⟨_, rfl, plain_int, _, rfl, iteF ?_⟩))⟩)
              have LA := L.ex e89
              refine ⟨m4 (.ref sa), ?_, ?_⟩
              · walk_at "sm"
                refine ⟨fxs, .inl ⟨SqL.of (e89 _ _ k1), fun l3 hl3 => ?_⟩⟩
                have e5 := Evl.Ex.new (o := .tup fxs) hl3
                have u5 : (upd HA l3 (.tup fxs)) l3 = some (.tup fxs) := upd_same
                generalize upd HA l3 (.tup fxs) = HB at *
                have eB := e89.trans e5
                refine rt_ok (ns := some ws) W hw hkk t1 (htk.go (Tp.ex eB)) ⟨na, rfl, .inl (SqL.of (eB _ _ L.nl))⟩ nsS ⟨fxs, u5, fnT eB⟩ (by omega) fun q2 HC eC hq2 => ne_same (At.dp _ _ hq2) (At.dp _ _ (hq1.ex (e3.trans (e4.trans (e5.trans eC))))) shR ⟨_, rfl, iteF ?_⟩
                have eBC := eB.trans eC
                refine ⟨fxs, .inl ⟨SqL.of (eBC _ _ k1), fun l4 hl4 => ?_⟩⟩
                have e6 := Evl.Ex.new (o := .tup fxs) hl4
                have u6 : (upd HC l4 (.tup fxs)) l4 = some (.tup fxs) := upd_same
                generalize upd HC l4 (.tup fxs) = HD at *
                have eD := eBC.trans e6
                refine rt_ok (ns := none) W hw hkk t1 (htk.go (Tp.ex eD)) rfl trivial ⟨fxs, u6, fnT eD⟩ (by omega) fun q3 HE eE hq3 => ne_same (At.dp _ _ hq3) (At.dp _ _ (hq1.ex (e3.trans (e4.trans (e5.trans (eC.trans (e6.trans eE))))))) shR ⟨_, rfl, iteF ?_⟩
                have eDE := eD.trans eE
                exact ⟨p, c, q, na, fa, ws, fs, v5, v8, v9, _, pr, d, ps, kk, tp, ts, i, rfl, L.ex eDE, hpr.ex eDE, hw, hkk, hlt, htk.go (Tp.ex eDE), t1⟩
              · rintro σ H5 ⟨p, c, q, na, fa, ws, fs, v5, v8, v9, v13, pr, d, ps, kk, tp, ts, i, rfl, L, hpr, hw, hkk, hlt, htk, t1⟩
                walk_at "sm"
                obtain ⟨sp, u, rest, d1, d2, d3⟩ := t1.dr
                obtain ⟨nx1, _, nx2⟩ := seg_next d1
                obtain ⟨txs, tx1, tx2⟩ := htk
                have tlen : txs.length = ts.length := by
                  have := paired_len tx2
                  rwa [List.length_map] at this
                refine ⟨m5 (.ref sa), for_lst ?_, ?_⟩
                · walk_at "sm"
                  refine ⟨⟨by omega, by omega⟩, txs, .inr (SqT.of tx1), sz (by decide), fun l hl => ⟨⟨_, SqL.of upd_same⟩, ?_⟩⟩
                  have em : ((i : Int) + ((i + ps.length : Nat) : Int)) / 2 = (((i + (i + ps.length)) / 2 : Nat) : Int) := by omega
                  have en : (txs.length : Int) - 1 = ((ts.length - 1 : Nat) : Int) := by omega
                  rw [em, en]
                  have e0 := Evl.Ex.new (o := .lst (([i, (i + (i + ps.length)) / 2, ts.length - 1] : List Nat).map fun n => V.int (n : Nat))) hl
                  have hl1 : (upd H5 l (.lst (([i, (i + (i + ps.length)) / 2, ts.length - 1] : List Nat).map fun n => V.int (n : Nat)))) l = some (.lst (([i, (i + (i + ps.length)) / 2, ts.length - 1] : List Nat).map fun n => V.int (n : Nat))) := upd_same
                  change tFor _ _ _ _ _ (upd H5 l (.lst (([i, (i + (i + ps.length)) / 2, ts.length - 1] : List Nat).map fun n => V.int (n : Nat))))
                  generalize upd H5 l (.lst (([i, (i + (i + ps.length)) / 2, ts.length - 1] : List Nat).map fun n => V.int (n : Nat))) = HA at *
                  refine for_list (K := K) (a := l) (xs := ([i, (i + (i + ps.length)) / 2, ts.length - 1] : List Nat).map fun n => V.int (n : Nat)) (ivPl HA (some (.ref sa)) (some (.ref p)) (some (.ref q)) (some (.ref na)) (some (.ref fa)) v5 (some (.ref pr)) (some (.str (S (flat ps)))) v8 v9 (some (.ref tp)) (some (.int i)) (some (.int ((i + ps.length : Nat) : Int))) v13) ⟨none, rfl, Evl.Ex.refl _⟩ (fun j σ H' _ ⟨_, _, e⟩ => Evl.ex_l e (SqL.of hl1)) ?_ ?_
                  · rintro j x σ H1 hj ⟨v14, rfl, e1⟩
                    rw [List.getElem?_map] at hj
                    obtain ⟨pl, hpl, rfl⟩ : ∃ pl, ([i, (i + (i + ps.length)) / 2, ts.length - 1] : List Nat)[j]? = some pl ∧ x = .int (pl : Nat) := by
                      cases e : ([i, (i + (i + ps.length)) / 2, ts.length - 1] : List Nat)[j]? with
                      | none => rw [e] at hj; cases hj
                      | some z => rw [e] at hj; exact ⟨z, rfl, (Option.some.inj hj).symm⟩
                    have hm := List.mem_of_getElem? hpl
                    have hlt2 : pl < ts.length := by
                      simp only [List.mem_cons, List.not_mem_nil, or_false] at hm
                      rcases hm with rfl | rfl | rfl <;> omega
                    walk_at "sm"
                    have htk1 : TkA H1 tp ts := TkA.go (Tp.ex (e0.trans e1)) ⟨txs, tx1, tx2⟩
                    exact ⟨tp, ts, pl, ts[pl], rfl, htk1, List.getElem?_eq_getElem hlt2, t1.ok _ (List.getElem_mem hlt2), fun H2 e2 => ⟨_, rfl, iteF ⟨_, rfl, e1.trans e2⟩⟩⟩
                  · rintro σ H1 ⟨v14, rfl, e1⟩
                    exact ⟨p, c, q, na, fa, ws, fs, v5, v8, v9, _, _, _, v13, v14, d, ps, kk, _, rfl, L.ex (e0.trans e1), hw, hkk, hlt⟩
                · rintro σ H5 ⟨p, c, q, na, fa, ws, fs, v5, v8, v9, v10, v11, v12, v13, v14, d, ps, kk, v6, rfl, L, hw, hkk, hlt⟩
                  walk_at "sm"
                  have W := L.nm.env
                  have hl3 := L.f3
                  obtain ⟨w0, ws', hws⟩ : ∃ w0 ws', ws = w0 :: ws' := by
                    cases ws with
                    | nil => exact absurd L.w1 (by decide)
                    | cons w0 ws' => exact ⟨w0, ws', rfl⟩
                  have hnl := L.nl
                  refine ⟨p, c, na, fa, w0, ws', fs, rfl, L.hh, by rw [← hws]; exact hnl, L.fl, L.n1, L.n2, ?_, L.f1, by omega, fun f hf => ?_, fun qb b H6 f6 hh6 hb hqb => ?_⟩
                  · exact (W.nw w0 (by rw [hws]; exact List.mem_cons_self)).2
                  · have := W.nf f hf
                    exact ⟨this.2.2.1, this.2.1⟩
                  rw [← hws] at hb
                  have L6 := L.fr f6 hh6
                  obtain ⟨s1, s2, s3⟩ := spo_ok W hw hkk hb
                  have lit : (Str.ofString ") - " : Str) = S [41, 32, 45, 32] := by decide +kernel
                  have lb := okPs_lenLe (Bd.good W hb).1
                  have lsp : (flat (spP ps b)).length = (flat ps).length + 5 + (flat b.ps).length := by
                    have q1 := congrArg Str.length s1
                    rw [lito, lit, SX.S_cat, SX.S_cat, SX.S_cat, SX.S_len, SX.S_len] at q1
                    simp only [List.length_append, List.length_cons, List.length_nil] at q1
                    omega
                  have lbd := bd_len W hb
                  refine ⟨qb, rfl, _, .inl (.inl hqb), rfl, _, _, rfl, _, _, rfl, _, _, rfl, _, _, rfl, rfl, ?_, ?_, _, rfl, ?_, _, rfl, ?_, ?_⟩
                  · rw [lito, SX.S_len, SX.S_len]; exact sz (by show 1 + _ ≤ 100000; omega)
                  · rw [lito, lit, SX.S_cat, SX.S_len, SX.S_len, List.length_append]; exact sz (by show 1 + _ + 4 ≤ 100000; omega)
                  · rw [lito, lit, SX.S_cat, SX.S_cat, SX.S_len, SX.S_len, List.length_append, List.length_append]; exact sz (by show 1 + _ + 4 + _ ≤ 100000; omega)
                  · rw [SX.S_len]; exact sz (by omega)
                  rw [s1]
                  refine cutc (b := 0) (by simp) s2 s3 (by rw [lsp, SX.S_len]; omega) (by omega) fun sp H7 e7 tk7 => ?_
                  refine ⟨m6, ?_, ?_⟩
                  · walk_at "sm"
                    refine ⟨by rw [SX.S_len]; exact sz (by omega), sz (by decide), fun du hdu => ?_⟩
                    have ed := Evl.Ex.new (o := .tup [V.str b.wh, V.int (((S (flat ps)).length : Nat) + 5 + (b.off : Nat)), V.str b.what]) hdu
                    refine ⟨p, c, q, na, fa, ws, fs, _, v5, v6, v8, v9, v10, v11, v12, v13, v14, _, _, _, d, ps, kk, b, sp, du, _, rfl, (L6.ex e7).ex ed, hw, hkk, hb, by omega, tk7.go (Tp.ex ed), ?_⟩
                    rw [Bd.er_eq]
                    have ei : (((S (flat ps)).length : Nat) + 5 + (b.off : Nat) : Int) = (((flat ps).length + 5 + b.off : Nat) : Int) := by rw [SX.S_len]; rfl
                    rw [ei]
                    exact .tup upd_same (.cons (.str _) (.cons (.int _) (.cons (.str _) .nil)))
                  · rintro σ H5 ⟨p, c, q, na, fa, ws, fs, o0, v5, v6, v8, v9, v10, v11, v12, v13, v14, v16, v17, v18, d, ps, kk, b, sp, du, n, rfl, L, hw, hkk, hb, hlt, htk, hdu⟩
                    walk_at "sm"
                    have W := L.nm.env
                    have Sp := L.nm.sep
                    have hl3 := L.f3
                    obtain ⟨fxs, k1, k2⟩ := L.fl
                    obtain ⟨_, s2, _⟩ := spo_ok W hw hkk hb
                    have fnT : ∀ {H' : Hp}, Evl.Ex H5 H' → ToksAt H' fxs (fs.map fnV) := fun e => Paired.mapP k2 fun _ _ ⟨b, a1, a2⟩ => ⟨b, a1, e _ _ a2⟩
                    have okT := tokS_ok (n := n) s2
                    have lbd := bd_len W hb
                    have lT : (tokS (spP ps b) n).length ≤ 90000 := by
                      rw [tokS_len]
                      have := okPs_lenLe s2
                      obtain ⟨s1, _, _⟩ := spo_ok W hw hkk hb
                      have lit : (Str.ofString ") - " : Str) = S [41, 32, 45, 32] := by decide +kernel
                      have q1 := congrArg Str.length s1
                      rw [lito, lit, SX.S_cat, SX.S_cat, SX.S_cat, SX.S_len, SX.S_len] at q1
                      simp only [List.length_append, List.length_cons, List.length_nil] at q1
                      omega
                    obtain ⟨rd1, rd2⟩ := spo_read W Sp hw hkk hb n
                    refine ⟨_, .inl ⟨SqL.of L.nl, fun l1 hl1 => ?_⟩⟩
                    have e1 := Evl.Ex.new (o := .tup (ws.map fun w => V.str (S w))) hl1
                    have u1 : (upd H5 l1 (.tup (ws.map fun w => V.str (S w)))) l1 = some (.tup (ws.map fun w => V.str (S w))) := upd_same
                    generalize upd H5 l1 (.tup (ws.map fun w => V.str (S w))) = H6 at *
                    refine ⟨fxs, .inl ⟨SqL.of (e1 _ _ k1), fun l2 hl2 => ?_⟩⟩
                    have e2 := Evl.Ex.new (o := .tup fxs) hl2
                    have u2 : (upd H6 l2 (.tup fxs)) l2 = some (.tup fxs) := upd_same
                    generalize upd H6 l2 (.tup fxs) = H7 at *
                    have e12 := e1.trans e2
                    refine ⟨sp, 0, .ref l1, l2, _, some ws, fs, _, rfl, ⟨htk.go (Tp.ex e12), ⟨l1, rfl, .inr (SqT.of (e2 _ _ u1))⟩, ⟨fxs, u2, fnT e12⟩, tok_sg okT, lT, by omega⟩, rd1, fun q1 H8 e8 hq1 => ?_⟩
                    refine ne_same (At.dp _ _ hq1) (At.dp _ _ (hdu.ex (e12.trans e8))) (sh_err b _) ⟨_, rfl, iteF ?_⟩
                    have e128 := e12.trans e8
                    refine ⟨m7, ?_, ?_⟩
                    · walk_at "sm"
                      refine ite2 (fun hqq => ?_) (fun _ => ⟨_, _, _, _, _, _, _, _, _, _, _, _, _, _, _, _, _, _, _, _, _, rfl⟩)
                      have ebq := qq_only L.nm hb hqq
                      obtain ⟨r, hr⟩ := rd2 ebq
                      refine ⟨fxs, .inl ⟨SqL.of (e128 _ _ k1), fun l3 hl3 => ?_⟩⟩
                      have e3 := Evl.Ex.new (o := .tup fxs) hl3
                      have u3 : (upd H8 l3 (.tup fxs)) l3 = some (.tup fxs) := upd_same
                      generalize upd H8 l3 (.tup fxs) = H9 at *
                      have e9 := e128.trans e3
                      refine ⟨sp, 0, .non, l3, _, none, fs, _, rfl, ⟨htk.go (Tp.ex e9), rfl, ⟨fxs, u3, fnT e9⟩, tok_sg okT, lT, by omega⟩, hr, fun q2 HA eA hq2 => ?_⟩
                      obtain ⟨aq, xq, eaq, haq, hxq⟩ := At.tupI (show At HA (.ref q2) (.tuple [.str "read", .tuple [r.1, .int (r.2.2 : Nat)]]) from hq2)
                      cases eaq
                      obtain ⟨y1, y2, rfl, hy1, hy2⟩ := at2 hxq
                      cases hy1.strI
                      exact ix0 haq ⟨rfl, iteN (by rw [decide_eq_true rfl]; decide) ⟨_, _, _, _, _, _, _, _, _, _, _, _, _, _, _, _, _, _, _, _, _, rfl⟩⟩
                    · rintro σ H5 ⟨o0, o1, o2, o3, o4, o5, o6, o7, o8, o9, o10, o11, o12, o13, o14, o15, o16, o17, o18, o19, o20, rfl⟩
                      refine ⟨m8, ?_, ?_⟩
                      · walk_at "sm"
                        obtain ⟨x1, x2, x3, x4⟩ := dp1
                        rw [x1]
                        refine cutc (b := 0) (by simp) x2 x3 (by rw [x4]; decide) (by rw [x4]; decide) fun dp H6 e6 tk6 => ?_
                        rw [x4] at tk6
                        exact ⟨o0, o1, o2, o3, o4, o5, o6, o7, o8, o9, o10, o11, o12, o13, o14, o15, o16, o17, o18, o19, o20, dp, rfl, tk6⟩
                      · rintro σ H5 ⟨o0, o1, o2, o3, o4, o5, o6, o7, o8, o9, o10, o11, o12, o13, o14, o15, o16, o17, o18, o19, o20, dp, rfl, htk⟩
                        walk_at "sm"
                        obtain ⟨_, y2, _, _⟩ := dp1
                        have okD : ∀ t ∈ tokS dpP 5, okTok t := tokS_ok y2
                        have lD : (tokS dpP 5).length ≤ 90000 := by rw [toks_dp]; decide
                        have one : ∀ {H' : Hp} {f b : Addr} {w : Cs} {n : Nat}, H' b = some (.tup (fnV (w, 1, n))) → H' f = some (.tup [.ref b]) → FnA H' f [(w, 1, n)] := fun hb hf => ⟨_, hf, .cons ⟨_, rfl, hb⟩ .nil⟩
                        refine ⟨Nat.zero_le _, fun p1 h1 => ⟨sz (by decide), fun p2 h2 => ⟨sz (by decide), fun p3 h3 => ?_⟩⟩⟩
                        rw [q1_S] at h3 ⊢
                        have e1 := Evl.Ex.new (o := .tup []) h1
                        have u1 : (upd H5 p1 (.tup [])) p1 = some (.tup []) := upd_same
                        generalize upd H5 p1 (.tup []) = H6 at *
                        have e2 := Evl.Ex.new (o := .tup [V.str (S wQ1), V.int 1, V.int 60]) h2
                        have u2 : (upd H6 p2 (.tup [V.str (S wQ1), V.int 1, V.int 60])) p2 = some (.tup (fnV (wQ1, 1, 60))) := upd_same
                        generalize upd H6 p2 (.tup [V.str (S wQ1), V.int 1, V.int 60]) = H7 at *
                        have e3 := Evl.Ex.new (o := .tup [V.ref p2]) h3
                        have u3 : (upd H7 p3 (.tup [V.ref p2])) p3 = some (.tup [V.ref p2]) := upd_same
                        generalize upd H7 p3 (.tup [V.ref p2]) = H8 at *
                        have e13 := e1.trans (e2.trans e3)
                        refine ⟨dp, 0, .ref p1, p3, _, some [], _, _, rfl, ⟨htk.go (Tp.ex e13), ⟨p1, rfl, .inr (SqT.of (e3 _ _ (e2 _ _ u1)))⟩, one (e3 _ _ u2) u3, tok_sg okD, lD, by decide⟩, deep1, fun q1 H9 e9 hq1 => ⟨sz (by decide), fun t1 ht1 => ?_⟩⟩
                        refine ne_same (At.dp _ _ (At.ex (Evl.Ex.new ht1) hq1)) (At.dp _ _ (.tup upd_same (.cons (.str _) (.cons (.int _) (.cons (.str _) .nil))))) (dE_deep 0) ⟨_, rfl, iteF ⟨Nat.zero_le _, fun p4 h4 => ⟨sz (by decide), fun p5 h5 => ⟨sz (by decide), fun p6 h6 => ⟨sz (by decide), fun p7 h7 => ?_⟩⟩⟩⟩⟩
                        have e10 := e9.trans (Evl.Ex.new (o := .tup [V.str "text", V.int 0, V.str "deep"]) ht1)
                        change Evl.Ex H8 (upd H9 t1 (.tup [V.str (Str.ofString "text"), V.int 0, V.str (Str.ofString "deep")])) at e10
                        generalize upd H9 t1 (.tup [V.str (Str.ofString "text"), V.int 0, V.str (Str.ofString "deep")]) = HA at *
                        rw [q0_S] at h6 h7 ⊢
                        have e4 := Evl.Ex.new (o := .tup []) h4
                        have u4 : (upd HA p4 (.tup [])) p4 = some (.tup []) := upd_same
                        generalize upd HA p4 (.tup []) = HB at *
                        have e5 := Evl.Ex.new (o := .tup [V.str (S wQ0), V.int 1, V.int 60]) h5
                        have u5 : (upd HB p5 (.tup [V.str (S wQ0), V.int 1, V.int 60])) p5 = some (.tup (fnV (wQ0, 1, 60))) := upd_same
                        generalize upd HB p5 (.tup [V.str (S wQ0), V.int 1, V.int 60]) = HC at *
                        have e6 := Evl.Ex.new (o := .tup [V.str (S wQ1), V.int 1, V.int 59]) h6
                        have u6 : (upd HC p6 (.tup [V.str (S wQ1), V.int 1, V.int 59])) p6 = some (.tup (fnV (wQ1, 1, 59))) := upd_same
                        generalize upd HC p6 (.tup [V.str (S wQ1), V.int 1, V.int 59]) = HD at *
                        have e7 := Evl.Ex.new (o := .tup [V.ref p5, V.ref p6]) h7
                        have u7 : (upd HD p7 (.tup [V.ref p5, V.ref p6])) p7 = some (.tup [V.ref p5, V.ref p6]) := upd_same
                        generalize upd HD p7 (.tup [V.ref p5, V.ref p6]) = HE at *
                        have e17 := e13.trans (e10.trans (e4.trans (e5.trans (e6.trans e7))))
                        obtain ⟨r2, hr2⟩ := deep2
                        refine ⟨dp, 0, .ref p4, p7, _, some [], [(wQ0, 1, 60), (wQ1, 1, 59)], _, rfl, ⟨htk.go (Tp.ex e17), ⟨p4, rfl, .inr (SqT.of (e7 _ _ (e6 _ _ (e5 _ _ u4))))⟩, ⟨_, u7, .cons ⟨_, rfl, e7 _ _ (e6 _ _ u5)⟩ (.cons ⟨_, rfl, e7 _ _ u6⟩ .nil)⟩, tok_sg okD, lD, by decide⟩, hr2, fun q2 HF eF hq2 => ?_⟩
                        obtain ⟨aq, xq, eaq, haq, hxq⟩ := At.tupI (show At HF (.ref q2) (.tuple [.str "read", .tuple [r2.1, .int (r2.2.2 : Nat)]]) from hq2)
                        cases eaq
                        obtain ⟨z1, z2, rfl, hz1, hz2⟩ := at2 hxq
                        cases hz1.strI
                        refine ix0 haq ⟨rfl, iteN (by rw [decide_eq_true rfl]; decide) ?_⟩
                        obtain ⟨w1, w2, w3, w4⟩ := dp2
                        rw [w1]
                        refine cutc (b := 0) (by simp) w2 w3 (by rw [w4]; decide) (by rw [w4]; decide) fun dq HG eG tkG => ⟨Nat.zero_le _, fun p8 h8 => ⟨sz (by decide), fun p9 h9 => ⟨sz (by decide), fun pa ha => ?_⟩⟩⟩
                        rw [w4] at tkG
                        have okE : ∀ t ∈ tokS dpP2 9, okTok t := tokS_ok w2
                        have e8 := Evl.Ex.new (o := .tup []) h8
                        have u8 : (upd HG p8 (.tup [])) p8 = some (.tup []) := upd_same
                        generalize upd HG p8 (.tup []) = HH at *
                        have e9' := Evl.Ex.new (o := .tup [V.str (S wQ1), V.int 1, V.int 59]) h9
                        have u9 : (upd HH p9 (.tup [V.str (S wQ1), V.int 1, V.int 59])) p9 = some (.tup (fnV (wQ1, 1, 59))) := upd_same
                        generalize upd HH p9 (.tup [V.str (S wQ1), V.int 1, V.int 59]) = HI at *
                        have ea := Evl.Ex.new (o := .tup [V.ref p9]) ha
                        have ua : (upd HI pa (.tup [V.ref p9])) pa = some (.tup [V.ref p9]) := upd_same
                        generalize upd HI pa (.tup [V.ref p9]) = HJ at *
                        have e8a := e8.trans (e9'.trans ea)
                        refine ⟨dq, 0, .ref p8, pa, _, some [], _, _, rfl, ⟨tkG.go (Tp.ex e8a), ⟨p8, rfl, .inr (SqT.of (ea _ _ (e9' _ _ u8)))⟩, one (ea _ _ u9) ua, tok_sg okE, by rw [toks_dp2]; decide, by decide⟩, deep3, fun q3 HK eK hq3 => ⟨sz (by decide), fun t3 ht3 => ?_⟩⟩
                        exact eq_same (At.dp _ _ (At.ex (Evl.Ex.new ht3) hq3)) (At.dp _ _ (.tup upd_same (.cons (.str _) (.cons (.int _) (.cons (.str _) .nil))))) (dE_deep 2) (k _)
          · rw [SX.S_len] at hge
            have l7 : (Str.ofString "7" : Str) = S (flat [(0, .num 7)]) := by decide +kernel
            have ll7 : (flat [(0, Tk.num 7)]).length = 1 := by decide +kernel
            rw [l7]
            refine cutc (b := 0) (by simp) (by decide +kernel) (by rfl : brks 0 [(0, Tk.num 7)] = some 0) (by omega) (by omega) fun tp H8 e8 ⟨xs, x1, x2⟩ => ⟨lS, iteP (by rw [SX.S_len]; omega) ⟨tp, rfl, xs, .inr (SqT.of x1), ?_⟩⟩
            have lx : xs.length = 2 := by
              have := paired_len x2
              rwa [List.length_map, tokS_len] at this
            rw [lx]
            exact k _
end

theorem exm_self {K : PySem.W.Frag} {S : Addr} (h1 : PySem.W.subIn K (.ref S) (.type "BaseException") = some true) (h2 : PySem.W.isClsIn K S = true) (h3 : PySem.W.typeIn K (.ref S) = some (.type "type")) (h4 : PySem.W.subIn K (.ref S) (.ref S) = some true) :
    PySem.W.exmOne K (.ref S) (.ref S) = some true := by
  have e1 : (PySem.W.subIn K (.ref S) (.type "BaseException") == some true) = true := by rw [h1] <;> rfl
  have e2 : ((PySem.W.clsIn K S).isSome && PySem.W.typeIn K (.ref S) == some (.type "type")) = true := by
    have h5 : (PySem.W.clsIn K S).isSome = true := h2
    rw [h5, h3] <;> rfl
  unfold PySem.W.exmOne
  rw [if_pos e1]
  show (if ((PySem.W.clsIn K S).isSome && PySem.W.typeIn K (.ref S) == some (.type "type")) = true then PySem.W.subIn K (.ref S) (.ref S) else none) = some true
  rw [if_pos e2]
  exact h4
/-- the items of a constant tuple, held against what they should be -/
def valB : V → Value → Bool
  | .int i, .int j _ => decide (i = j)
  | .str x, .str y _ => decide (x = y)
  | _, _ => false
theorem valB_ok : ∀ {x : V} {u : Value}, valB x u = true → RelV x u := by
  intro x u h
  unfold valB at h
  split at h
  · exact ⟨_, by rw [of_decide_eq_true h]⟩
  · exact ⟨_, by rw [of_decide_eq_true h]⟩
  · cases h
def valsB : List V → List Value → Bool
  | [], [] => true
  | x :: xs, u :: us => valB x u && valsB xs us
  | _, _ => false
theorem valsB_ok : ∀ {xs : List V} {us : List Value}, valsB xs us = true → Vals xs us
  | [], [], _ => .nil
  | [], _ :: _, h => by cases h
  | _ :: _, [], h => by cases h
  | x :: xs, u :: us, h => by
    have h' : (valB x u && valsB xs us) = true := h
    rw [Bool.and_eq_true] at h'
    exact .cons (valB_ok h'.1) (valsB_ok h'.2)
theorem sqT_mk {K : PySem.W.Frag} {H : Hp} {p : Addr} {d : Option Addr} {its : Array Value} {n : Nat} {sl : Array (Option Value)} {xs : List V} (l : K.lookup p = some ⟨.type "tuple", d, .seq its n, sl⟩) (v : valsB xs its.toList = true) (z : decide (its.size ≤ 1000) = true) : SqT K H p xs :=
  .inr ⟨_, its, n, l, rfl, rfl, Nat.le_trans (of_decide_eq_true z) (by decide), valsB_ok v⟩

theorem exm_no {K : PySem.W.Frag} {S T : Addr} (h1 : PySem.W.subIn K (.ref T) (.type "BaseException") = some true) (h2 : PySem.W.isClsIn K T = true) (h3 : PySem.W.typeIn K (.ref T) = some (.type "type")) (h4 : PySem.W.subIn K (.ref S) (.ref T) = some false) :
    PySem.W.exmOne K (.ref S) (.ref T) = some false := by
  have e1 : (PySem.W.subIn K (.ref T) (.type "BaseException") == some true) = true := by rw [h1] <;> rfl
  have e2 : ((PySem.W.clsIn K T).isSome && PySem.W.typeIn K (.ref T) == some (.type "type")) = true := by
    have h5 : (PySem.W.clsIn K T).isSome = true := h2
    rw [h5, h3] <;> rfl
  unfold PySem.W.exmOne
  rw [if_pos e1]
  show (if ((PySem.W.clsIn K T).isSome && PySem.W.typeIn K (.ref T) == some (.type "type")) = true then PySem.W.subIn K (.ref S) (.ref T) else none) = some false
  rw [if_pos e2]
  exact h4
theorem strg_has {K : PySem.W.Frag} {p : Addr} {tk_1 : PySem.Tok} {tk_2 : PySem.Tok} {tk_3 : PySem.Tok} {tk_16 : PySem.Tok} {tk_17 : PySem.Tok} {tk_18 : PySem.Tok} {tk_19 : PySem.Tok} {tk_20 : PySem.Tok} {tk_21 : PySem.Tok} {tk_22 : PySem.Tok} (h0 : PySem.W.nsIn K p "<=>" = some none) (h1 : PySem.W.nsIn K p "==" = some (some (.int 1 tk_1))) (h2 : PySem.W.nsIn K p "<<" = some (some (.int 7 tk_2))) (h3 : PySem.W.nsIn K p ">>" = some (some (.int 7 tk_3))) (h4 : PySem.W.nsIn K p "+=" = some none) (h5 : PySem.W.nsIn K p "-=" = some none) (h6 : PySem.W.nsIn K p "^=" = some none) (h7 : PySem.W.nsIn K p "{" = some none) (h8 : PySem.W.nsIn K p "}" = some none) (h9 : PySem.W.nsIn K p "(" = some none) (h10 : PySem.W.nsIn K p ")" = some none) (h11 : PySem.W.nsIn K p "[" = some none) (h12 : PySem.W.nsIn K p "]" = some none) (h13 : PySem.W.nsIn K p "," = some none) (h14 : PySem.W.nsIn K p ";" = some none) (h15 : PySem.W.nsIn K p "=" = some none) (h16 : PySem.W.nsIn K p "+" = some (some (.int 5 tk_16))) (h17 : PySem.W.nsIn K p "-" = some (some (.int 5 tk_17))) (h18 : PySem.W.nsIn K p "*" = some (some (.int 6 tk_18))) (h19 : PySem.W.nsIn K p "&" = some (some (.int 4 tk_19))) (h20 : PySem.W.nsIn K p "|" = some (some (.int 2 tk_20))) (h21 : PySem.W.nsIn K p "^" = some (some (.int 3 tk_21))) (h22 : PySem.W.nsIn K p "<" = some (some (.int 1 tk_22))) : ∀ s ∈ sgs, ∃ r, PySem.W.nsIn K p (S s) = some r ∧ match strg s with
    | none => r = none
    | some g => ∃ u, r = some u ∧ RelV (.int (g : Nat)) u := by
  intro s hs
  have hs : s ∈ ([[60, 61, 62], [61, 61], [60, 60], [62, 62], [43, 61], [45, 61], [94, 61], [123], [125], [40], [41], [91], [93], [44], [59], [61], [43], [45], [42], [38], [124], [94], [60]] : List Cs) := hs
  simp only [List.mem_cons, List.not_mem_nil, or_false] at hs
  rcases hs with rfl | rfl | rfl | rfl | rfl | rfl | rfl | rfl | rfl | rfl | rfl | rfl | rfl | rfl | rfl | rfl | rfl | rfl | rfl | rfl | rfl | rfl | rfl
  · have e : (Str.ofString "<=>" : Str) = S [60, 61, 62] := by decide +kernel
    rw [e] at h0
    exact ⟨_, h0, rfl⟩
  · have e : (Str.ofString "==" : Str) = S [61, 61] := by decide +kernel
    rw [e] at h1
    exact ⟨_, h1, _, rfl, _, rfl⟩
  · have e : (Str.ofString "<<" : Str) = S [60, 60] := by decide +kernel
    rw [e] at h2
    exact ⟨_, h2, _, rfl, _, rfl⟩
  · have e : (Str.ofString ">>" : Str) = S [62, 62] := by decide +kernel
    rw [e] at h3
    exact ⟨_, h3, _, rfl, _, rfl⟩
  · have e : (Str.ofString "+=" : Str) = S [43, 61] := by decide +kernel
    rw [e] at h4
    exact ⟨_, h4, rfl⟩
  · have e : (Str.ofString "-=" : Str) = S [45, 61] := by decide +kernel
    rw [e] at h5
    exact ⟨_, h5, rfl⟩
  · have e : (Str.ofString "^=" : Str) = S [94, 61] := by decide +kernel
    rw [e] at h6
    exact ⟨_, h6, rfl⟩
  · have e : (Str.ofString "{" : Str) = S [123] := by decide +kernel
    rw [e] at h7
    exact ⟨_, h7, rfl⟩
  · have e : (Str.ofString "}" : Str) = S [125] := by decide +kernel
    rw [e] at h8
    exact ⟨_, h8, rfl⟩
  · have e : (Str.ofString "(" : Str) = S [40] := by decide +kernel
    rw [e] at h9
    exact ⟨_, h9, rfl⟩
  · have e : (Str.ofString ")" : Str) = S [41] := by decide +kernel
    rw [e] at h10
    exact ⟨_, h10, rfl⟩
  · have e : (Str.ofString "[" : Str) = S [91] := by decide +kernel
    rw [e] at h11
    exact ⟨_, h11, rfl⟩
  · have e : (Str.ofString "]" : Str) = S [93] := by decide +kernel
    rw [e] at h12
    exact ⟨_, h12, rfl⟩
  · have e : (Str.ofString "," : Str) = S [44] := by decide +kernel
    rw [e] at h13
    exact ⟨_, h13, rfl⟩
  · have e : (Str.ofString ";" : Str) = S [59] := by decide +kernel
    rw [e] at h14
    exact ⟨_, h14, rfl⟩
  · have e : (Str.ofString "=" : Str) = S [61] := by decide +kernel
    rw [e] at h15
    exact ⟨_, h15, rfl⟩
  · have e : (Str.ofString "+" : Str) = S [43] := by decide +kernel
    rw [e] at h16
    exact ⟨_, h16, _, rfl, _, rfl⟩
  · have e : (Str.ofString "-" : Str) = S [45] := by decide +kernel
    rw [e] at h17
    exact ⟨_, h17, _, rfl, _, rfl⟩
  · have e : (Str.ofString "*" : Str) = S [42] := by decide +kernel
    rw [e] at h18
    exact ⟨_, h18, _, rfl, _, rfl⟩
  · have e : (Str.ofString "&" : Str) = S [38] := by decide +kernel
    rw [e] at h19
    exact ⟨_, h19, _, rfl, _, rfl⟩
  · have e : (Str.ofString "|" : Str) = S [124] := by decide +kernel
    rw [e] at h20
    exact ⟨_, h20, _, rfl, _, rfl⟩
  · have e : (Str.ofString "^" : Str) = S [94] := by decide +kernel
    rw [e] at h21
    exact ⟨_, h21, _, rfl, _, rfl⟩
  · have e : (Str.ofString "<" : Str) = S [60] := by decide +kernel
    rw [e] at h22
    exact ⟨_, h22, _, rfl, _, rfl⟩

theorem all_mk {P : Program} {w : World} {K : PySem.W.Frag} {h : Heap} {mg : Str → Option Value} {fa : Addr} (X : K.In h) (G : h.Ns mainGlobals mg) (hfa : mg "law" = some (.ref fa))
    {v_cut_text : Addr} {oc_cut_text kV_cut_text dc_cut_text pm_cut_text cd_cut_text ct_cut_text : Value} {od_cut_text an_cut_text : Option Addr} {sl_cut_text : Array (Option Value)}
    {v_cut_token : Addr} {oc_cut_token kV_cut_token dc_cut_token pm_cut_token cd_cut_token ct_cut_token : Value} {od_cut_token an_cut_token : Option Addr} {sl_cut_token : Array (Option Value)}
    {v_row_of : Addr} {oc_row_of kV_row_of dc_row_of pm_row_of cd_row_of ct_row_of : Value} {od_row_of an_row_of : Option Addr} {sl_row_of : Array (Option Value)}
    {v_cut_word : Addr} {oc_cut_word kV_cut_word dc_cut_word pm_cut_word cd_cut_word ct_cut_word : Value} {od_cut_word an_cut_word : Option Addr} {sl_cut_word : Array (Option Value)}
    {v_cut_number : Addr} {oc_cut_number kV_cut_number dc_cut_number pm_cut_number cd_cut_number ct_cut_number : Value} {od_cut_number an_cut_number : Option Addr} {sl_cut_number : Array (Option Value)}
    {v_brackets_behind : Addr} {oc_brackets_behind kV_brackets_behind dc_brackets_behind pm_brackets_behind cd_brackets_behind ct_brackets_behind : Value} {od_brackets_behind an_brackets_behind : Option Addr} {sl_brackets_behind : Array (Option Value)}
    {v_is_sign : Addr} {oc_is_sign kV_is_sign dc_is_sign pm_is_sign cd_is_sign ct_is_sign : Value} {od_is_sign an_is_sign : Option Addr} {sl_is_sign : Array (Option Value)}
    {v_take_sign : Addr} {oc_take_sign kV_take_sign dc_take_sign pm_take_sign cd_take_sign ct_take_sign : Value} {od_take_sign an_take_sign : Option Addr} {sl_take_sign : Array (Option Value)}
    {v_take_name : Addr} {oc_take_name kV_take_name dc_take_name pm_take_name cd_take_name ct_take_name : Value} {od_take_name an_take_name : Option Addr} {sl_take_name : Array (Option Value)}
    {v_take_number : Addr} {oc_take_number kV_take_number dc_take_number pm_take_number cd_take_number ct_take_number : Value} {od_take_number an_take_number : Option Addr} {sl_take_number : Array (Option Value)}
    {v_check_depth : Addr} {oc_check_depth kV_check_depth dc_check_depth pm_check_depth cd_check_depth ct_check_depth : Value} {od_check_depth an_check_depth : Option Addr} {sl_check_depth : Array (Option Value)}
    {v_read_expression : Addr} {oc_read_expression kV_read_expression dc_read_expression pm_read_expression cd_read_expression ct_read_expression : Value} {od_read_expression an_read_expression : Option Addr} {sl_read_expression : Array (Option Value)}
    {v_read_deep : Addr} {oc_read_deep kV_read_deep dc_read_deep pm_read_deep cd_read_deep ct_read_deep : Value} {od_read_deep an_read_deep : Option Addr} {sl_read_deep : Array (Option Value)}
    {v_read_part : Addr} {oc_read_part kV_read_part dc_read_part pm_read_part cd_read_part ct_read_part : Value} {od_read_part an_read_part : Option Addr} {sl_read_part : Array (Option Value)}
    {v_read_named : Addr} {oc_read_named kV_read_named dc_read_named pm_read_named cd_read_named ct_read_named : Value} {od_read_named an_read_named : Option Addr} {sl_read_named : Array (Option Value)}
    {v_read_call : Addr} {oc_read_call kV_read_call dc_read_call pm_read_call cd_read_call ct_read_call : Value} {od_read_call an_read_call : Option Addr} {sl_read_call : Array (Option Value)}
    {v_read_parts : Addr} {oc_read_parts kV_read_parts dc_read_parts pm_read_parts cd_read_parts ct_read_parts : Value} {od_read_parts an_read_parts : Option Addr} {sl_read_parts : Array (Option Value)}
    {v_read_pick : Addr} {oc_read_pick kV_read_pick dc_read_pick pm_read_pick cd_read_pick ct_read_pick : Value} {od_read_pick an_read_pick : Option Addr} {sl_read_pick : Array (Option Value)}
    {v_read_table : Addr} {oc_read_table kV_read_table dc_read_table pm_read_table cd_read_table ct_read_table : Value} {od_read_table an_read_table : Option Addr} {sl_read_table : Array (Option Value)}
    {v_read_numbers : Addr} {oc_read_numbers kV_read_numbers dc_read_numbers pm_read_numbers cd_read_numbers ct_read_numbers : Value} {od_read_numbers an_read_numbers : Option Addr} {sl_read_numbers : Array (Option Value)}
    {v_law_hand : Addr} {oc_law_hand kV_law_hand dc_law_hand pm_law_hand cd_law_hand ct_law_hand : Value} {od_law_hand an_law_hand : Option Addr} {sl_law_hand : Array (Option Value)}
    {v_law_mixed : Addr} {oc_law_mixed kV_law_mixed dc_law_mixed pm_law_mixed cd_law_mixed ct_law_mixed : Value} {od_law_mixed an_law_mixed : Option Addr} {sl_law_mixed : Array (Option Value)}
    {v_law_take : Addr} {oc_law_take kV_law_take dc_law_take pm_law_take cd_law_take ct_law_take : Value} {od_law_take an_law_take : Option Addr} {sl_law_take : Array (Option Value)}
    {v_law_whole : Addr} {oc_law_whole kV_law_whole dc_law_whole pm_law_whole cd_law_whole ct_law_whole : Value} {od_law_whole an_law_whole : Option Addr} {sl_law_whole : Array (Option Value)}
    {v_law_two : Addr} {oc_law_two kV_law_two dc_law_two pm_law_two cd_law_two ct_law_two : Value} {od_law_two an_law_two : Option Addr} {sl_law_two : Array (Option Value)}
    {v_law_kind : Addr} {oc_law_kind kV_law_kind dc_law_kind pm_law_kind cd_law_kind ct_law_kind : Value} {od_law_kind an_law_kind : Option Addr} {sl_law_kind : Array (Option Value)}
    {v_law_operands : Addr} {oc_law_operands kV_law_operands dc_law_operands pm_law_operands cd_law_operands ct_law_operands : Value} {od_law_operands an_law_operands : Option Addr} {sl_law_operands : Array (Option Value)}
    {v_law_name : Addr} {oc_law_name kV_law_name dc_law_name pm_law_name cd_law_name ct_law_name : Value} {od_law_name an_law_name : Option Addr} {sl_law_name : Array (Option Value)}
    {v_law_expression : Addr} {oc_law_expression kV_law_expression dc_law_expression pm_law_expression cd_law_expression ct_law_expression : Value} {od_law_expression an_law_expression : Option Addr} {sl_law_expression : Array (Option Value)}
    {v_law_expression_text : Addr} {oc_law_expression_text kV_law_expression_text dc_law_expression_text pm_law_expression_text cd_law_expression_text ct_law_expression_text : Value} {od_law_expression_text an_law_expression_text : Option Addr} {sl_law_expression_text : Array (Option Value)}
    {v_law_read_told : Addr} {oc_law_read_told kV_law_read_told dc_law_read_told pm_law_read_told cd_law_read_told ct_law_read_told : Value} {od_law_read_told an_law_read_told : Option Addr} {sl_law_read_told : Array (Option Value)}
    {v_law_sign_told : Addr} {oc_law_sign_told kV_law_sign_told dc_law_sign_told pm_law_sign_told cd_law_sign_told ct_law_sign_told : Value} {od_law_sign_told an_law_sign_told : Option Addr} {sl_law_sign_told : Array (Option Value)}
    {v_law_name_told : Addr} {oc_law_name_told kV_law_name_told dc_law_name_told pm_law_name_told cd_law_name_told ct_law_name_told : Value} {od_law_name_told an_law_name_told : Option Addr} {sl_law_name_told : Array (Option Value)}
    {v_law_tokens_right : Addr} {oc_law_tokens_right kV_law_tokens_right dc_law_tokens_right pm_law_tokens_right cd_law_tokens_right ct_law_tokens_right : Value} {od_law_tokens_right an_law_tokens_right : Option Addr} {sl_law_tokens_right : Array (Option Value)}
    {v_law_spoiled : Addr} {oc_law_spoiled kV_law_spoiled dc_law_spoiled pm_law_spoiled cd_law_spoiled ct_law_spoiled : Value} {od_law_spoiled an_law_spoiled : Option Addr} {sl_law_spoiled : Array (Option Value)}
    {v_law : Addr} {oc_law kV_law dc_law pm_law cd_law ct_law : Value} {od_law an_law : Option Addr} {sl_law : Array (Option Value)}
    {v_BadText___init__ : Addr} {oc_BadText___init__ kV_BadText___init__ dc_BadText___init__ pm_BadText___init__ cd_BadText___init__ ct_BadText___init__ : Value} {od_BadText___init__ an_BadText___init__ : Option Addr} {sl_BadText___init__ : Array (Option Value)}
    {v_BadName___init__ : Addr} {oc_BadName___init__ kV_BadName___init__ dc_BadName___init__ pm_BadName___init__ cd_BadName___init__ ct_BadName___init__ : Value} {od_BadName___init__ an_BadName___init__ : Option Addr} {sl_BadName___init__ : Array (Option Value)}
    {w_BadText N_BadText : Addr} {nm_BadText q_BadText : Str} {bs_BadText bm_BadText sub_BadText : List Value} {sn_BadText : List Str} {ab_BadText : Bool} {col_BadText : Option Bool} {dd_BadText : Option Addr} {m0_BadText m1_BadText m2_BadText m3_BadText m5_BadText : Option Value}
    {w_BadName N_BadName : Addr} {nm_BadName q_BadName : Str} {bs_BadName bm_BadName sub_BadName : List Value} {sn_BadName : List Str} {ab_BadName : Bool} {col_BadName : Option Bool} {dd_BadName : Option Addr} {m0_BadName m1_BadName m2_BadName m3_BadName m5_BadName : Option Value}
    {t_MOST_NUMBER : PySem.Tok}
    {p_TABLE_SIZES : Addr}
    {d_TABLE_SIZES : Option Addr} {i_TABLE_SIZES : Array Value} {n_TABLE_SIZES : Nat} {s_TABLE_SIZES : Array (Option Value)}
    {p_SHIFT_SIGNS : Addr}
    {d_SHIFT_SIGNS : Option Addr} {i_SHIFT_SIGNS : Array Value} {n_SHIFT_SIGNS : Nat} {s_SHIFT_SIGNS : Array (Option Value)}
    {t_LETTERS : PySem.Tok}
    {t_FIGURES : PySem.Tok}
    {p_KEYWORDS : Addr}
    {d_KEYWORDS : Option Addr} {i_KEYWORDS : Array Value} {n_KEYWORDS : Nat} {s_KEYWORDS : Array (Option Value)}
    {p_SIGNS : Addr}
    {d_SIGNS : Option Addr} {i_SIGNS : Array Value} {n_SIGNS : Nat} {s_SIGNS : Array (Option Value)}
    {t_MOST_NAME : PySem.Tok}
    {t_MOST_BRACKETS : PySem.Tok}
    {p_STRENGTHS : Addr}
    {des_STRENGTHS : Array DictEntry} {dn_STRENGTHS : Nat}
    {tk_1 tk_2 tk_3 tk_16 tk_17 tk_18 tk_19 tk_20 tk_21 tk_22 : PySem.Tok}
    {t_MOST_DEPTH : PySem.Tok}
    {u_c_UndoError : Addr}
    (hm_BadText : PySem.W.nsIn K mainGlobals "BadText" = some (some (.ref w_BadText)))
    (hm_BadName : PySem.W.nsIn K mainGlobals "BadName" = some (some (.ref w_BadName)))
    (xl_BadText : K.lookup w_BadText = some (excClassObj nm_BadText q_BadText w_BadText N_BadText bs_BadText bm_BadText true sn_BadText sub_BadText ab_BadText col_BadText dd_BadText m0_BadText m1_BadText m2_BadText m3_BadText m5_BadText "ValueError.__new__"))
    (xv_BadText : PySem.HandSPX.refsVE bm_BadText = true)
    (xs_BadText : PySem.W.findIn K (.ref w_BadText) "__setattr__" = some (some (.builtin "object.__setattr__")))
    (xg_BadText : PySem.W.findIn K (.ref w_BadText) "__getattribute__" = some (some (.builtin "BaseException.__getattribute__")))
    (xh_BadText : PySem.W.findIn K (.ref w_BadText) "__getattr__" = some none)
    (xk_BadText : PySem.W.keepIn K (.ref w_BadText) = true)
    (xb_BadText : PySem.W.subIn K (.ref w_BadText) (.type "BaseException") = some true)
    (xy_BadText : PySem.W.typeIn K (.ref w_BadText) = some (.type "type"))
    (xd_BadText : PySem.W.hasDictIn K w_BadText = true)
    (xc_BadText : PySem.W.isClsIn K w_BadText = true)
    (xz_BadText : PySem.W.subIn K (.ref w_BadText) (.ref w_BadText) = some true)
    (xl_BadName : K.lookup w_BadName = some (excClassObj nm_BadName q_BadName w_BadName N_BadName bs_BadName bm_BadName true sn_BadName sub_BadName ab_BadName col_BadName dd_BadName m0_BadName m1_BadName m2_BadName m3_BadName m5_BadName "ValueError.__new__"))
    (xv_BadName : PySem.HandSPX.refsVE bm_BadName = true)
    (xs_BadName : PySem.W.findIn K (.ref w_BadName) "__setattr__" = some (some (.builtin "object.__setattr__")))
    (xg_BadName : PySem.W.findIn K (.ref w_BadName) "__getattribute__" = some (some (.builtin "BaseException.__getattribute__")))
    (xh_BadName : PySem.W.findIn K (.ref w_BadName) "__getattr__" = some none)
    (xk_BadName : PySem.W.keepIn K (.ref w_BadName) = true)
    (xb_BadName : PySem.W.subIn K (.ref w_BadName) (.type "BaseException") = some true)
    (xy_BadName : PySem.W.typeIn K (.ref w_BadName) = some (.type "type"))
    (xd_BadName : PySem.W.hasDictIn K w_BadName = true)
    (xc_BadName : PySem.W.isClsIn K w_BadName = true)
    (xz_BadName : PySem.W.subIn K (.ref w_BadName) (.ref w_BadName) = some true)
    (hxi_BadText : PySem.W.findIn K (.ref w_BadText) "__init__" = some (some (.ref v_BadText___init__)))
    (hxt_BadText : PySem.W.typeIn K (.ref v_BadText___init__) = some (.type "function"))
    (hxn_BadText_spot : PySem.W.findIn K (.ref w_BadText) "spot" = some none)
    (hxn_BadText_what : PySem.W.findIn K (.ref w_BadText) "what" = some none)
    (hxi_BadName : PySem.W.findIn K (.ref w_BadName) "__init__" = some (some (.ref v_BadName___init__)))
    (hxt_BadName : PySem.W.typeIn K (.ref v_BadName___init__) = some (.type "function"))
    (hxn_BadName_spot : PySem.W.findIn K (.ref w_BadName) "spot" = some none)
    (hxn_BadName_what : PySem.W.findIn K (.ref w_BadName) "what" = some none)
    (xn_BadName_BadText : PySem.W.subIn K (.ref w_BadName) (.ref w_BadText) = some false)
    (hm_cut_text : PySem.W.nsIn K mainGlobals "cut_text" = some (some (.ref v_cut_text)))
    (hl_cut_text : K.lookup v_cut_text = some ⟨oc_cut_text, od_cut_text, .func (PySem.W.fnOf "cut_text" "cut_text" (defArgs s_cut_text) (defBody s_cut_text) (defScope s_cut_text) .none kV_cut_text dc_cut_text pm_cut_text an_cut_text cd_cut_text ct_cut_text), sl_cut_text⟩)
    (hc_cut_text : PySem.W.codeIn K cd_cut_text "cut_text" = true)
    (hk_cut_text : PySem.W.keepIn K (.ref v_cut_text) = true)
    (hm_cut_token : PySem.W.nsIn K mainGlobals "cut_token" = some (some (.ref v_cut_token)))
    (hl_cut_token : K.lookup v_cut_token = some ⟨oc_cut_token, od_cut_token, .func (PySem.W.fnOf "cut_token" "cut_token" (defArgs s_cut_token) (defBody s_cut_token) (defScope s_cut_token) .none kV_cut_token dc_cut_token pm_cut_token an_cut_token cd_cut_token ct_cut_token), sl_cut_token⟩)
    (hc_cut_token : PySem.W.codeIn K cd_cut_token "cut_token" = true)
    (hk_cut_token : PySem.W.keepIn K (.ref v_cut_token) = true)
    (hm_row_of : PySem.W.nsIn K mainGlobals "row_of" = some (some (.ref v_row_of)))
    (hl_row_of : K.lookup v_row_of = some ⟨oc_row_of, od_row_of, .func (PySem.W.fnOf "row_of" "row_of" (defArgs s_row_of) (defBody s_row_of) (defScope s_row_of) .none kV_row_of dc_row_of pm_row_of an_row_of cd_row_of ct_row_of), sl_row_of⟩)
    (hc_row_of : PySem.W.codeIn K cd_row_of "row_of" = true)
    (hk_row_of : PySem.W.keepIn K (.ref v_row_of) = true)
    (hm_cut_word : PySem.W.nsIn K mainGlobals "cut_word" = some (some (.ref v_cut_word)))
    (hl_cut_word : K.lookup v_cut_word = some ⟨oc_cut_word, od_cut_word, .func (PySem.W.fnOf "cut_word" "cut_word" (defArgs s_cut_word) (defBody s_cut_word) (defScope s_cut_word) .none kV_cut_word dc_cut_word pm_cut_word an_cut_word cd_cut_word ct_cut_word), sl_cut_word⟩)
    (hc_cut_word : PySem.W.codeIn K cd_cut_word "cut_word" = true)
    (hk_cut_word : PySem.W.keepIn K (.ref v_cut_word) = true)
    (hm_cut_number : PySem.W.nsIn K mainGlobals "cut_number" = some (some (.ref v_cut_number)))
    (hl_cut_number : K.lookup v_cut_number = some ⟨oc_cut_number, od_cut_number, .func (PySem.W.fnOf "cut_number" "cut_number" (defArgs s_cut_number) (defBody s_cut_number) (defScope s_cut_number) .none kV_cut_number dc_cut_number pm_cut_number an_cut_number cd_cut_number ct_cut_number), sl_cut_number⟩)
    (hc_cut_number : PySem.W.codeIn K cd_cut_number "cut_number" = true)
    (hk_cut_number : PySem.W.keepIn K (.ref v_cut_number) = true)
    (hm_brackets_behind : PySem.W.nsIn K mainGlobals "brackets_behind" = some (some (.ref v_brackets_behind)))
    (hl_brackets_behind : K.lookup v_brackets_behind = some ⟨oc_brackets_behind, od_brackets_behind, .func (PySem.W.fnOf "brackets_behind" "brackets_behind" (defArgs s_brackets_behind) (defBody s_brackets_behind) (defScope s_brackets_behind) .none kV_brackets_behind dc_brackets_behind pm_brackets_behind an_brackets_behind cd_brackets_behind ct_brackets_behind), sl_brackets_behind⟩)
    (hc_brackets_behind : PySem.W.codeIn K cd_brackets_behind "brackets_behind" = true)
    (hk_brackets_behind : PySem.W.keepIn K (.ref v_brackets_behind) = true)
    (hm_is_sign : PySem.W.nsIn K mainGlobals "is_sign" = some (some (.ref v_is_sign)))
    (hl_is_sign : K.lookup v_is_sign = some ⟨oc_is_sign, od_is_sign, .func (PySem.W.fnOf "is_sign" "is_sign" (defArgs s_is_sign) (defBody s_is_sign) (defScope s_is_sign) .none kV_is_sign dc_is_sign pm_is_sign an_is_sign cd_is_sign ct_is_sign), sl_is_sign⟩)
    (hc_is_sign : PySem.W.codeIn K cd_is_sign "is_sign" = true)
    (hk_is_sign : PySem.W.keepIn K (.ref v_is_sign) = true)
    (hm_take_sign : PySem.W.nsIn K mainGlobals "take_sign" = some (some (.ref v_take_sign)))
    (hl_take_sign : K.lookup v_take_sign = some ⟨oc_take_sign, od_take_sign, .func (PySem.W.fnOf "take_sign" "take_sign" (defArgs s_take_sign) (defBody s_take_sign) (defScope s_take_sign) .none kV_take_sign dc_take_sign pm_take_sign an_take_sign cd_take_sign ct_take_sign), sl_take_sign⟩)
    (hc_take_sign : PySem.W.codeIn K cd_take_sign "take_sign" = true)
    (hk_take_sign : PySem.W.keepIn K (.ref v_take_sign) = true)
    (hm_take_name : PySem.W.nsIn K mainGlobals "take_name" = some (some (.ref v_take_name)))
    (hl_take_name : K.lookup v_take_name = some ⟨oc_take_name, od_take_name, .func (PySem.W.fnOf "take_name" "take_name" (defArgs s_take_name) (defBody s_take_name) (defScope s_take_name) .none kV_take_name dc_take_name pm_take_name an_take_name cd_take_name ct_take_name), sl_take_name⟩)
    (hc_take_name : PySem.W.codeIn K cd_take_name "take_name" = true)
    (hk_take_name : PySem.W.keepIn K (.ref v_take_name) = true)
    (hm_take_number : PySem.W.nsIn K mainGlobals "take_number" = some (some (.ref v_take_number)))
    (hl_take_number : K.lookup v_take_number = some ⟨oc_take_number, od_take_number, .func (PySem.W.fnOf "take_number" "take_number" (defArgs s_take_number) (defBody s_take_number) (defScope s_take_number) .none kV_take_number dc_take_number pm_take_number an_take_number cd_take_number ct_take_number), sl_take_number⟩)
    (hc_take_number : PySem.W.codeIn K cd_take_number "take_number" = true)
    (hk_take_number : PySem.W.keepIn K (.ref v_take_number) = true)
    (hm_check_depth : PySem.W.nsIn K mainGlobals "check_depth" = some (some (.ref v_check_depth)))
    (hl_check_depth : K.lookup v_check_depth = some ⟨oc_check_depth, od_check_depth, .func (PySem.W.fnOf "check_depth" "check_depth" (defArgs s_check_depth) (defBody s_check_depth) (defScope s_check_depth) .none kV_check_depth dc_check_depth pm_check_depth an_check_depth cd_check_depth ct_check_depth), sl_check_depth⟩)
    (hc_check_depth : PySem.W.codeIn K cd_check_depth "check_depth" = true)
    (hk_check_depth : PySem.W.keepIn K (.ref v_check_depth) = true)
    (hm_read_expression : PySem.W.nsIn K mainGlobals "read_expression" = some (some (.ref v_read_expression)))
    (hl_read_expression : K.lookup v_read_expression = some ⟨oc_read_expression, od_read_expression, .func (PySem.W.fnOf "read_expression" "read_expression" (defArgs s_read_expression) (defBody s_read_expression) (defScope s_read_expression) .none kV_read_expression dc_read_expression pm_read_expression an_read_expression cd_read_expression ct_read_expression), sl_read_expression⟩)
    (hc_read_expression : PySem.W.codeIn K cd_read_expression "read_expression" = true)
    (hk_read_expression : PySem.W.keepIn K (.ref v_read_expression) = true)
    (hm_read_deep : PySem.W.nsIn K mainGlobals "read_deep" = some (some (.ref v_read_deep)))
    (hl_read_deep : K.lookup v_read_deep = some ⟨oc_read_deep, od_read_deep, .func (PySem.W.fnOf "read_deep" "read_deep" (defArgs s_read_deep) (defBody s_read_deep) (defScope s_read_deep) .none kV_read_deep dc_read_deep pm_read_deep an_read_deep cd_read_deep ct_read_deep), sl_read_deep⟩)
    (hc_read_deep : PySem.W.codeIn K cd_read_deep "read_deep" = true)
    (hk_read_deep : PySem.W.keepIn K (.ref v_read_deep) = true)
    (hm_read_part : PySem.W.nsIn K mainGlobals "read_part" = some (some (.ref v_read_part)))
    (hl_read_part : K.lookup v_read_part = some ⟨oc_read_part, od_read_part, .func (PySem.W.fnOf "read_part" "read_part" (defArgs s_read_part) (defBody s_read_part) (defScope s_read_part) .none kV_read_part dc_read_part pm_read_part an_read_part cd_read_part ct_read_part), sl_read_part⟩)
    (hc_read_part : PySem.W.codeIn K cd_read_part "read_part" = true)
    (hk_read_part : PySem.W.keepIn K (.ref v_read_part) = true)
    (hm_read_named : PySem.W.nsIn K mainGlobals "read_named" = some (some (.ref v_read_named)))
    (hl_read_named : K.lookup v_read_named = some ⟨oc_read_named, od_read_named, .func (PySem.W.fnOf "read_named" "read_named" (defArgs s_read_named) (defBody s_read_named) (defScope s_read_named) .none kV_read_named dc_read_named pm_read_named an_read_named cd_read_named ct_read_named), sl_read_named⟩)
    (hc_read_named : PySem.W.codeIn K cd_read_named "read_named" = true)
    (hk_read_named : PySem.W.keepIn K (.ref v_read_named) = true)
    (hm_read_call : PySem.W.nsIn K mainGlobals "read_call" = some (some (.ref v_read_call)))
    (hl_read_call : K.lookup v_read_call = some ⟨oc_read_call, od_read_call, .func (PySem.W.fnOf "read_call" "read_call" (defArgs s_read_call) (defBody s_read_call) (defScope s_read_call) .none kV_read_call dc_read_call pm_read_call an_read_call cd_read_call ct_read_call), sl_read_call⟩)
    (hc_read_call : PySem.W.codeIn K cd_read_call "read_call" = true)
    (hk_read_call : PySem.W.keepIn K (.ref v_read_call) = true)
    (hm_read_parts : PySem.W.nsIn K mainGlobals "read_parts" = some (some (.ref v_read_parts)))
    (hl_read_parts : K.lookup v_read_parts = some ⟨oc_read_parts, od_read_parts, .func (PySem.W.fnOf "read_parts" "read_parts" (defArgs s_read_parts) (defBody s_read_parts) (defScope s_read_parts) .none kV_read_parts dc_read_parts pm_read_parts an_read_parts cd_read_parts ct_read_parts), sl_read_parts⟩)
    (hc_read_parts : PySem.W.codeIn K cd_read_parts "read_parts" = true)
    (hk_read_parts : PySem.W.keepIn K (.ref v_read_parts) = true)
    (hm_read_pick : PySem.W.nsIn K mainGlobals "read_pick" = some (some (.ref v_read_pick)))
    (hl_read_pick : K.lookup v_read_pick = some ⟨oc_read_pick, od_read_pick, .func (PySem.W.fnOf "read_pick" "read_pick" (defArgs s_read_pick) (defBody s_read_pick) (defScope s_read_pick) .none kV_read_pick dc_read_pick pm_read_pick an_read_pick cd_read_pick ct_read_pick), sl_read_pick⟩)
    (hc_read_pick : PySem.W.codeIn K cd_read_pick "read_pick" = true)
    (hk_read_pick : PySem.W.keepIn K (.ref v_read_pick) = true)
    (hm_read_table : PySem.W.nsIn K mainGlobals "read_table" = some (some (.ref v_read_table)))
    (hl_read_table : K.lookup v_read_table = some ⟨oc_read_table, od_read_table, .func (PySem.W.fnOf "read_table" "read_table" (defArgs s_read_table) (defBody s_read_table) (defScope s_read_table) .none kV_read_table dc_read_table pm_read_table an_read_table cd_read_table ct_read_table), sl_read_table⟩)
    (hc_read_table : PySem.W.codeIn K cd_read_table "read_table" = true)
    (hk_read_table : PySem.W.keepIn K (.ref v_read_table) = true)
    (hm_read_numbers : PySem.W.nsIn K mainGlobals "read_numbers" = some (some (.ref v_read_numbers)))
    (hl_read_numbers : K.lookup v_read_numbers = some ⟨oc_read_numbers, od_read_numbers, .func (PySem.W.fnOf "read_numbers" "read_numbers" (defArgs s_read_numbers) (defBody s_read_numbers) (defScope s_read_numbers) .none kV_read_numbers dc_read_numbers pm_read_numbers an_read_numbers cd_read_numbers ct_read_numbers), sl_read_numbers⟩)
    (hc_read_numbers : PySem.W.codeIn K cd_read_numbers "read_numbers" = true)
    (hk_read_numbers : PySem.W.keepIn K (.ref v_read_numbers) = true)
    (hm_law_hand : PySem.W.nsIn K mainGlobals "_law_hand" = some (some (.ref v_law_hand)))
    (hl_law_hand : K.lookup v_law_hand = some ⟨oc_law_hand, od_law_hand, .func (PySem.W.fnOf "_law_hand" "_law_hand" (defArgs s_law_hand) (defBody s_law_hand) (defScope s_law_hand) .none kV_law_hand dc_law_hand pm_law_hand an_law_hand cd_law_hand ct_law_hand), sl_law_hand⟩)
    (hc_law_hand : PySem.W.codeIn K cd_law_hand "_law_hand" = true)
    (hk_law_hand : PySem.W.keepIn K (.ref v_law_hand) = true)
    (hm_law_mixed : PySem.W.nsIn K mainGlobals "_law_mixed" = some (some (.ref v_law_mixed)))
    (hl_law_mixed : K.lookup v_law_mixed = some ⟨oc_law_mixed, od_law_mixed, .func (PySem.W.fnOf "_law_mixed" "_law_mixed" (defArgs s_law_mixed) (defBody s_law_mixed) (defScope s_law_mixed) .none kV_law_mixed dc_law_mixed pm_law_mixed an_law_mixed cd_law_mixed ct_law_mixed), sl_law_mixed⟩)
    (hc_law_mixed : PySem.W.codeIn K cd_law_mixed "_law_mixed" = true)
    (hk_law_mixed : PySem.W.keepIn K (.ref v_law_mixed) = true)
    (hm_law_take : PySem.W.nsIn K mainGlobals "_law_take" = some (some (.ref v_law_take)))
    (hl_law_take : K.lookup v_law_take = some ⟨oc_law_take, od_law_take, .func (PySem.W.fnOf "_law_take" "_law_take" (defArgs s_law_take) (defBody s_law_take) (defScope s_law_take) .none kV_law_take dc_law_take pm_law_take an_law_take cd_law_take ct_law_take), sl_law_take⟩)
    (hc_law_take : PySem.W.codeIn K cd_law_take "_law_take" = true)
    (hk_law_take : PySem.W.keepIn K (.ref v_law_take) = true)
    (hm_law_whole : PySem.W.nsIn K mainGlobals "_law_whole" = some (some (.ref v_law_whole)))
    (hl_law_whole : K.lookup v_law_whole = some ⟨oc_law_whole, od_law_whole, .func (PySem.W.fnOf "_law_whole" "_law_whole" (defArgs s_law_whole) (defBody s_law_whole) (defScope s_law_whole) .none kV_law_whole dc_law_whole pm_law_whole an_law_whole cd_law_whole ct_law_whole), sl_law_whole⟩)
    (hc_law_whole : PySem.W.codeIn K cd_law_whole "_law_whole" = true)
    (hk_law_whole : PySem.W.keepIn K (.ref v_law_whole) = true)
    (hm_law_two : PySem.W.nsIn K mainGlobals "_law_two" = some (some (.ref v_law_two)))
    (hl_law_two : K.lookup v_law_two = some ⟨oc_law_two, od_law_two, .func (PySem.W.fnOf "_law_two" "_law_two" (defArgs s_law_two) (defBody s_law_two) (defScope s_law_two) .none kV_law_two dc_law_two pm_law_two an_law_two cd_law_two ct_law_two), sl_law_two⟩)
    (hc_law_two : PySem.W.codeIn K cd_law_two "_law_two" = true)
    (hk_law_two : PySem.W.keepIn K (.ref v_law_two) = true)
    (hm_law_kind : PySem.W.nsIn K mainGlobals "_law_kind" = some (some (.ref v_law_kind)))
    (hl_law_kind : K.lookup v_law_kind = some ⟨oc_law_kind, od_law_kind, .func (PySem.W.fnOf "_law_kind" "_law_kind" (defArgs s_law_kind) (defBody s_law_kind) (defScope s_law_kind) .none kV_law_kind dc_law_kind pm_law_kind an_law_kind cd_law_kind ct_law_kind), sl_law_kind⟩)
    (hc_law_kind : PySem.W.codeIn K cd_law_kind "_law_kind" = true)
    (hk_law_kind : PySem.W.keepIn K (.ref v_law_kind) = true)
    (hm_law_operands : PySem.W.nsIn K mainGlobals "_law_operands" = some (some (.ref v_law_operands)))
    (hl_law_operands : K.lookup v_law_operands = some ⟨oc_law_operands, od_law_operands, .func (PySem.W.fnOf "_law_operands" "_law_operands" (defArgs s_law_operands) (defBody s_law_operands) (defScope s_law_operands) .none kV_law_operands dc_law_operands pm_law_operands an_law_operands cd_law_operands ct_law_operands), sl_law_operands⟩)
    (hc_law_operands : PySem.W.codeIn K cd_law_operands "_law_operands" = true)
    (hk_law_operands : PySem.W.keepIn K (.ref v_law_operands) = true)
    (hm_law_name : PySem.W.nsIn K mainGlobals "_law_name" = some (some (.ref v_law_name)))
    (hl_law_name : K.lookup v_law_name = some ⟨oc_law_name, od_law_name, .func (PySem.W.fnOf "_law_name" "_law_name" (defArgs s_law_name) (defBody s_law_name) (defScope s_law_name) .none kV_law_name dc_law_name pm_law_name an_law_name cd_law_name ct_law_name), sl_law_name⟩)
    (hc_law_name : PySem.W.codeIn K cd_law_name "_law_name" = true)
    (hk_law_name : PySem.W.keepIn K (.ref v_law_name) = true)
    (hm_law_expression : PySem.W.nsIn K mainGlobals "_law_expression" = some (some (.ref v_law_expression)))
    (hl_law_expression : K.lookup v_law_expression = some ⟨oc_law_expression, od_law_expression, .func (PySem.W.fnOf "_law_expression" "_law_expression" (defArgs s_law_expression) (defBody s_law_expression) (defScope s_law_expression) .none kV_law_expression dc_law_expression pm_law_expression an_law_expression cd_law_expression ct_law_expression), sl_law_expression⟩)
    (hc_law_expression : PySem.W.codeIn K cd_law_expression "_law_expression" = true)
    (hk_law_expression : PySem.W.keepIn K (.ref v_law_expression) = true)
    (hm_law_expression_text : PySem.W.nsIn K mainGlobals "_law_expression_text" = some (some (.ref v_law_expression_text)))
    (hl_law_expression_text : K.lookup v_law_expression_text = some ⟨oc_law_expression_text, od_law_expression_text, .func (PySem.W.fnOf "_law_expression_text" "_law_expression_text" (defArgs s_law_expression_text) (defBody s_law_expression_text) (defScope s_law_expression_text) .none kV_law_expression_text dc_law_expression_text pm_law_expression_text an_law_expression_text cd_law_expression_text ct_law_expression_text), sl_law_expression_text⟩)
    (hc_law_expression_text : PySem.W.codeIn K cd_law_expression_text "_law_expression_text" = true)
    (hk_law_expression_text : PySem.W.keepIn K (.ref v_law_expression_text) = true)
    (hm_law_read_told : PySem.W.nsIn K mainGlobals "_law_read_told" = some (some (.ref v_law_read_told)))
    (hl_law_read_told : K.lookup v_law_read_told = some ⟨oc_law_read_told, od_law_read_told, .func (PySem.W.fnOf "_law_read_told" "_law_read_told" (defArgs s_law_read_told) (defBody s_law_read_told) (defScope s_law_read_told) .none kV_law_read_told dc_law_read_told pm_law_read_told an_law_read_told cd_law_read_told ct_law_read_told), sl_law_read_told⟩)
    (hc_law_read_told : PySem.W.codeIn K cd_law_read_told "_law_read_told" = true)
    (hk_law_read_told : PySem.W.keepIn K (.ref v_law_read_told) = true)
    (hm_law_sign_told : PySem.W.nsIn K mainGlobals "_law_sign_told" = some (some (.ref v_law_sign_told)))
    (hl_law_sign_told : K.lookup v_law_sign_told = some ⟨oc_law_sign_told, od_law_sign_told, .func (PySem.W.fnOf "_law_sign_told" "_law_sign_told" (defArgs s_law_sign_told) (defBody s_law_sign_told) (defScope s_law_sign_told) .none kV_law_sign_told dc_law_sign_told pm_law_sign_told an_law_sign_told cd_law_sign_told ct_law_sign_told), sl_law_sign_told⟩)
    (hc_law_sign_told : PySem.W.codeIn K cd_law_sign_told "_law_sign_told" = true)
    (hk_law_sign_told : PySem.W.keepIn K (.ref v_law_sign_told) = true)
    (hm_law_name_told : PySem.W.nsIn K mainGlobals "_law_name_told" = some (some (.ref v_law_name_told)))
    (hl_law_name_told : K.lookup v_law_name_told = some ⟨oc_law_name_told, od_law_name_told, .func (PySem.W.fnOf "_law_name_told" "_law_name_told" (defArgs s_law_name_told) (defBody s_law_name_told) (defScope s_law_name_told) .none kV_law_name_told dc_law_name_told pm_law_name_told an_law_name_told cd_law_name_told ct_law_name_told), sl_law_name_told⟩)
    (hc_law_name_told : PySem.W.codeIn K cd_law_name_told "_law_name_told" = true)
    (hk_law_name_told : PySem.W.keepIn K (.ref v_law_name_told) = true)
    (hm_law_tokens_right : PySem.W.nsIn K mainGlobals "_law_tokens_right" = some (some (.ref v_law_tokens_right)))
    (hl_law_tokens_right : K.lookup v_law_tokens_right = some ⟨oc_law_tokens_right, od_law_tokens_right, .func (PySem.W.fnOf "_law_tokens_right" "_law_tokens_right" (defArgs s_law_tokens_right) (defBody s_law_tokens_right) (defScope s_law_tokens_right) .none kV_law_tokens_right dc_law_tokens_right pm_law_tokens_right an_law_tokens_right cd_law_tokens_right ct_law_tokens_right), sl_law_tokens_right⟩)
    (hc_law_tokens_right : PySem.W.codeIn K cd_law_tokens_right "_law_tokens_right" = true)
    (hk_law_tokens_right : PySem.W.keepIn K (.ref v_law_tokens_right) = true)
    (hm_law_spoiled : PySem.W.nsIn K mainGlobals "_law_spoiled" = some (some (.ref v_law_spoiled)))
    (hl_law_spoiled : K.lookup v_law_spoiled = some ⟨oc_law_spoiled, od_law_spoiled, .func (PySem.W.fnOf "_law_spoiled" "_law_spoiled" (defArgs s_law_spoiled) (defBody s_law_spoiled) (defScope s_law_spoiled) .none kV_law_spoiled dc_law_spoiled pm_law_spoiled an_law_spoiled cd_law_spoiled ct_law_spoiled), sl_law_spoiled⟩)
    (hc_law_spoiled : PySem.W.codeIn K cd_law_spoiled "_law_spoiled" = true)
    (hk_law_spoiled : PySem.W.keepIn K (.ref v_law_spoiled) = true)
    (hm_law : PySem.W.nsIn K mainGlobals "law" = some (some (.ref v_law)))
    (hl_law : K.lookup v_law = some ⟨oc_law, od_law, .func (PySem.W.fnOf "law" "law" (defArgs s_law) (defBody s_law) (defScope s_law) .none kV_law dc_law pm_law an_law cd_law ct_law), sl_law⟩)
    (hc_law : PySem.W.codeIn K cd_law "law" = true)
    (hk_law : PySem.W.keepIn K (.ref v_law) = true)
    (hl_BadText___init__ : K.lookup v_BadText___init__ = some ⟨oc_BadText___init__, od_BadText___init__, .func (PySem.W.fnOf "__init__" "BadText.__init__" (defArgs s_BadText___init__) (defBody s_BadText___init__) (defScope s_BadText___init__) .none kV_BadText___init__ dc_BadText___init__ pm_BadText___init__ an_BadText___init__ cd_BadText___init__ ct_BadText___init__), sl_BadText___init__⟩)
    (hc_BadText___init__ : PySem.W.codeIn K cd_BadText___init__ "BadText.__init__" = true)
    (hk_BadText___init__ : PySem.W.keepIn K (.ref v_BadText___init__) = true)
    (hl_BadName___init__ : K.lookup v_BadName___init__ = some ⟨oc_BadName___init__, od_BadName___init__, .func (PySem.W.fnOf "__init__" "BadName.__init__" (defArgs s_BadName___init__) (defBody s_BadName___init__) (defScope s_BadName___init__) .none kV_BadName___init__ dc_BadName___init__ pm_BadName___init__ an_BadName___init__ cd_BadName___init__ ct_BadName___init__), sl_BadName___init__⟩)
    (hc_BadName___init__ : PySem.W.codeIn K cd_BadName___init__ "BadName.__init__" = true)
    (hk_BadName___init__ : PySem.W.keepIn K (.ref v_BadName___init__) = true)
    (hm_MOST_NUMBER : PySem.W.nsIn K mainGlobals "MOST_NUMBER" = some (some (.int 4095 t_MOST_NUMBER)))
    (hm_TABLE_SIZES : PySem.W.nsIn K mainGlobals "TABLE_SIZES" = some (some (.ref p_TABLE_SIZES)))
    (tl_TABLE_SIZES : K.lookup p_TABLE_SIZES = some ⟨.type "tuple", d_TABLE_SIZES, .seq i_TABLE_SIZES n_TABLE_SIZES, s_TABLE_SIZES⟩)
    (ti_TABLE_SIZES : valsB [.int 1, .int 2, .int 4, .int 8, .int 16] i_TABLE_SIZES.toList = true)
    (tz_TABLE_SIZES : decide (i_TABLE_SIZES.size ≤ 1000) = true)
    (hm_SHIFT_SIGNS : PySem.W.nsIn K mainGlobals "SHIFT_SIGNS" = some (some (.ref p_SHIFT_SIGNS)))
    (tl_SHIFT_SIGNS : K.lookup p_SHIFT_SIGNS = some ⟨.type "tuple", d_SHIFT_SIGNS, .seq i_SHIFT_SIGNS n_SHIFT_SIGNS, s_SHIFT_SIGNS⟩)
    (ti_SHIFT_SIGNS : valsB [.str "<<", .str ">>"] i_SHIFT_SIGNS.toList = true)
    (tz_SHIFT_SIGNS : decide (i_SHIFT_SIGNS.size ≤ 1000) = true)
    (hm_LETTERS : PySem.W.nsIn K mainGlobals "LETTERS" = some (some (.str "abcdefghijklmnopqrstuvwxyz" t_LETTERS)))
    (hm_FIGURES : PySem.W.nsIn K mainGlobals "FIGURES" = some (some (.str "0123456789" t_FIGURES)))
    (hm_KEYWORDS : PySem.W.nsIn K mainGlobals "KEYWORDS" = some (some (.ref p_KEYWORDS)))
    (tl_KEYWORDS : K.lookup p_KEYWORDS = some ⟨.type "tuple", d_KEYWORDS, .seq i_KEYWORDS n_KEYWORDS, s_KEYWORDS⟩)
    (ti_KEYWORDS : valsB [.str "fun", .str "let", .str "repeat", .str "if", .str "else", .str "give", .str "pick", .str "table", .str "routine", .str "from", .str "loop", .str "until", .str "fi", .str "local", .str "end", .str "call", .str "back"] i_KEYWORDS.toList = true)
    (tz_KEYWORDS : decide (i_KEYWORDS.size ≤ 1000) = true)
    (hm_SIGNS : PySem.W.nsIn K mainGlobals "SIGNS" = some (some (.ref p_SIGNS)))
    (tl_SIGNS : K.lookup p_SIGNS = some ⟨.type "tuple", d_SIGNS, .seq i_SIGNS n_SIGNS, s_SIGNS⟩)
    (ti_SIGNS : valsB [.str "<=>", .str "==", .str "<<", .str ">>", .str "+=", .str "-=", .str "^=", .str "{", .str "}", .str "(", .str ")", .str "[", .str "]", .str ",", .str ";", .str "=", .str "+", .str "-", .str "*", .str "&", .str "|", .str "^", .str "<"] i_SIGNS.toList = true)
    (tz_SIGNS : decide (i_SIGNS.size ≤ 1000) = true)
    (hm_MOST_NAME : PySem.W.nsIn K mainGlobals "MOST_NAME" = some (some (.int 8 t_MOST_NAME)))
    (hm_MOST_BRACKETS : PySem.W.nsIn K mainGlobals "MOST_BRACKETS" = some (some (.int 20 t_MOST_BRACKETS)))
    (hm_STRENGTHS : PySem.W.nsIn K mainGlobals "STRENGTHS" = some (some (.ref p_STRENGTHS)))
    (dl_STRENGTHS : K.lookup p_STRENGTHS = some ⟨.type "dict", none, .dict des_STRENGTHS dn_STRENGTHS, #[]⟩)
    (dh_0 : PySem.W.nsIn K p_STRENGTHS "<=>" = some none)
    (dh_1 : PySem.W.nsIn K p_STRENGTHS "==" = some (some (.int 1 tk_1)))
    (dh_2 : PySem.W.nsIn K p_STRENGTHS "<<" = some (some (.int 7 tk_2)))
    (dh_3 : PySem.W.nsIn K p_STRENGTHS ">>" = some (some (.int 7 tk_3)))
    (dh_4 : PySem.W.nsIn K p_STRENGTHS "+=" = some none)
    (dh_5 : PySem.W.nsIn K p_STRENGTHS "-=" = some none)
    (dh_6 : PySem.W.nsIn K p_STRENGTHS "^=" = some none)
    (dh_7 : PySem.W.nsIn K p_STRENGTHS "{" = some none)
    (dh_8 : PySem.W.nsIn K p_STRENGTHS "}" = some none)
    (dh_9 : PySem.W.nsIn K p_STRENGTHS "(" = some none)
    (dh_10 : PySem.W.nsIn K p_STRENGTHS ")" = some none)
    (dh_11 : PySem.W.nsIn K p_STRENGTHS "[" = some none)
    (dh_12 : PySem.W.nsIn K p_STRENGTHS "]" = some none)
    (dh_13 : PySem.W.nsIn K p_STRENGTHS "," = some none)
    (dh_14 : PySem.W.nsIn K p_STRENGTHS ";" = some none)
    (dh_15 : PySem.W.nsIn K p_STRENGTHS "=" = some none)
    (dh_16 : PySem.W.nsIn K p_STRENGTHS "+" = some (some (.int 5 tk_16)))
    (dh_17 : PySem.W.nsIn K p_STRENGTHS "-" = some (some (.int 5 tk_17)))
    (dh_18 : PySem.W.nsIn K p_STRENGTHS "*" = some (some (.int 6 tk_18)))
    (dh_19 : PySem.W.nsIn K p_STRENGTHS "&" = some (some (.int 4 tk_19)))
    (dh_20 : PySem.W.nsIn K p_STRENGTHS "|" = some (some (.int 2 tk_20)))
    (dh_21 : PySem.W.nsIn K p_STRENGTHS "^" = some (some (.int 3 tk_21)))
    (dh_22 : PySem.W.nsIn K p_STRENGTHS "<" = some (some (.int 1 tk_22)))
    (hm_MOST_DEPTH : PySem.W.nsIn K mainGlobals "MOST_DEPTH" = some (some (.int 60 t_MOST_DEPTH)))
    (hz_ValueError : PySem.W.nsIn K mainGlobals "ValueError" = some none)
    (hz_abs : PySem.W.nsIn K mainGlobals "abs" = some none)
    (hz_bool : PySem.W.nsIn K mainGlobals "bool" = some none)
    (hz_int : PySem.W.nsIn K mainGlobals "int" = some none)
    (hz_isinstance : PySem.W.nsIn K mainGlobals "isinstance" = some none)
    (hz_len : PySem.W.nsIn K mainGlobals "len" = some none)
    (hz_max : PySem.W.nsIn K mainGlobals "max" = some none)
    (hz_range : PySem.W.nsIn K mainGlobals "range" = some none)
    (hz_str : PySem.W.nsIn K mainGlobals "str" = some none)
    (hz_tuple : PySem.W.nsIn K mainGlobals "tuple" = some none)
    (hm_UndoError : PySem.W.nsIn K mainGlobals "UndoError" = some (some (.ref u_c_UndoError)))
    (dk_STRENGTHS : PySem.W.KeysLit w.params des_STRENGTHS.toList)
    (do_STRENGTHS : (p_STRENGTHS == sysModules) = false) :
    ∃ fd : FuncData, (∀ (s : Shared) (u : Value), BindsTo s fd ⟨[u], []⟩ [("_law_script", u)]) ∧ ∀ base : Heap, K.In base → base.Ns mainGlobals mg → FnOk P w K mg base (L2.CX P w) 70 fa fd ["_law_script"] (spLaw K) := by
  have e := hfa.symm.trans (PySem.W.mg_of X G hm_law)
  cases e
  have F_cut_text := fun_mk (st := s_cut_text) hl_cut_text hc_cut_text hk_cut_text
  have b_cut_text := F_cut_text.binds (ps := ["text", "most"]) fun _ _ _ _ _ _ us hl => match us, hl with | [_, _], _ => rfl
  have F_cut_token := fun_mk (st := s_cut_token) hl_cut_token hc_cut_token hk_cut_token
  have b_cut_token := F_cut_token.binds (ps := ["text", "spot"]) fun _ _ _ _ _ _ us hl => match us, hl with | [_, _], _ => rfl
  have F_row_of := fun_mk (st := s_row_of) hl_row_of hc_row_of hk_row_of
  have b_row_of := F_row_of.binds (ps := ["text", "spot", "letters"]) fun _ _ _ _ _ _ us hl => match us, hl with | [_, _, _], _ => rfl
  have F_cut_word := fun_mk (st := s_cut_word) hl_cut_word hc_cut_word hk_cut_word
  have b_cut_word := F_cut_word.binds (ps := ["text", "spot"]) fun _ _ _ _ _ _ us hl => match us, hl with | [_, _], _ => rfl
  have F_cut_number := fun_mk (st := s_cut_number) hl_cut_number hc_cut_number hk_cut_number
  have b_cut_number := F_cut_number.binds (ps := ["text", "spot"]) fun _ _ _ _ _ _ us hl => match us, hl with | [_, _], _ => rfl
  have F_brackets_behind := fun_mk (st := s_brackets_behind) hl_brackets_behind hc_brackets_behind hk_brackets_behind
  have b_brackets_behind := F_brackets_behind.binds (ps := ["token", "brackets"]) fun _ _ _ _ _ _ us hl => match us, hl with | [_, _], _ => rfl
  have F_is_sign := fun_mk (st := s_is_sign) hl_is_sign hc_is_sign hk_is_sign
  have b_is_sign := F_is_sign.binds (ps := ["token", "value"]) fun _ _ _ _ _ _ us hl => match us, hl with | [_, _], _ => rfl
  have F_take_sign := fun_mk (st := s_take_sign) hl_take_sign hc_take_sign hk_take_sign
  have b_take_sign := F_take_sign.binds (ps := ["tokens", "at", "value"]) fun _ _ _ _ _ _ us hl => match us, hl with | [_, _, _], _ => rfl
  have F_take_name := fun_mk (st := s_take_name) hl_take_name hc_take_name hk_take_name
  have b_take_name := F_take_name.binds (ps := ["tokens", "at"]) fun _ _ _ _ _ _ us hl => match us, hl with | [_, _], _ => rfl
  have F_take_number := fun_mk (st := s_take_number) hl_take_number hc_take_number hk_take_number
  have b_take_number := F_take_number.binds (ps := ["tokens", "at"]) fun _ _ _ _ _ _ us hl => match us, hl with | [_, _], _ => rfl
  have F_check_depth := fun_mk (st := s_check_depth) hl_check_depth hc_check_depth hk_check_depth
  have b_check_depth := F_check_depth.binds (ps := ["depth", "spot"]) fun _ _ _ _ _ _ us hl => match us, hl with | [_, _], _ => rfl
  have F_read_expression := fun_mk (st := s_read_expression) hl_read_expression hc_read_expression hk_read_expression
  have b_read_expression := F_read_expression.binds (ps := ["tokens", "at", "names", "funs"]) fun _ _ _ _ _ _ us hl => match us, hl with | [_, _, _, _], _ => rfl
  have F_read_deep := fun_mk (st := s_read_deep) hl_read_deep hc_read_deep hk_read_deep
  have b_read_deep := F_read_deep.binds (ps := ["tokens", "at", "names", "funs", "least"]) fun _ _ _ _ _ _ us hl => match us, hl with | [_, _, _, _, _], _ => rfl
  have F_read_part := fun_mk (st := s_read_part) hl_read_part hc_read_part hk_read_part
  have b_read_part := F_read_part.binds (ps := ["tokens", "at", "names", "funs"]) fun _ _ _ _ _ _ us hl => match us, hl with | [_, _, _, _], _ => rfl
  have F_read_named := fun_mk (st := s_read_named) hl_read_named hc_read_named hk_read_named
  have b_read_named := F_read_named.binds (ps := ["tokens", "at", "names", "funs"]) fun _ _ _ _ _ _ us hl => match us, hl with | [_, _, _, _], _ => rfl
  have F_read_call := fun_mk (st := s_read_call) hl_read_call hc_read_call hk_read_call
  have b_read_call := F_read_call.binds (ps := ["tokens", "at", "names", "funs"]) fun _ _ _ _ _ _ us hl => match us, hl with | [_, _, _, _], _ => rfl
  have F_read_parts := fun_mk (st := s_read_parts) hl_read_parts hc_read_parts hk_read_parts
  have b_read_parts := F_read_parts.binds (ps := ["tokens", "at", "names", "funs"]) fun _ _ _ _ _ _ us hl => match us, hl with | [_, _, _, _], _ => rfl
  have F_read_pick := fun_mk (st := s_read_pick) hl_read_pick hc_read_pick hk_read_pick
  have b_read_pick := F_read_pick.binds (ps := ["tokens", "at", "names", "funs"]) fun _ _ _ _ _ _ us hl => match us, hl with | [_, _, _, _], _ => rfl
  have F_read_table := fun_mk (st := s_read_table) hl_read_table hc_read_table hk_read_table
  have b_read_table := F_read_table.binds (ps := ["tokens", "at", "names", "funs"]) fun _ _ _ _ _ _ us hl => match us, hl with | [_, _, _, _], _ => rfl
  have F_read_numbers := fun_mk (st := s_read_numbers) hl_read_numbers hc_read_numbers hk_read_numbers
  have b_read_numbers := F_read_numbers.binds (ps := ["tokens", "at"]) fun _ _ _ _ _ _ us hl => match us, hl with | [_, _], _ => rfl
  have F_law_hand := fun_mk (st := s_law_hand) hl_law_hand hc_law_hand hk_law_hand
  have b_law_hand := F_law_hand.binds (ps := ["_law_script"]) fun _ _ _ _ _ _ us hl => match us, hl with | [_], _ => rfl
  have F_law_mixed := fun_mk (st := s_law_mixed) hl_law_mixed hc_law_mixed hk_law_mixed
  have b_law_mixed := F_law_mixed.binds (ps := ["_law_number", "_law_turn"]) fun _ _ _ _ _ _ us hl => match us, hl with | [_, _], _ => rfl
  have F_law_take := fun_mk (st := s_law_take) hl_law_take hc_law_take hk_law_take
  have b_law_take := F_law_take.binds (ps := ["_law_hand_here", "_law_many"]) fun _ _ _ _ _ _ us hl => match us, hl with | [_, _], _ => rfl
  have F_law_whole := fun_mk (st := s_law_whole) hl_law_whole hc_law_whole hk_law_whole
  have b_law_whole := F_law_whole.binds (ps := ["_law_thing"]) fun _ _ _ _ _ _ us hl => match us, hl with | [_], _ => rfl
  have F_law_two := fun_mk (st := s_law_two) hl_law_two hc_law_two hk_law_two
  have b_law_two := F_law_two.binds (ps := ["_law_n"]) fun _ _ _ _ _ _ us hl => match us, hl with | [_], _ => rfl
  have F_law_kind := fun_mk (st := s_law_kind) hl_law_kind hc_law_kind hk_law_kind
  have b_law_kind := F_law_kind.binds (ps := ["_law_hand_here"]) fun _ _ _ _ _ _ us hl => match us, hl with | [_], _ => rfl
  have F_law_operands := fun_mk (st := s_law_operands) hl_law_operands hc_law_operands hk_law_operands
  have b_law_operands := F_law_operands.binds (ps := ["_law_kind_here"]) fun _ _ _ _ _ _ us hl => match us, hl with | [_], _ => rfl
  have F_law_name := fun_mk (st := s_law_name) hl_law_name hc_law_name hk_law_name
  have b_law_name := F_law_name.binds (ps := ["_law_hand_here", "_law_count"]) fun _ _ _ _ _ _ us hl => match us, hl with | [_, _], _ => rfl
  have F_law_expression := fun_mk (st := s_law_expression) hl_law_expression hc_law_expression hk_law_expression
  have b_law_expression := F_law_expression.binds (ps := ["_law_hand_here", "_law_names", "_law_funs", "_law_depth"]) fun _ _ _ _ _ _ us hl => match us, hl with | [_, _, _, _], _ => rfl
  have F_law_expression_text := fun_mk (st := s_law_expression_text) hl_law_expression_text hc_law_expression_text hk_law_expression_text
  have b_law_expression_text := F_law_expression_text.binds (ps := ["_law_part"]) fun _ _ _ _ _ _ us hl => match us, hl with | [_], _ => rfl
  have F_law_read_told := fun_mk (st := s_law_read_told) hl_law_read_told hc_law_read_told hk_law_read_told
  have b_law_read_told := F_law_read_told.binds (ps := ["_law_tokens", "_law_at", "_law_names", "_law_funs"]) fun _ _ _ _ _ _ us hl => match us, hl with | [_, _, _, _], _ => rfl
  have F_law_sign_told := fun_mk (st := s_law_sign_told) hl_law_sign_told hc_law_sign_told hk_law_sign_told
  have b_law_sign_told := F_law_sign_told.binds (ps := ["_law_tokens", "_law_at", "_law_value"]) fun _ _ _ _ _ _ us hl => match us, hl with | [_, _, _], _ => rfl
  have F_law_name_told := fun_mk (st := s_law_name_told) hl_law_name_told hc_law_name_told hk_law_name_told
  have b_law_name_told := F_law_name_told.binds (ps := ["_law_tokens", "_law_at"]) fun _ _ _ _ _ _ us hl => match us, hl with | [_, _], _ => rfl
  have F_law_tokens_right := fun_mk (st := s_law_tokens_right) hl_law_tokens_right hc_law_tokens_right hk_law_tokens_right
  have b_law_tokens_right := F_law_tokens_right.binds (ps := ["_law_tokens", "_law_at"]) fun _ _ _ _ _ _ us hl => match us, hl with | [_, _], _ => rfl
  have F_law_spoiled := fun_mk (st := s_law_spoiled) hl_law_spoiled hc_law_spoiled hk_law_spoiled
  have b_law_spoiled := F_law_spoiled.binds (ps := ["_law_hand_here", "_law_names", "_law_funs"]) fun _ _ _ _ _ _ us hl => match us, hl with | [_, _, _], _ => rfl
  have F_law := fun_mk (st := s_law) hl_law hc_law hk_law
  have b_law := F_law.binds (ps := ["_law_script"]) fun _ _ _ _ _ _ us hl => match us, hl with | [_], _ => rfl
  have F_BadText___init__ := fun_mk (st := s_BadText___init__) hl_BadText___init__ hc_BadText___init__ hk_BadText___init__
  have b_BadText___init__ := F_BadText___init__.binds (ps := ["self", "spot", "what"]) fun _ _ _ _ _ _ us hl => match us, hl with | [_, _, _], _ => rfl
  have F_BadName___init__ := fun_mk (st := s_BadName___init__) hl_BadName___init__ hc_BadName___init__ hk_BadName___init__
  have b_BadName___init__ := F_BadName___init__.binds (ps := ["self", "spot", "what"]) fun _ _ _ _ _ _ us hl => match us, hl with | [_, _, _], _ => rfl
  have T : Txt K mg ⟨v_cut_text, (PySem.W.fnOf "cut_text" "cut_text" (defArgs s_cut_text) (defBody s_cut_text) (defScope s_cut_text) .none kV_cut_text dc_cut_text pm_cut_text an_cut_text cd_cut_text ct_cut_text), v_cut_token, (PySem.W.fnOf "cut_token" "cut_token" (defArgs s_cut_token) (defBody s_cut_token) (defScope s_cut_token) .none kV_cut_token dc_cut_token pm_cut_token an_cut_token cd_cut_token ct_cut_token), v_row_of, (PySem.W.fnOf "row_of" "row_of" (defArgs s_row_of) (defBody s_row_of) (defScope s_row_of) .none kV_row_of dc_row_of pm_row_of an_row_of cd_row_of ct_row_of), v_cut_word, (PySem.W.fnOf "cut_word" "cut_word" (defArgs s_cut_word) (defBody s_cut_word) (defScope s_cut_word) .none kV_cut_word dc_cut_word pm_cut_word an_cut_word cd_cut_word ct_cut_word), v_cut_number, (PySem.W.fnOf "cut_number" "cut_number" (defArgs s_cut_number) (defBody s_cut_number) (defScope s_cut_number) .none kV_cut_number dc_cut_number pm_cut_number an_cut_number cd_cut_number ct_cut_number), v_brackets_behind, (PySem.W.fnOf "brackets_behind" "brackets_behind" (defArgs s_brackets_behind) (defBody s_brackets_behind) (defScope s_brackets_behind) .none kV_brackets_behind dc_brackets_behind pm_brackets_behind an_brackets_behind cd_brackets_behind ct_brackets_behind), v_is_sign, (PySem.W.fnOf "is_sign" "is_sign" (defArgs s_is_sign) (defBody s_is_sign) (defScope s_is_sign) .none kV_is_sign dc_is_sign pm_is_sign an_is_sign cd_is_sign ct_is_sign), v_take_sign, (PySem.W.fnOf "take_sign" "take_sign" (defArgs s_take_sign) (defBody s_take_sign) (defScope s_take_sign) .none kV_take_sign dc_take_sign pm_take_sign an_take_sign cd_take_sign ct_take_sign), v_take_name, (PySem.W.fnOf "take_name" "take_name" (defArgs s_take_name) (defBody s_take_name) (defScope s_take_name) .none kV_take_name dc_take_name pm_take_name an_take_name cd_take_name ct_take_name), v_take_number, (PySem.W.fnOf "take_number" "take_number" (defArgs s_take_number) (defBody s_take_number) (defScope s_take_number) .none kV_take_number dc_take_number pm_take_number an_take_number cd_take_number ct_take_number), v_check_depth, (PySem.W.fnOf "check_depth" "check_depth" (defArgs s_check_depth) (defBody s_check_depth) (defScope s_check_depth) .none kV_check_depth dc_check_depth pm_check_depth an_check_depth cd_check_depth ct_check_depth), v_read_expression, (PySem.W.fnOf "read_expression" "read_expression" (defArgs s_read_expression) (defBody s_read_expression) (defScope s_read_expression) .none kV_read_expression dc_read_expression pm_read_expression an_read_expression cd_read_expression ct_read_expression), v_read_deep, (PySem.W.fnOf "read_deep" "read_deep" (defArgs s_read_deep) (defBody s_read_deep) (defScope s_read_deep) .none kV_read_deep dc_read_deep pm_read_deep an_read_deep cd_read_deep ct_read_deep), v_read_part, (PySem.W.fnOf "read_part" "read_part" (defArgs s_read_part) (defBody s_read_part) (defScope s_read_part) .none kV_read_part dc_read_part pm_read_part an_read_part cd_read_part ct_read_part), v_read_named, (PySem.W.fnOf "read_named" "read_named" (defArgs s_read_named) (defBody s_read_named) (defScope s_read_named) .none kV_read_named dc_read_named pm_read_named an_read_named cd_read_named ct_read_named), v_read_call, (PySem.W.fnOf "read_call" "read_call" (defArgs s_read_call) (defBody s_read_call) (defScope s_read_call) .none kV_read_call dc_read_call pm_read_call an_read_call cd_read_call ct_read_call), v_read_parts, (PySem.W.fnOf "read_parts" "read_parts" (defArgs s_read_parts) (defBody s_read_parts) (defScope s_read_parts) .none kV_read_parts dc_read_parts pm_read_parts an_read_parts cd_read_parts ct_read_parts), v_read_pick, (PySem.W.fnOf "read_pick" "read_pick" (defArgs s_read_pick) (defBody s_read_pick) (defScope s_read_pick) .none kV_read_pick dc_read_pick pm_read_pick an_read_pick cd_read_pick ct_read_pick), v_read_table, (PySem.W.fnOf "read_table" "read_table" (defArgs s_read_table) (defBody s_read_table) (defScope s_read_table) .none kV_read_table dc_read_table pm_read_table an_read_table cd_read_table ct_read_table), v_read_numbers, (PySem.W.fnOf "read_numbers" "read_numbers" (defArgs s_read_numbers) (defBody s_read_numbers) (defScope s_read_numbers) .none kV_read_numbers dc_read_numbers pm_read_numbers an_read_numbers cd_read_numbers ct_read_numbers), v_law_hand, (PySem.W.fnOf "_law_hand" "_law_hand" (defArgs s_law_hand) (defBody s_law_hand) (defScope s_law_hand) .none kV_law_hand dc_law_hand pm_law_hand an_law_hand cd_law_hand ct_law_hand), v_law_mixed, (PySem.W.fnOf "_law_mixed" "_law_mixed" (defArgs s_law_mixed) (defBody s_law_mixed) (defScope s_law_mixed) .none kV_law_mixed dc_law_mixed pm_law_mixed an_law_mixed cd_law_mixed ct_law_mixed), v_law_take, (PySem.W.fnOf "_law_take" "_law_take" (defArgs s_law_take) (defBody s_law_take) (defScope s_law_take) .none kV_law_take dc_law_take pm_law_take an_law_take cd_law_take ct_law_take), v_law_whole, (PySem.W.fnOf "_law_whole" "_law_whole" (defArgs s_law_whole) (defBody s_law_whole) (defScope s_law_whole) .none kV_law_whole dc_law_whole pm_law_whole an_law_whole cd_law_whole ct_law_whole), v_law_two, (PySem.W.fnOf "_law_two" "_law_two" (defArgs s_law_two) (defBody s_law_two) (defScope s_law_two) .none kV_law_two dc_law_two pm_law_two an_law_two cd_law_two ct_law_two), v_law_kind, (PySem.W.fnOf "_law_kind" "_law_kind" (defArgs s_law_kind) (defBody s_law_kind) (defScope s_law_kind) .none kV_law_kind dc_law_kind pm_law_kind an_law_kind cd_law_kind ct_law_kind), v_law_operands, (PySem.W.fnOf "_law_operands" "_law_operands" (defArgs s_law_operands) (defBody s_law_operands) (defScope s_law_operands) .none kV_law_operands dc_law_operands pm_law_operands an_law_operands cd_law_operands ct_law_operands), v_law_name, (PySem.W.fnOf "_law_name" "_law_name" (defArgs s_law_name) (defBody s_law_name) (defScope s_law_name) .none kV_law_name dc_law_name pm_law_name an_law_name cd_law_name ct_law_name), v_law_expression, (PySem.W.fnOf "_law_expression" "_law_expression" (defArgs s_law_expression) (defBody s_law_expression) (defScope s_law_expression) .none kV_law_expression dc_law_expression pm_law_expression an_law_expression cd_law_expression ct_law_expression), v_law_expression_text, (PySem.W.fnOf "_law_expression_text" "_law_expression_text" (defArgs s_law_expression_text) (defBody s_law_expression_text) (defScope s_law_expression_text) .none kV_law_expression_text dc_law_expression_text pm_law_expression_text an_law_expression_text cd_law_expression_text ct_law_expression_text), v_law_read_told, (PySem.W.fnOf "_law_read_told" "_law_read_told" (defArgs s_law_read_told) (defBody s_law_read_told) (defScope s_law_read_told) .none kV_law_read_told dc_law_read_told pm_law_read_told an_law_read_told cd_law_read_told ct_law_read_told), v_law_sign_told, (PySem.W.fnOf "_law_sign_told" "_law_sign_told" (defArgs s_law_sign_told) (defBody s_law_sign_told) (defScope s_law_sign_told) .none kV_law_sign_told dc_law_sign_told pm_law_sign_told an_law_sign_told cd_law_sign_told ct_law_sign_told), v_law_name_told, (PySem.W.fnOf "_law_name_told" "_law_name_told" (defArgs s_law_name_told) (defBody s_law_name_told) (defScope s_law_name_told) .none kV_law_name_told dc_law_name_told pm_law_name_told an_law_name_told cd_law_name_told ct_law_name_told), v_law_tokens_right, (PySem.W.fnOf "_law_tokens_right" "_law_tokens_right" (defArgs s_law_tokens_right) (defBody s_law_tokens_right) (defScope s_law_tokens_right) .none kV_law_tokens_right dc_law_tokens_right pm_law_tokens_right an_law_tokens_right cd_law_tokens_right ct_law_tokens_right), v_law_spoiled, (PySem.W.fnOf "_law_spoiled" "_law_spoiled" (defArgs s_law_spoiled) (defBody s_law_spoiled) (defScope s_law_spoiled) .none kV_law_spoiled dc_law_spoiled pm_law_spoiled an_law_spoiled cd_law_spoiled ct_law_spoiled), fa, (PySem.W.fnOf "law" "law" (defArgs s_law) (defBody s_law) (defScope s_law) .none kV_law dc_law pm_law an_law cd_law ct_law), u_c_UndoError, w_BadText, w_BadName, v_BadText___init__, (PySem.W.fnOf "__init__" "BadText.__init__" (defArgs s_BadText___init__) (defBody s_BadText___init__) (defScope s_BadText___init__) .none kV_BadText___init__ dc_BadText___init__ pm_BadText___init__ an_BadText___init__ cd_BadText___init__ ct_BadText___init__), v_BadName___init__, (PySem.W.fnOf "__init__" "BadName.__init__" (defArgs s_BadName___init__) (defBody s_BadName___init__) (defScope s_BadName___init__) .none kV_BadName___init__ dc_BadName___init__ pm_BadName___init__ an_BadName___init__ cd_BadName___init__ ct_BadName___init__), p_TABLE_SIZES, p_SHIFT_SIGNS, p_KEYWORDS, p_SIGNS, p_STRENGTHS⟩ := ⟨PySem.W.mg_of X G hm_cut_text, F_cut_text, b_cut_text, PySem.W.mg_of X G hm_cut_token, F_cut_token, b_cut_token, PySem.W.mg_of X G hm_row_of, F_row_of, b_row_of, PySem.W.mg_of X G hm_cut_word, F_cut_word, b_cut_word, PySem.W.mg_of X G hm_cut_number, F_cut_number, b_cut_number, PySem.W.mg_of X G hm_brackets_behind, F_brackets_behind, b_brackets_behind, PySem.W.mg_of X G hm_is_sign, F_is_sign, b_is_sign, PySem.W.mg_of X G hm_take_sign, F_take_sign, b_take_sign, PySem.W.mg_of X G hm_take_name, F_take_name, b_take_name, PySem.W.mg_of X G hm_take_number, F_take_number, b_take_number, PySem.W.mg_of X G hm_check_depth, F_check_depth, b_check_depth, PySem.W.mg_of X G hm_read_expression, F_read_expression, b_read_expression, PySem.W.mg_of X G hm_read_deep, F_read_deep, b_read_deep, PySem.W.mg_of X G hm_read_part, F_read_part, b_read_part, PySem.W.mg_of X G hm_read_named, F_read_named, b_read_named, PySem.W.mg_of X G hm_read_call, F_read_call, b_read_call, PySem.W.mg_of X G hm_read_parts, F_read_parts, b_read_parts, PySem.W.mg_of X G hm_read_pick, F_read_pick, b_read_pick, PySem.W.mg_of X G hm_read_table, F_read_table, b_read_table, PySem.W.mg_of X G hm_read_numbers, F_read_numbers, b_read_numbers, PySem.W.mg_of X G hm_law_hand, F_law_hand, b_law_hand, PySem.W.mg_of X G hm_law_mixed, F_law_mixed, b_law_mixed, PySem.W.mg_of X G hm_law_take, F_law_take, b_law_take, PySem.W.mg_of X G hm_law_whole, F_law_whole, b_law_whole, PySem.W.mg_of X G hm_law_two, F_law_two, b_law_two, PySem.W.mg_of X G hm_law_kind, F_law_kind, b_law_kind, PySem.W.mg_of X G hm_law_operands, F_law_operands, b_law_operands, PySem.W.mg_of X G hm_law_name, F_law_name, b_law_name, PySem.W.mg_of X G hm_law_expression, F_law_expression, b_law_expression, PySem.W.mg_of X G hm_law_expression_text, F_law_expression_text, b_law_expression_text, PySem.W.mg_of X G hm_law_read_told, F_law_read_told, b_law_read_told, PySem.W.mg_of X G hm_law_sign_told, F_law_sign_told, b_law_sign_told, PySem.W.mg_of X G hm_law_name_told, F_law_name_told, b_law_name_told, PySem.W.mg_of X G hm_law_tokens_right, F_law_tokens_right, b_law_tokens_right, PySem.W.mg_of X G hm_law_spoiled, F_law_spoiled, b_law_spoiled, PySem.W.mg_of X G hm_law, F_law, b_law, PySem.W.mg_of X G hm_BadText, ⟨⟨_, _, _, _, _, _, _, _, _, _, _, _, _, _, _, xl_BadText, xv_BadText⟩, xs_BadText, xb_BadText, xy_BadText, xk_BadText⟩, ⟨xg_BadText, xh_BadText, xb_BadText, xd_BadText⟩, hxi_BadText, hxt_BadText, exm_self xb_BadText xc_BadText xy_BadText xz_BadText, hxn_BadText_spot, hxn_BadText_what, F_BadText___init__, b_BadText___init__, PySem.W.mg_of X G hm_BadName, ⟨⟨_, _, _, _, _, _, _, _, _, _, _, _, _, _, _, xl_BadName, xv_BadName⟩, xs_BadName, xb_BadName, xy_BadName, xk_BadName⟩, ⟨xg_BadName, xh_BadName, xb_BadName, xd_BadName⟩, hxi_BadName, hxt_BadName, exm_self xb_BadName xc_BadName xy_BadName xz_BadName, hxn_BadName_spot, hxn_BadName_what, F_BadName___init__, b_BadName___init__, ⟨_, PySem.W.mg_of X G hm_MOST_NUMBER, ⟨_, rfl⟩⟩, ⟨_, PySem.W.mg_of X G hm_TABLE_SIZES, rfl⟩, fun H => sqT_mk tl_TABLE_SIZES ti_TABLE_SIZES tz_TABLE_SIZES, ⟨_, PySem.W.mg_of X G hm_SHIFT_SIGNS, rfl⟩, fun H => sqT_mk tl_SHIFT_SIGNS ti_SHIFT_SIGNS tz_SHIFT_SIGNS, ⟨_, PySem.W.mg_of X G hm_LETTERS, ⟨_, rfl⟩⟩, ⟨_, PySem.W.mg_of X G hm_FIGURES, ⟨_, rfl⟩⟩, ⟨_, PySem.W.mg_of X G hm_KEYWORDS, rfl⟩, fun H => sqT_mk tl_KEYWORDS ti_KEYWORDS tz_KEYWORDS, ⟨_, PySem.W.mg_of X G hm_SIGNS, rfl⟩, fun H => sqT_mk tl_SIGNS ti_SIGNS tz_SIGNS, ⟨_, PySem.W.mg_of X G hm_MOST_NAME, ⟨_, rfl⟩⟩, ⟨_, PySem.W.mg_of X G hm_MOST_BRACKETS, ⟨_, rfl⟩⟩, ⟨_, PySem.W.mg_of X G hm_STRENGTHS, rfl⟩, ⟨_, PySem.W.mg_of X G hm_MOST_DEPTH, ⟨_, rfl⟩⟩, PySem.W.mg_none_of X G hz_ValueError, PySem.W.mg_none_of X G hz_abs, PySem.W.mg_none_of X G hz_bool, PySem.W.mg_none_of X G hz_int, PySem.W.mg_none_of X G hz_isinstance, PySem.W.mg_none_of X G hz_len, PySem.W.mg_none_of X G hz_max, PySem.W.mg_none_of X G hz_range, PySem.W.mg_none_of X G hz_str, PySem.W.mg_none_of X G hz_tuple⟩
  have D : Txd w K ⟨v_cut_text, (PySem.W.fnOf "cut_text" "cut_text" (defArgs s_cut_text) (defBody s_cut_text) (defScope s_cut_text) .none kV_cut_text dc_cut_text pm_cut_text an_cut_text cd_cut_text ct_cut_text), v_cut_token, (PySem.W.fnOf "cut_token" "cut_token" (defArgs s_cut_token) (defBody s_cut_token) (defScope s_cut_token) .none kV_cut_token dc_cut_token pm_cut_token an_cut_token cd_cut_token ct_cut_token), v_row_of, (PySem.W.fnOf "row_of" "row_of" (defArgs s_row_of) (defBody s_row_of) (defScope s_row_of) .none kV_row_of dc_row_of pm_row_of an_row_of cd_row_of ct_row_of), v_cut_word, (PySem.W.fnOf "cut_word" "cut_word" (defArgs s_cut_word) (defBody s_cut_word) (defScope s_cut_word) .none kV_cut_word dc_cut_word pm_cut_word an_cut_word cd_cut_word ct_cut_word), v_cut_number, (PySem.W.fnOf "cut_number" "cut_number" (defArgs s_cut_number) (defBody s_cut_number) (defScope s_cut_number) .none kV_cut_number dc_cut_number pm_cut_number an_cut_number cd_cut_number ct_cut_number), v_brackets_behind, (PySem.W.fnOf "brackets_behind" "brackets_behind" (defArgs s_brackets_behind) (defBody s_brackets_behind) (defScope s_brackets_behind) .none kV_brackets_behind dc_brackets_behind pm_brackets_behind an_brackets_behind cd_brackets_behind ct_brackets_behind), v_is_sign, (PySem.W.fnOf "is_sign" "is_sign" (defArgs s_is_sign) (defBody s_is_sign) (defScope s_is_sign) .none kV_is_sign dc_is_sign pm_is_sign an_is_sign cd_is_sign ct_is_sign), v_take_sign, (PySem.W.fnOf "take_sign" "take_sign" (defArgs s_take_sign) (defBody s_take_sign) (defScope s_take_sign) .none kV_take_sign dc_take_sign pm_take_sign an_take_sign cd_take_sign ct_take_sign), v_take_name, (PySem.W.fnOf "take_name" "take_name" (defArgs s_take_name) (defBody s_take_name) (defScope s_take_name) .none kV_take_name dc_take_name pm_take_name an_take_name cd_take_name ct_take_name), v_take_number, (PySem.W.fnOf "take_number" "take_number" (defArgs s_take_number) (defBody s_take_number) (defScope s_take_number) .none kV_take_number dc_take_number pm_take_number an_take_number cd_take_number ct_take_number), v_check_depth, (PySem.W.fnOf "check_depth" "check_depth" (defArgs s_check_depth) (defBody s_check_depth) (defScope s_check_depth) .none kV_check_depth dc_check_depth pm_check_depth an_check_depth cd_check_depth ct_check_depth), v_read_expression, (PySem.W.fnOf "read_expression" "read_expression" (defArgs s_read_expression) (defBody s_read_expression) (defScope s_read_expression) .none kV_read_expression dc_read_expression pm_read_expression an_read_expression cd_read_expression ct_read_expression), v_read_deep, (PySem.W.fnOf "read_deep" "read_deep" (defArgs s_read_deep) (defBody s_read_deep) (defScope s_read_deep) .none kV_read_deep dc_read_deep pm_read_deep an_read_deep cd_read_deep ct_read_deep), v_read_part, (PySem.W.fnOf "read_part" "read_part" (defArgs s_read_part) (defBody s_read_part) (defScope s_read_part) .none kV_read_part dc_read_part pm_read_part an_read_part cd_read_part ct_read_part), v_read_named, (PySem.W.fnOf "read_named" "read_named" (defArgs s_read_named) (defBody s_read_named) (defScope s_read_named) .none kV_read_named dc_read_named pm_read_named an_read_named cd_read_named ct_read_named), v_read_call, (PySem.W.fnOf "read_call" "read_call" (defArgs s_read_call) (defBody s_read_call) (defScope s_read_call) .none kV_read_call dc_read_call pm_read_call an_read_call cd_read_call ct_read_call), v_read_parts, (PySem.W.fnOf "read_parts" "read_parts" (defArgs s_read_parts) (defBody s_read_parts) (defScope s_read_parts) .none kV_read_parts dc_read_parts pm_read_parts an_read_parts cd_read_parts ct_read_parts), v_read_pick, (PySem.W.fnOf "read_pick" "read_pick" (defArgs s_read_pick) (defBody s_read_pick) (defScope s_read_pick) .none kV_read_pick dc_read_pick pm_read_pick an_read_pick cd_read_pick ct_read_pick), v_read_table, (PySem.W.fnOf "read_table" "read_table" (defArgs s_read_table) (defBody s_read_table) (defScope s_read_table) .none kV_read_table dc_read_table pm_read_table an_read_table cd_read_table ct_read_table), v_read_numbers, (PySem.W.fnOf "read_numbers" "read_numbers" (defArgs s_read_numbers) (defBody s_read_numbers) (defScope s_read_numbers) .none kV_read_numbers dc_read_numbers pm_read_numbers an_read_numbers cd_read_numbers ct_read_numbers), v_law_hand, (PySem.W.fnOf "_law_hand" "_law_hand" (defArgs s_law_hand) (defBody s_law_hand) (defScope s_law_hand) .none kV_law_hand dc_law_hand pm_law_hand an_law_hand cd_law_hand ct_law_hand), v_law_mixed, (PySem.W.fnOf "_law_mixed" "_law_mixed" (defArgs s_law_mixed) (defBody s_law_mixed) (defScope s_law_mixed) .none kV_law_mixed dc_law_mixed pm_law_mixed an_law_mixed cd_law_mixed ct_law_mixed), v_law_take, (PySem.W.fnOf "_law_take" "_law_take" (defArgs s_law_take) (defBody s_law_take) (defScope s_law_take) .none kV_law_take dc_law_take pm_law_take an_law_take cd_law_take ct_law_take), v_law_whole, (PySem.W.fnOf "_law_whole" "_law_whole" (defArgs s_law_whole) (defBody s_law_whole) (defScope s_law_whole) .none kV_law_whole dc_law_whole pm_law_whole an_law_whole cd_law_whole ct_law_whole), v_law_two, (PySem.W.fnOf "_law_two" "_law_two" (defArgs s_law_two) (defBody s_law_two) (defScope s_law_two) .none kV_law_two dc_law_two pm_law_two an_law_two cd_law_two ct_law_two), v_law_kind, (PySem.W.fnOf "_law_kind" "_law_kind" (defArgs s_law_kind) (defBody s_law_kind) (defScope s_law_kind) .none kV_law_kind dc_law_kind pm_law_kind an_law_kind cd_law_kind ct_law_kind), v_law_operands, (PySem.W.fnOf "_law_operands" "_law_operands" (defArgs s_law_operands) (defBody s_law_operands) (defScope s_law_operands) .none kV_law_operands dc_law_operands pm_law_operands an_law_operands cd_law_operands ct_law_operands), v_law_name, (PySem.W.fnOf "_law_name" "_law_name" (defArgs s_law_name) (defBody s_law_name) (defScope s_law_name) .none kV_law_name dc_law_name pm_law_name an_law_name cd_law_name ct_law_name), v_law_expression, (PySem.W.fnOf "_law_expression" "_law_expression" (defArgs s_law_expression) (defBody s_law_expression) (defScope s_law_expression) .none kV_law_expression dc_law_expression pm_law_expression an_law_expression cd_law_expression ct_law_expression), v_law_expression_text, (PySem.W.fnOf "_law_expression_text" "_law_expression_text" (defArgs s_law_expression_text) (defBody s_law_expression_text) (defScope s_law_expression_text) .none kV_law_expression_text dc_law_expression_text pm_law_expression_text an_law_expression_text cd_law_expression_text ct_law_expression_text), v_law_read_told, (PySem.W.fnOf "_law_read_told" "_law_read_told" (defArgs s_law_read_told) (defBody s_law_read_told) (defScope s_law_read_told) .none kV_law_read_told dc_law_read_told pm_law_read_told an_law_read_told cd_law_read_told ct_law_read_told), v_law_sign_told, (PySem.W.fnOf "_law_sign_told" "_law_sign_told" (defArgs s_law_sign_told) (defBody s_law_sign_told) (defScope s_law_sign_told) .none kV_law_sign_told dc_law_sign_told pm_law_sign_told an_law_sign_told cd_law_sign_told ct_law_sign_told), v_law_name_told, (PySem.W.fnOf "_law_name_told" "_law_name_told" (defArgs s_law_name_told) (defBody s_law_name_told) (defScope s_law_name_told) .none kV_law_name_told dc_law_name_told pm_law_name_told an_law_name_told cd_law_name_told ct_law_name_told), v_law_tokens_right, (PySem.W.fnOf "_law_tokens_right" "_law_tokens_right" (defArgs s_law_tokens_right) (defBody s_law_tokens_right) (defScope s_law_tokens_right) .none kV_law_tokens_right dc_law_tokens_right pm_law_tokens_right an_law_tokens_right cd_law_tokens_right ct_law_tokens_right), v_law_spoiled, (PySem.W.fnOf "_law_spoiled" "_law_spoiled" (defArgs s_law_spoiled) (defBody s_law_spoiled) (defScope s_law_spoiled) .none kV_law_spoiled dc_law_spoiled pm_law_spoiled an_law_spoiled cd_law_spoiled ct_law_spoiled), fa, (PySem.W.fnOf "law" "law" (defArgs s_law) (defBody s_law) (defScope s_law) .none kV_law dc_law pm_law an_law cd_law ct_law), u_c_UndoError, w_BadText, w_BadName, v_BadText___init__, (PySem.W.fnOf "__init__" "BadText.__init__" (defArgs s_BadText___init__) (defBody s_BadText___init__) (defScope s_BadText___init__) .none kV_BadText___init__ dc_BadText___init__ pm_BadText___init__ an_BadText___init__ cd_BadText___init__ ct_BadText___init__), v_BadName___init__, (PySem.W.fnOf "__init__" "BadName.__init__" (defArgs s_BadName___init__) (defBody s_BadName___init__) (defScope s_BadName___init__) .none kV_BadName___init__ dc_BadName___init__ pm_BadName___init__ an_BadName___init__ cd_BadName___init__ ct_BadName___init__), p_TABLE_SIZES, p_SHIFT_SIGNS, p_KEYWORDS, p_SIGNS, p_STRENGTHS⟩ := ⟨⟨_, _, dl_STRENGTHS, dk_STRENGTHS⟩, do_STRENGTHS, strg_has dh_0 dh_1 dh_2 dh_3 dh_4 dh_5 dh_6 dh_7 dh_8 dh_9 dh_10 dh_11 dh_12 dh_13 dh_14 dh_15 dh_16 dh_17 dh_18 dh_19 dh_20 dh_21 dh_22⟩
  have TE : Txe K ⟨v_cut_text, (PySem.W.fnOf "cut_text" "cut_text" (defArgs s_cut_text) (defBody s_cut_text) (defScope s_cut_text) .none kV_cut_text dc_cut_text pm_cut_text an_cut_text cd_cut_text ct_cut_text), v_cut_token, (PySem.W.fnOf "cut_token" "cut_token" (defArgs s_cut_token) (defBody s_cut_token) (defScope s_cut_token) .none kV_cut_token dc_cut_token pm_cut_token an_cut_token cd_cut_token ct_cut_token), v_row_of, (PySem.W.fnOf "row_of" "row_of" (defArgs s_row_of) (defBody s_row_of) (defScope s_row_of) .none kV_row_of dc_row_of pm_row_of an_row_of cd_row_of ct_row_of), v_cut_word, (PySem.W.fnOf "cut_word" "cut_word" (defArgs s_cut_word) (defBody s_cut_word) (defScope s_cut_word) .none kV_cut_word dc_cut_word pm_cut_word an_cut_word cd_cut_word ct_cut_word), v_cut_number, (PySem.W.fnOf "cut_number" "cut_number" (defArgs s_cut_number) (defBody s_cut_number) (defScope s_cut_number) .none kV_cut_number dc_cut_number pm_cut_number an_cut_number cd_cut_number ct_cut_number), v_brackets_behind, (PySem.W.fnOf "brackets_behind" "brackets_behind" (defArgs s_brackets_behind) (defBody s_brackets_behind) (defScope s_brackets_behind) .none kV_brackets_behind dc_brackets_behind pm_brackets_behind an_brackets_behind cd_brackets_behind ct_brackets_behind), v_is_sign, (PySem.W.fnOf "is_sign" "is_sign" (defArgs s_is_sign) (defBody s_is_sign) (defScope s_is_sign) .none kV_is_sign dc_is_sign pm_is_sign an_is_sign cd_is_sign ct_is_sign), v_take_sign, (PySem.W.fnOf "take_sign" "take_sign" (defArgs s_take_sign) (defBody s_take_sign) (defScope s_take_sign) .none kV_take_sign dc_take_sign pm_take_sign an_take_sign cd_take_sign ct_take_sign), v_take_name, (PySem.W.fnOf "take_name" "take_name" (defArgs s_take_name) (defBody s_take_name) (defScope s_take_name) .none kV_take_name dc_take_name pm_take_name an_take_name cd_take_name ct_take_name), v_take_number, (PySem.W.fnOf "take_number" "take_number" (defArgs s_take_number) (defBody s_take_number) (defScope s_take_number) .none kV_take_number dc_take_number pm_take_number an_take_number cd_take_number ct_take_number), v_check_depth, (PySem.W.fnOf "check_depth" "check_depth" (defArgs s_check_depth) (defBody s_check_depth) (defScope s_check_depth) .none kV_check_depth dc_check_depth pm_check_depth an_check_depth cd_check_depth ct_check_depth), v_read_expression, (PySem.W.fnOf "read_expression" "read_expression" (defArgs s_read_expression) (defBody s_read_expression) (defScope s_read_expression) .none kV_read_expression dc_read_expression pm_read_expression an_read_expression cd_read_expression ct_read_expression), v_read_deep, (PySem.W.fnOf "read_deep" "read_deep" (defArgs s_read_deep) (defBody s_read_deep) (defScope s_read_deep) .none kV_read_deep dc_read_deep pm_read_deep an_read_deep cd_read_deep ct_read_deep), v_read_part, (PySem.W.fnOf "read_part" "read_part" (defArgs s_read_part) (defBody s_read_part) (defScope s_read_part) .none kV_read_part dc_read_part pm_read_part an_read_part cd_read_part ct_read_part), v_read_named, (PySem.W.fnOf "read_named" "read_named" (defArgs s_read_named) (defBody s_read_named) (defScope s_read_named) .none kV_read_named dc_read_named pm_read_named an_read_named cd_read_named ct_read_named), v_read_call, (PySem.W.fnOf "read_call" "read_call" (defArgs s_read_call) (defBody s_read_call) (defScope s_read_call) .none kV_read_call dc_read_call pm_read_call an_read_call cd_read_call ct_read_call), v_read_parts, (PySem.W.fnOf "read_parts" "read_parts" (defArgs s_read_parts) (defBody s_read_parts) (defScope s_read_parts) .none kV_read_parts dc_read_parts pm_read_parts an_read_parts cd_read_parts ct_read_parts), v_read_pick, (PySem.W.fnOf "read_pick" "read_pick" (defArgs s_read_pick) (defBody s_read_pick) (defScope s_read_pick) .none kV_read_pick dc_read_pick pm_read_pick an_read_pick cd_read_pick ct_read_pick), v_read_table, (PySem.W.fnOf "read_table" "read_table" (defArgs s_read_table) (defBody s_read_table) (defScope s_read_table) .none kV_read_table dc_read_table pm_read_table an_read_table cd_read_table ct_read_table), v_read_numbers, (PySem.W.fnOf "read_numbers" "read_numbers" (defArgs s_read_numbers) (defBody s_read_numbers) (defScope s_read_numbers) .none kV_read_numbers dc_read_numbers pm_read_numbers an_read_numbers cd_read_numbers ct_read_numbers), v_law_hand, (PySem.W.fnOf "_law_hand" "_law_hand" (defArgs s_law_hand) (defBody s_law_hand) (defScope s_law_hand) .none kV_law_hand dc_law_hand pm_law_hand an_law_hand cd_law_hand ct_law_hand), v_law_mixed, (PySem.W.fnOf "_law_mixed" "_law_mixed" (defArgs s_law_mixed) (defBody s_law_mixed) (defScope s_law_mixed) .none kV_law_mixed dc_law_mixed pm_law_mixed an_law_mixed cd_law_mixed ct_law_mixed), v_law_take, (PySem.W.fnOf "_law_take" "_law_take" (defArgs s_law_take) (defBody s_law_take) (defScope s_law_take) .none kV_law_take dc_law_take pm_law_take an_law_take cd_law_take ct_law_take), v_law_whole, (PySem.W.fnOf "_law_whole" "_law_whole" (defArgs s_law_whole) (defBody s_law_whole) (defScope s_law_whole) .none kV_law_whole dc_law_whole pm_law_whole an_law_whole cd_law_whole ct_law_whole), v_law_two, (PySem.W.fnOf "_law_two" "_law_two" (defArgs s_law_two) (defBody s_law_two) (defScope s_law_two) .none kV_law_two dc_law_two pm_law_two an_law_two cd_law_two ct_law_two), v_law_kind, (PySem.W.fnOf "_law_kind" "_law_kind" (defArgs s_law_kind) (defBody s_law_kind) (defScope s_law_kind) .none kV_law_kind dc_law_kind pm_law_kind an_law_kind cd_law_kind ct_law_kind), v_law_operands, (PySem.W.fnOf "_law_operands" "_law_operands" (defArgs s_law_operands) (defBody s_law_operands) (defScope s_law_operands) .none kV_law_operands dc_law_operands pm_law_operands an_law_operands cd_law_operands ct_law_operands), v_law_name, (PySem.W.fnOf "_law_name" "_law_name" (defArgs s_law_name) (defBody s_law_name) (defScope s_law_name) .none kV_law_name dc_law_name pm_law_name an_law_name cd_law_name ct_law_name), v_law_expression, (PySem.W.fnOf "_law_expression" "_law_expression" (defArgs s_law_expression) (defBody s_law_expression) (defScope s_law_expression) .none kV_law_expression dc_law_expression pm_law_expression an_law_expression cd_law_expression ct_law_expression), v_law_expression_text, (PySem.W.fnOf "_law_expression_text" "_law_expression_text" (defArgs s_law_expression_text) (defBody s_law_expression_text) (defScope s_law_expression_text) .none kV_law_expression_text dc_law_expression_text pm_law_expression_text an_law_expression_text cd_law_expression_text ct_law_expression_text), v_law_read_told, (PySem.W.fnOf "_law_read_told" "_law_read_told" (defArgs s_law_read_told) (defBody s_law_read_told) (defScope s_law_read_told) .none kV_law_read_told dc_law_read_told pm_law_read_told an_law_read_told cd_law_read_told ct_law_read_told), v_law_sign_told, (PySem.W.fnOf "_law_sign_told" "_law_sign_told" (defArgs s_law_sign_told) (defBody s_law_sign_told) (defScope s_law_sign_told) .none kV_law_sign_told dc_law_sign_told pm_law_sign_told an_law_sign_told cd_law_sign_told ct_law_sign_told), v_law_name_told, (PySem.W.fnOf "_law_name_told" "_law_name_told" (defArgs s_law_name_told) (defBody s_law_name_told) (defScope s_law_name_told) .none kV_law_name_told dc_law_name_told pm_law_name_told an_law_name_told cd_law_name_told ct_law_name_told), v_law_tokens_right, (PySem.W.fnOf "_law_tokens_right" "_law_tokens_right" (defArgs s_law_tokens_right) (defBody s_law_tokens_right) (defScope s_law_tokens_right) .none kV_law_tokens_right dc_law_tokens_right pm_law_tokens_right an_law_tokens_right cd_law_tokens_right ct_law_tokens_right), v_law_spoiled, (PySem.W.fnOf "_law_spoiled" "_law_spoiled" (defArgs s_law_spoiled) (defBody s_law_spoiled) (defScope s_law_spoiled) .none kV_law_spoiled dc_law_spoiled pm_law_spoiled an_law_spoiled cd_law_spoiled ct_law_spoiled), fa, (PySem.W.fnOf "law" "law" (defArgs s_law) (defBody s_law) (defScope s_law) .none kV_law dc_law pm_law an_law cd_law ct_law), u_c_UndoError, w_BadText, w_BadName, v_BadText___init__, (PySem.W.fnOf "__init__" "BadText.__init__" (defArgs s_BadText___init__) (defBody s_BadText___init__) (defScope s_BadText___init__) .none kV_BadText___init__ dc_BadText___init__ pm_BadText___init__ an_BadText___init__ cd_BadText___init__ ct_BadText___init__), v_BadName___init__, (PySem.W.fnOf "__init__" "BadName.__init__" (defArgs s_BadName___init__) (defBody s_BadName___init__) (defScope s_BadName___init__) .none kV_BadName___init__ dc_BadName___init__ pm_BadName___init__ an_BadName___init__ cd_BadName___init__ ct_BadName___init__), p_TABLE_SIZES, p_SHIFT_SIGNS, p_KEYWORDS, p_SIGNS, p_STRENGTHS⟩ := ⟨exm_no xb_BadText xc_BadText xy_BadText xn_BadName_BadText⟩
  exact ⟨(PySem.W.fnOf "law" "law" (defArgs s_law) (defBody s_law) (defScope s_law) .none kV_law dc_law pm_law an_law cd_law ct_law), fun s u => .of_eq rfl, fun base _ _ => ok_law T D TE⟩
theorem walk {l : PySem.W.OpenLaw} {q : Program} {loose : List Str} {XP : (Str → Option Value) → Heap → Prop} {YP : World → Heap → Prop} {d : DefRec} {K : Params → PySem.W.Frag} (hn : l.most = some 63) (hdf : d.params.defaults = [])
    (hY : ∀ (w : World) (h : Heap), YP w h → (K w.params).In h)
    (F : ∀ (w : World) (mg : Str → Option Value) (fa : Addr) (h : Heap), (K w.params).In h → h.Ns mainGlobals mg → mg d.name = some (.ref fa) →
      ∃ fd : FuncData, (∀ (s : Shared) (u : Value), BindsTo s fd ⟨[u], []⟩ [("_law_script", u)]) ∧ ∀ base : Heap, (K w.params).In base → base.Ns mainGlobals mg → FnOk l.prog w (K w.params) mg base (L2.CX l.prog w) 70 fa fd ["_law_script"] (spLaw (K w.params))) :
    PySem.W.WalkO q loose XP YP l.row.toRowW d [] (fun f vs => PySem.call f vs) :=
  L2.walk_of (n := 63) (k := 70) (x := "_law_script") (CX := (fun w => L2.CX l.prog w)) (sp := fun w => spLaw (K w.params)) hn (by decide) hdf ⟨rfl, by decide, by decide⟩ hY F (fun _ _ a ns hl _ hS => ⟨a, ns, rfl, hS, hl, fun _ => rfl⟩) fun _ _ _ _ _ ⟨_, _, _, _, _, _, _, _, _, _, _, _, z⟩ => z
end My
open PySem PySem.W PyProof.Rows in
set_option maxRecDepth 100000 in
set_option maxHeartbeats 0 in
theorem PySem.Challenge.cw_undocells_k93_whole_expressions_and_toke_holds : PySem.Challenge.rw_undocells_k93_whole_expressions_and_toke.Holds := by
  w_on; o_law; k_head; (case hw => w_witness2)
  k_fill
  refine My.walk (l := PySem.Challenge.rw_undocells_k93_whole_expressions_and_toke) rfl rfl (fun w h Y => PySem.W.kIn_of Y) ?F
  case F =>
    intro w mg fa h KX G hmg
    refine' My.all_mk KX G hmg ?hm_BadText ?hm_BadName ?xl_BadText ?xv_BadText ?xs_BadText ?xg_BadText ?xh_BadText ?xk_BadText ?xb_BadText ?xy_BadText ?xd_BadText ?xc_BadText ?xz_BadText ?xl_BadName ?xv_BadName ?xs_BadName ?xg_BadName ?xh_BadName ?xk_BadName ?xb_BadName ?xy_BadName ?xd_BadName ?xc_BadName ?xz_BadName ?hxi_BadText ?hxt_BadText ?hxn_BadText_spot ?hxn_BadText_what ?hxi_BadName ?hxt_BadName ?hxn_BadName_spot ?hxn_BadName_what ?xn_BadName_BadText ?hm_cut_text ?hl_cut_text ?hc_cut_text ?hk_cut_text ?hm_cut_token ?hl_cut_token ?hc_cut_token ?hk_cut_token ?hm_row_of ?hl_row_of ?hc_row_of ?hk_row_of ?hm_cut_word ?hl_cut_word ?hc_cut_word ?hk_cut_word ?hm_cut_number ?hl_cut_number ?hc_cut_number ?hk_cut_number ?hm_brackets_behind ?hl_brackets_behind ?hc_brackets_behind ?hk_brackets_behind ?hm_is_sign ?hl_is_sign ?hc_is_sign ?hk_is_sign ?hm_take_sign ?hl_take_sign ?hc_take_sign ?hk_take_sign ?hm_take_name ?hl_take_name ?hc_take_name ?hk_take_name ?hm_take_number ?hl_take_number ?hc_take_number ?hk_take_number ?hm_check_depth ?hl_check_depth ?hc_check_depth ?hk_check_depth ?hm_read_expression ?hl_read_expression ?hc_read_expression ?hk_read_expression ?hm_read_deep ?hl_read_deep ?hc_read_deep ?hk_read_deep ?hm_read_part ?hl_read_part ?hc_read_part ?hk_read_part ?hm_read_named ?hl_read_named ?hc_read_named ?hk_read_named ?hm_read_call ?hl_read_call ?hc_read_call ?hk_read_call ?hm_read_parts ?hl_read_parts ?hc_read_parts ?hk_read_parts ?hm_read_pick ?hl_read_pick ?hc_read_pick ?hk_read_pick ?hm_read_table ?hl_read_table ?hc_read_table ?hk_read_table ?hm_read_numbers ?hl_read_numbers ?hc_read_numbers ?hk_read_numbers ?hm_law_hand ?hl_law_hand ?hc_law_hand ?hk_law_hand ?hm_law_mixed ?hl_law_mixed ?hc_law_mixed ?hk_law_mixed ?hm_law_take ?hl_law_take ?hc_law_take ?hk_law_take ?hm_law_whole ?hl_law_whole ?hc_law_whole ?hk_law_whole ?hm_law_two ?hl_law_two ?hc_law_two ?hk_law_two ?hm_law_kind ?hl_law_kind ?hc_law_kind ?hk_law_kind ?hm_law_operands ?hl_law_operands ?hc_law_operands ?hk_law_operands ?hm_law_name ?hl_law_name ?hc_law_name ?hk_law_name ?hm_law_expression ?hl_law_expression ?hc_law_expression ?hk_law_expression ?hm_law_expression_text ?hl_law_expression_text ?hc_law_expression_text ?hk_law_expression_text ?hm_law_read_told ?hl_law_read_told ?hc_law_read_told ?hk_law_read_told ?hm_law_sign_told ?hl_law_sign_told ?hc_law_sign_told ?hk_law_sign_told ?hm_law_name_told ?hl_law_name_told ?hc_law_name_told ?hk_law_name_told ?hm_law_tokens_right ?hl_law_tokens_right ?hc_law_tokens_right ?hk_law_tokens_right ?hm_law_spoiled ?hl_law_spoiled ?hc_law_spoiled ?hk_law_spoiled ?hm_law ?hl_law ?hc_law ?hk_law ?hl_BadText___init__ ?hc_BadText___init__ ?hk_BadText___init__ ?hl_BadName___init__ ?hc_BadName___init__ ?hk_BadName___init__ ?hm_MOST_NUMBER ?hm_TABLE_SIZES ?tl_TABLE_SIZES ?ti_TABLE_SIZES ?tz_TABLE_SIZES ?hm_SHIFT_SIGNS ?tl_SHIFT_SIGNS ?ti_SHIFT_SIGNS ?tz_SHIFT_SIGNS ?hm_LETTERS ?hm_FIGURES ?hm_KEYWORDS ?tl_KEYWORDS ?ti_KEYWORDS ?tz_KEYWORDS ?hm_SIGNS ?tl_SIGNS ?ti_SIGNS ?tz_SIGNS ?hm_MOST_NAME ?hm_MOST_BRACKETS ?hm_STRENGTHS ?dl_STRENGTHS ?dh_0 ?dh_1 ?dh_2 ?dh_3 ?dh_4 ?dh_5 ?dh_6 ?dh_7 ?dh_8 ?dh_9 ?dh_10 ?dh_11 ?dh_12 ?dh_13 ?dh_14 ?dh_15 ?dh_16 ?dh_17 ?dh_18 ?dh_19 ?dh_20 ?dh_21 ?dh_22 ?hm_MOST_DEPTH ?hz_ValueError ?hz_abs ?hz_bool ?hz_int ?hz_isinstance ?hz_len ?hz_max ?hz_range ?hz_str ?hz_tuple ?hm_UndoError ?dk_STRENGTHS ?do_STRENGTHS
    (case hm_BadText => k_is)
    (case hm_BadName => k_is)
    (case xl_BadText => k_is)
    (case xv_BadText => decide +kernel)
    (case xs_BadText => k_is)
    (case xg_BadText => k_is)
    (case xh_BadText => k_is)
    (case xk_BadText => k_is)
    (case xb_BadText => k_is)
    (case xy_BadText => k_is)
    (case xd_BadText => k_is)
    (case xc_BadText => k_is)
    (case xz_BadText => first | rfl | k_is)
    (case xl_BadName => k_is)
    (case xv_BadName => decide +kernel)
    (case xs_BadName => k_is)
    (case xg_BadName => k_is)
    (case xh_BadName => k_is)
    (case xk_BadName => k_is)
    (case xb_BadName => k_is)
    (case xy_BadName => k_is)
    (case xd_BadName => k_is)
    (case xc_BadName => k_is)
    (case xz_BadName => first | rfl | k_is)
    (case hxi_BadText => k_is)
    (case hxt_BadText => k_is)
    (case hxn_BadText_spot => k_is)
    (case hxn_BadText_what => k_is)
    (case hxi_BadName => k_is)
    (case hxt_BadName => k_is)
    (case hxn_BadName_spot => k_is)
    (case hxn_BadName_what => k_is)
    (case xn_BadName_BadText => first | rfl | k_is)
    (case hm_cut_text => k_is)
    (case hl_cut_text => k_is)
    (case hc_cut_text => k_is)
    (case hk_cut_text => k_is)
    (case hm_cut_token => k_is)
    (case hl_cut_token => k_is)
    (case hc_cut_token => k_is)
    (case hk_cut_token => k_is)
    (case hm_row_of => k_is)
    (case hl_row_of => k_is)
    (case hc_row_of => k_is)
    (case hk_row_of => k_is)
    (case hm_cut_word => k_is)
    (case hl_cut_word => k_is)
    (case hc_cut_word => k_is)
    (case hk_cut_word => k_is)
    (case hm_cut_number => k_is)
    (case hl_cut_number => k_is)
    (case hc_cut_number => k_is)
    (case hk_cut_number => k_is)
    (case hm_brackets_behind => k_is)
    (case hl_brackets_behind => k_is)
    (case hc_brackets_behind => k_is)
    (case hk_brackets_behind => k_is)
    (case hm_is_sign => k_is)
    (case hl_is_sign => k_is)
    (case hc_is_sign => k_is)
    (case hk_is_sign => k_is)
    (case hm_take_sign => k_is)
    (case hl_take_sign => k_is)
    (case hc_take_sign => k_is)
    (case hk_take_sign => k_is)
    (case hm_take_name => k_is)
    (case hl_take_name => k_is)
    (case hc_take_name => k_is)
    (case hk_take_name => k_is)
    (case hm_take_number => k_is)
    (case hl_take_number => k_is)
    (case hc_take_number => k_is)
    (case hk_take_number => k_is)
    (case hm_check_depth => k_is)
    (case hl_check_depth => k_is)
    (case hc_check_depth => k_is)
    (case hk_check_depth => k_is)
    (case hm_read_expression => k_is)
    (case hl_read_expression => k_is)
    (case hc_read_expression => k_is)
    (case hk_read_expression => k_is)
    (case hm_read_deep => k_is)
    (case hl_read_deep => k_is)
    (case hc_read_deep => k_is)
    (case hk_read_deep => k_is)
    (case hm_read_part => k_is)
    (case hl_read_part => k_is)
    (case hc_read_part => k_is)
    (case hk_read_part => k_is)
    (case hm_read_named => k_is)
    (case hl_read_named => k_is)
    (case hc_read_named => k_is)
    (case hk_read_named => k_is)
    (case hm_read_call => k_is)
    (case hl_read_call => k_is)
    (case hc_read_call => k_is)
    (case hk_read_call => k_is)
    (case hm_read_parts => k_is)
    (case hl_read_parts => k_is)
    (case hc_read_parts => k_is)
    (case hk_read_parts => k_is)
    (case hm_read_pick => k_is)
    (case hl_read_pick => k_is)
    (case hc_read_pick => k_is)
    (case hk_read_pick => k_is)
    (case hm_read_table => k_is)
    (case hl_read_table => k_is)
    (case hc_read_table => k_is)
    (case hk_read_table => k_is)
    (case hm_read_numbers => k_is)
    (case hl_read_numbers => k_is)
    (case hc_read_numbers => k_is)
    (case hk_read_numbers => k_is)
    (case hm_law_hand => k_is)
    (case hl_law_hand => k_is)
    (case hc_law_hand => k_is)
    (case hk_law_hand => k_is)
    (case hm_law_mixed => k_is)
    (case hl_law_mixed => k_is)
    (case hc_law_mixed => k_is)
    (case hk_law_mixed => k_is)
    (case hm_law_take => k_is)
    (case hl_law_take => k_is)
    (case hc_law_take => k_is)
    (case hk_law_take => k_is)
    (case hm_law_whole => k_is)
    (case hl_law_whole => k_is)
    (case hc_law_whole => k_is)
    (case hk_law_whole => k_is)
    (case hm_law_two => k_is)
    (case hl_law_two => k_is)
    (case hc_law_two => k_is)
    (case hk_law_two => k_is)
    (case hm_law_kind => k_is)
    (case hl_law_kind => k_is)
    (case hc_law_kind => k_is)
    (case hk_law_kind => k_is)
    (case hm_law_operands => k_is)
    (case hl_law_operands => k_is)
    (case hc_law_operands => k_is)
    (case hk_law_operands => k_is)
    (case hm_law_name => k_is)
    (case hl_law_name => k_is)
    (case hc_law_name => k_is)
    (case hk_law_name => k_is)
    (case hm_law_expression => k_is)
    (case hl_law_expression => k_is)
    (case hc_law_expression => k_is)
    (case hk_law_expression => k_is)
    (case hm_law_expression_text => k_is)
    (case hl_law_expression_text => k_is)
    (case hc_law_expression_text => k_is)
    (case hk_law_expression_text => k_is)
    (case hm_law_read_told => k_is)
    (case hl_law_read_told => k_is)
    (case hc_law_read_told => k_is)
    (case hk_law_read_told => k_is)
    (case hm_law_sign_told => k_is)
    (case hl_law_sign_told => k_is)
    (case hc_law_sign_told => k_is)
    (case hk_law_sign_told => k_is)
    (case hm_law_name_told => k_is)
    (case hl_law_name_told => k_is)
    (case hc_law_name_told => k_is)
    (case hk_law_name_told => k_is)
    (case hm_law_tokens_right => k_is)
    (case hl_law_tokens_right => k_is)
    (case hc_law_tokens_right => k_is)
    (case hk_law_tokens_right => k_is)
    (case hm_law_spoiled => k_is)
    (case hl_law_spoiled => k_is)
    (case hc_law_spoiled => k_is)
    (case hk_law_spoiled => k_is)
    (case hm_law => k_is)
    (case hl_law => k_is)
    (case hc_law => k_is)
    (case hk_law => k_is)
    (case hl_BadText___init__ => k_is)
    (case hc_BadText___init__ => k_is)
    (case hk_BadText___init__ => k_is)
    (case hl_BadName___init__ => k_is)
    (case hc_BadName___init__ => k_is)
    (case hk_BadName___init__ => k_is)
    (case hm_MOST_NUMBER => k_is)
    (case hm_TABLE_SIZES => k_is)
    (case tl_TABLE_SIZES => k_is)
    (case ti_TABLE_SIZES => decide +kernel)
    (case tz_TABLE_SIZES => decide +kernel)
    (case hm_SHIFT_SIGNS => k_is)
    (case tl_SHIFT_SIGNS => k_is)
    (case ti_SHIFT_SIGNS => decide +kernel)
    (case tz_SHIFT_SIGNS => decide +kernel)
    (case hm_LETTERS => k_is)
    (case hm_FIGURES => k_is)
    (case hm_KEYWORDS => k_is)
    (case tl_KEYWORDS => k_is)
    (case ti_KEYWORDS => decide +kernel)
    (case tz_KEYWORDS => decide +kernel)
    (case hm_SIGNS => k_is)
    (case tl_SIGNS => k_is)
    (case ti_SIGNS => decide +kernel)
    (case tz_SIGNS => decide +kernel)
    (case hm_MOST_NAME => k_is)
    (case hm_MOST_BRACKETS => k_is)
    (case hm_STRENGTHS => k_is)
    (case dl_STRENGTHS => k_is)
    (case dh_0 => k_is)
    (case dh_1 => k_is)
    (case dh_2 => k_is)
    (case dh_3 => k_is)
    (case dh_4 => k_is)
    (case dh_5 => k_is)
    (case dh_6 => k_is)
    (case dh_7 => k_is)
    (case dh_8 => k_is)
    (case dh_9 => k_is)
    (case dh_10 => k_is)
    (case dh_11 => k_is)
    (case dh_12 => k_is)
    (case dh_13 => k_is)
    (case dh_14 => k_is)
    (case dh_15 => k_is)
    (case dh_16 => k_is)
    (case dh_17 => k_is)
    (case dh_18 => k_is)
    (case dh_19 => k_is)
    (case dh_20 => k_is)
    (case dh_21 => k_is)
    (case dh_22 => k_is)
    (case hm_MOST_DEPTH => k_is)
    (case hz_ValueError => k_is)
    (case hz_abs => k_is)
    (case hz_bool => k_is)
    (case hz_int => k_is)
    (case hz_isinstance => k_is)
    (case hz_len => k_is)
    (case hz_max => k_is)
    (case hz_range => k_is)
    (case hz_str => k_is)
    (case hz_tuple => k_is)
    (case hm_UndoError => k_is)
    (case dk_STRENGTHS => repeat (first | exact trivial | refine ⟨⟨_, _, rfl, rfl⟩, ?_⟩))
    (case do_STRENGTHS => first | rfl | decide | k_is)
#print axioms PySem.Challenge.cw_undocells_k93_whole_expressions_and_toke_holds
