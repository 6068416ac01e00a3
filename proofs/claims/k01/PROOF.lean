import PyProof.Rows.All
import Wide.All
import OpenK.AllK
import Wide.FinOn
import HandS.ForMost
import HandS.Exc
import HandS.TryOnly
import HandS.ExcOwn
import HandS.WordsExc
import HandS.ExcInit
import HandS.ExcField
import HandS.IsInst
import HandS.Evl
import HandS.Deep
import PySem.Challenge.RW_undocells_k01_tokens_of_any_text
import HandS.Codes
set_option Elab.async false
set_option linter.all false
set_option maxRecDepth 100000
set_option maxHeartbeats 4000000
namespace My
open PySem PySem.Spec PyProof.Rows L2
def top (i : Nat) : Stmt := PySem.Challenge.pw_undocells_k01_tokens_of_any_text.main.body.getD i (.Pass ⟨0, 0, 0, 0⟩)
abbrev s_cut_text : Stmt := top 11
theorem sc_cut_text : FnScope ["text", "most", "tokens", "brackets", "spot", "token", "length"] ["text", "most"] (defScope s_cut_text) := ⟨rfl, rfl, rfl, by decide +kernel, rfl, by decide +kernel, by decide +kernel⟩
abbrev s_cut_token : Stmt := top 12
theorem sc_cut_token : FnScope ["text", "spot", "sign"] ["text", "spot"] (defScope s_cut_token) := ⟨rfl, rfl, rfl, by decide +kernel, rfl, by decide +kernel, by decide +kernel⟩
abbrev s_row_of : Stmt := top 13
theorem sc_row_of : FnScope ["text", "spot", "letters", "behind"] ["text", "spot", "letters"] (defScope s_row_of) := ⟨rfl, rfl, rfl, by decide +kernel, rfl, by decide +kernel, by decide +kernel⟩
abbrev s_cut_word : Stmt := top 14
theorem sc_cut_word : FnScope ["text", "spot", "word"] ["text", "spot"] (defScope s_cut_word) := ⟨rfl, rfl, rfl, by decide +kernel, rfl, by decide +kernel, by decide +kernel⟩
abbrev s_cut_number : Stmt := top 15
theorem sc_cut_number : FnScope ["text", "spot", "figures"] ["text", "spot"] (defScope s_cut_number) := ⟨rfl, rfl, rfl, by decide +kernel, rfl, by decide +kernel, by decide +kernel⟩
abbrev s_brackets_behind : Stmt := top 16
theorem sc_brackets_behind : FnScope ["token", "brackets", "_", "value", "spot"] ["token", "brackets"] (defScope s_brackets_behind) := ⟨rfl, rfl, rfl, by decide +kernel, rfl, by decide +kernel, by decide +kernel⟩
abbrev s_is_name : Stmt := top 17
theorem sc_is_name : FnScope ["text"] ["text"] (defScope s_is_name) := ⟨rfl, rfl, rfl, by decide +kernel, rfl, by decide +kernel, by decide +kernel⟩
abbrev s_law_hand : Stmt := top 19
theorem sc_law_hand : FnScope ["_law_script", "_law_total", "_law_cells", "_law_cell"] ["_law_script"] (defScope s_law_hand) := ⟨rfl, rfl, rfl, by decide +kernel, rfl, by decide +kernel, by decide +kernel⟩
abbrev s_law_mixed : Stmt := top 20
theorem sc_law_mixed : FnScope ["_law_number", "_law_turn", "_law_once", "_law_twice"] ["_law_number", "_law_turn"] (defScope s_law_mixed) := ⟨rfl, rfl, rfl, by decide +kernel, rfl, by decide +kernel, by decide +kernel⟩
abbrev s_law_take : Stmt := top 21
theorem sc_law_take : FnScope ["_law_hand_here", "_law_many", "_law_cell", "_law_rest"] ["_law_hand_here", "_law_many"] (defScope s_law_take) := ⟨rfl, rfl, rfl, by decide +kernel, rfl, by decide +kernel, by decide +kernel⟩
abbrev s_law_whole : Stmt := top 22
theorem sc_law_whole : FnScope ["_law_thing"] ["_law_thing"] (defScope s_law_whole) := ⟨rfl, rfl, rfl, by decide +kernel, rfl, by decide +kernel, by decide +kernel⟩
abbrev s_law_piece : Stmt := top 23
theorem sc_law_piece : FnScope ["_law_hand_here", "_law_at", "_law_words", "_law_letters", "_law_k"] ["_law_hand_here"] (defScope s_law_piece) := ⟨rfl, rfl, rfl, by decide +kernel, rfl, by decide +kernel, by decide +kernel⟩
abbrev s_law_end_of : Stmt := top 24
theorem sc_law_end_of : FnScope ["_law_text", "_law_at", "_law_signs", "_law_k"] ["_law_text", "_law_at", "_law_signs"] (defScope s_law_end_of) := ⟨rfl, rfl, rfl, by decide +kernel, rfl, by decide +kernel, by decide +kernel⟩
abbrev s_law_sign_at : Stmt := top 25
theorem sc_law_sign_at : FnScope ["_law_text", "_law_at", "_law_sign"] ["_law_text", "_law_at"] (defScope s_law_sign_at) := ⟨rfl, rfl, rfl, by decide +kernel, rfl, by decide +kernel, by decide +kernel⟩
abbrev s_law_cut_told : Stmt := top 26
theorem sc_law_cut_told : FnScope ["_law_text", "_law_most", "_law_words", "_law_told", "_law_behind", "_law_many", "_law_at", "_law_word", "_law_row", "_law_sign"] ["_law_text", "_law_most"] (defScope s_law_cut_told) := ⟨rfl, rfl, rfl, by decide +kernel, rfl, by decide +kernel, by decide +kernel⟩
abbrev s_law : Stmt := top 27
theorem sc_law : FnScope ["_law_script", "_law_hand_here", "_law_pieces", "_law_text", "_law_most", "_law_fault", "_law_told", "_law_found", "_law_tokens", "e", "_law_token", "_law_piece_here", "_law_alone", "_law_due", "_law_good", "_law_k"] ["_law_script"] (defScope s_law) := ⟨rfl, rfl, rfl, by decide +kernel, rfl, by decide +kernel, by decide +kernel⟩
abbrev s_BadText___init__ : Stmt := inClass (top 2) 0
theorem sc_BadText___init__ : FnScope ["self", "spot", "what"] ["self", "spot", "what"] (defScope s_BadText___init__) := ⟨rfl, rfl, rfl, by decide +kernel, rfl, by decide +kernel, by decide +kernel⟩
structure Ad where
  f_cut_text : Addr
  d_cut_text : FuncData
  f_cut_token : Addr
  d_cut_token : FuncData
  f_row_of : Addr
  d_row_of : FuncData
  f_cut_word : Addr
  d_cut_word : FuncData
  f_cut_number : Addr
  d_cut_number : FuncData
  f_brackets_behind : Addr
  d_brackets_behind : FuncData
  f_is_name : Addr
  d_is_name : FuncData
  f_law_hand : Addr
  d_law_hand : FuncData
  f_law_mixed : Addr
  d_law_mixed : FuncData
  f_law_take : Addr
  d_law_take : FuncData
  f_law_whole : Addr
  d_law_whole : FuncData
  f_law_piece : Addr
  d_law_piece : FuncData
  f_law_end_of : Addr
  d_law_end_of : FuncData
  f_law_sign_at : Addr
  d_law_sign_at : FuncData
  f_law_cut_told : Addr
  d_law_cut_told : FuncData
  f_law : Addr
  d_law : FuncData
  c_UndoError : Addr
  c_BadText : Addr
  f_BadText___init__ : Addr
  d_BadText___init__ : FuncData
  p_KEYWORDS : Addr
  p_SIGNS : Addr
structure Txt (K : PySem.W.Frag) (mg : Str → Option Value) (a : Ad) : Prop where
  m_cut_text : mg "cut_text" = some (.ref a.f_cut_text)
  F_cut_text : Fun K "cut_text" "cut_text" s_cut_text a.f_cut_text a.d_cut_text
  b_cut_text : Binds K a.d_cut_text ["text", "most"] []
  m_cut_token : mg "cut_token" = some (.ref a.f_cut_token)
  F_cut_token : Fun K "cut_token" "cut_token" s_cut_token a.f_cut_token a.d_cut_token
  b_cut_token : Binds K a.d_cut_token ["text", "spot"] []
  m_row_of : mg "row_of" = some (.ref a.f_row_of)
  F_row_of : Fun K "row_of" "row_of" s_row_of a.f_row_of a.d_row_of
  b_row_of : Binds K a.d_row_of ["text", "spot", "letters"] []
  m_cut_word : mg "cut_word" = some (.ref a.f_cut_word)
  F_cut_word : Fun K "cut_word" "cut_word" s_cut_word a.f_cut_word a.d_cut_word
  b_cut_word : Binds K a.d_cut_word ["text", "spot"] []
  m_cut_number : mg "cut_number" = some (.ref a.f_cut_number)
  F_cut_number : Fun K "cut_number" "cut_number" s_cut_number a.f_cut_number a.d_cut_number
  b_cut_number : Binds K a.d_cut_number ["text", "spot"] []
  m_brackets_behind : mg "brackets_behind" = some (.ref a.f_brackets_behind)
  F_brackets_behind : Fun K "brackets_behind" "brackets_behind" s_brackets_behind a.f_brackets_behind a.d_brackets_behind
  b_brackets_behind : Binds K a.d_brackets_behind ["token", "brackets"] []
  m_is_name : mg "is_name" = some (.ref a.f_is_name)
  F_is_name : Fun K "is_name" "is_name" s_is_name a.f_is_name a.d_is_name
  b_is_name : Binds K a.d_is_name ["text"] []
  m_law_hand : mg "_law_hand" = some (.ref a.f_law_hand)
  F_law_hand : Fun K "_law_hand" "_law_hand" s_law_hand a.f_law_hand a.d_law_hand
  b_law_hand : Binds K a.d_law_hand ["_law_script"] []
  m_law_mixed : mg "_law_mixed" = some (.ref a.f_law_mixed)
  F_law_mixed : Fun K "_law_mixed" "_law_mixed" s_law_mixed a.f_law_mixed a.d_law_mixed
  b_law_mixed : Binds K a.d_law_mixed ["_law_number", "_law_turn"] []
  m_law_take : mg "_law_take" = some (.ref a.f_law_take)
  F_law_take : Fun K "_law_take" "_law_take" s_law_take a.f_law_take a.d_law_take
  b_law_take : Binds K a.d_law_take ["_law_hand_here", "_law_many"] []
  m_law_whole : mg "_law_whole" = some (.ref a.f_law_whole)
  F_law_whole : Fun K "_law_whole" "_law_whole" s_law_whole a.f_law_whole a.d_law_whole
  b_law_whole : Binds K a.d_law_whole ["_law_thing"] []
  m_law_piece : mg "_law_piece" = some (.ref a.f_law_piece)
  F_law_piece : Fun K "_law_piece" "_law_piece" s_law_piece a.f_law_piece a.d_law_piece
  b_law_piece : Binds K a.d_law_piece ["_law_hand_here"] []
  m_law_end_of : mg "_law_end_of" = some (.ref a.f_law_end_of)
  F_law_end_of : Fun K "_law_end_of" "_law_end_of" s_law_end_of a.f_law_end_of a.d_law_end_of
  b_law_end_of : Binds K a.d_law_end_of ["_law_text", "_law_at", "_law_signs"] []
  m_law_sign_at : mg "_law_sign_at" = some (.ref a.f_law_sign_at)
  F_law_sign_at : Fun K "_law_sign_at" "_law_sign_at" s_law_sign_at a.f_law_sign_at a.d_law_sign_at
  b_law_sign_at : Binds K a.d_law_sign_at ["_law_text", "_law_at"] []
  m_law_cut_told : mg "_law_cut_told" = some (.ref a.f_law_cut_told)
  F_law_cut_told : Fun K "_law_cut_told" "_law_cut_told" s_law_cut_told a.f_law_cut_told a.d_law_cut_told
  b_law_cut_told : Binds K a.d_law_cut_told ["_law_text", "_law_most"] []
  m_law : mg "law" = some (.ref a.f_law)
  F_law : Fun K "law" "law" s_law a.f_law a.d_law
  b_law : Binds K a.d_law ["_law_script"] []
  m_BadText : mg "BadText" = some (.ref a.c_BadText)
  x_BadText : OexC K a.c_BadText
  xf_BadText : XfC K a.c_BadText
  xi_BadText : PySem.W.findIn K (.ref a.c_BadText) "__init__" = some (some (.ref a.f_BadText___init__))
  xt_BadText : PySem.W.typeIn K (.ref a.f_BadText___init__) = some (.type "function")
  xe_BadText : PySem.W.exmOne K (.ref a.c_BadText) (.ref a.c_BadText) = some true
  xn_BadText_spot : PySem.W.findIn K (.ref a.c_BadText) "spot" = some none
  xn_BadText_what : PySem.W.findIn K (.ref a.c_BadText) "what" = some none
  F_BadText___init__ : Fun K "__init__" "BadText.__init__" s_BadText___init__ a.f_BadText___init__ a.d_BadText___init__
  b_BadText___init__ : Binds K a.d_BadText___init__ ["self", "spot", "what"] []
  g_MOST_NUMBER : ∃ u, mg "MOST_NUMBER" = some u ∧ RelV (.int 4095) u
  g_LETTERS : ∃ u, mg "LETTERS" = some u ∧ RelV (.str "abcdefghijklmnopqrstuvwxyz") u
  g_FIGURES : ∃ u, mg "FIGURES" = some u ∧ RelV (.str "0123456789") u
  g_KEYWORDS : ∃ u, mg "KEYWORDS" = some u ∧ RelV (.ref a.p_KEYWORDS) u
  t_KEYWORDS : ∀ H, SqT K H a.p_KEYWORDS [.str "fun", .str "let", .str "repeat", .str "if", .str "else", .str "give", .str "pick", .str "table", .str "routine", .str "from", .str "loop", .str "until", .str "fi", .str "local", .str "end", .str "call", .str "back"]
  g_SIGNS : ∃ u, mg "SIGNS" = some u ∧ RelV (.ref a.p_SIGNS) u
  t_SIGNS : ∀ H, SqT K H a.p_SIGNS [.str "<=>", .str "==", .str "<<", .str ">>", .str "+=", .str "-=", .str "^=", .str "{", .str "}", .str "(", .str ")", .str "[", .str "]", .str ",", .str ";", .str "=", .str "+", .str "-", .str "*", .str "&", .str "|", .str "^", .str "<"]
  g_MOST_NAME : ∃ u, mg "MOST_NAME" = some u ∧ RelV (.int 8) u
  g_MOST_BRACKETS : ∃ u, mg "MOST_BRACKETS" = some u ∧ RelV (.int 20) u
  z_abs : mg "abs" = none
  z_bool : mg "bool" = none
  z_int : mg "int" = none
  z_isinstance : mg "isinstance" = none
  z_len : mg "len" = none
  z_list : mg "list" = none
  z_max : mg "max" = none
  z_range : mg "range" = none
  z_str : mg "str" = none
  z_tuple : mg "tuple" = none
/-! ### steps of readings -/
theorem cx_K {CX : CXT} {P : Program} {w : World} {K : PySem.W.Frag} {mg : Str → Option Value} {base : Heap} {N : List Str} {qual : Str} {scope : Scope} {f : Addr} {cd : Value} {A : Around} {outer : List Env} {s : Shared} {H : Hp} {E : XK} :
    (cxOf CX P w K mg base N qual scope f cd A outer s H E).K = K := rfl
theorem ixl {K : PySem.W.Frag} {H : Hp} {p : Addr} {xs : List V} {i : Int} {v : V} {Q : VK} (h : SqL K H p xs) (e : atI xs i = some v) (q : Q v H) : rIxL K (.ref p) (.int i) H Q := ⟨p, xs, i, v, rfl, rfl, h, e, q⟩
theorem setl {H : Hp} {p : Addr} {xs : List V} {k : Int} {j : Nat} {v : V} {Q : Hp → Prop} (h : H p = some (.lst xs)) (e : ixN xs.length k = some j) (q : Q (upd H p (.lst (xs.set j v)))) : rSetL (.ref p) (.int k) v H Q := ⟨p, xs, k, j, rfl, rfl, h, e, q⟩
theorem atI_int {ns : List Int} {i : Int} (h0 : 0 ≤ i) (h1 : i < (ns.length : Int)) : ∃ z, z ∈ ns ∧ atI (ns.map V.int) i = some (.int z) := by
  obtain ⟨k, rfl⟩ : ∃ k : Nat, i = (k : Int) := ⟨i.toNat, by omega⟩
  have hk : k < ns.length := by omega
  exact ⟨ns[k], List.getElem_mem hk, atI_nat (by rw [List.getElem?_map, List.getElem?_eq_getElem hk] <;> rfl)⟩
theorem str1 {a b : Nat} : ((⟨#[a]⟩ : Str) = ⟨#[b]⟩) = (a = b) := by
  apply propext
  constructor
  · intro h
    have q : (#[a] : Array Nat) = #[b] := congrArg Str.cps h
    have q2 : ([a] : List Nat) = [b] := congrArg Array.toList q
    exact (List.cons.inj q2).1
  · intro h; rw [h]
theorem int_at {ns : List Int} {i : Nat} {x : V} (h : (ns.map V.int)[i]? = some x) : ∃ z, ns[i]? = some z ∧ x = .int z := by
  rw [List.getElem?_map] at h
  cases e : ns[i]? with
  | none => rw [e] at h; cases h
  | some z => rw [e] at h; exact ⟨z, rfl, (Option.some.inj h).symm⟩
/-- C(x, ..) made: what is asked once the arguments stand -/
def mkO (C : Addr) (sp : Sp) (dvs : List V) (vs : List V) (H1 : Hp) (Q : XK) : Prop := vs.length ≤ 1000 ∧ ∀ e, H1 e = none → sp (.ref e :: (vs ++ dvs)) (upd H1 e (exo e C none))
  (fun v H2 => v = .non ∧ ∃ (d : Addr) (fs : List (Str × V)), H2 e = some (exo e C (some d)) ∧ H2 d = some (exd d fs) ∧ H1 d = none ∧ Q (.ref C) (some d) (upd (del H2 e) d (.xd fs))) (fun _ _ _ => False)
theorem tMkO_eq {C : Addr} {sp : Sp} {dvs : List V} {ta : TA} : tMkO C sp dvs ta = fun σ H Q => ta σ H fun vs H1 => mkO C sp dvs vs H1 Q := rfl
/-- what a comprehension asks behind its iterator's making -/
def LcG (J : It) (g : TG) (tt : TT) (te : TE) (vs : List Nat) (σ : L2.St) (Q : VK) (H1 : Hp) : Prop := ∀ D, H1 D = none → ∃ W : Nat → Nat → Hp → Prop, (∃ m, W 0 m (upd H1 D (.lst []))) ∧ ∀ i m H, W i m H →
  (J.stop i H ∧ Q (.ref D) H) ∨ (J.go i H ∧ ∃ Nx : Hp → Prop, (∀ H', Nx H' → ∃ m', m' < m ∧ W (i + 1) m' H') ∧ ∀ x H', J.yld i H x H' → g x (wipe σ vs) H' fun σ2 H2 => wipe σ2 vs = wipe σ vs ∧ tt σ2 H2 fun b H3 =>
    if b = true then te σ2 H3 fun y H4 => ∃ acc, H4 D = some (.lst acc) ∧ acc.length < sizeLine ∧ Nx (upd H4 D (.lst (acc ++ [y]))) else Nx H3)
theorem tLc_eq {wi : TI} {g : TG} {tt : TT} {te : TE} {vs : List Nat} : tLc wi g tt te vs = fun σ H Q => wi σ H fun J H1 => LcG J g tt te vs σ Q H1 := rfl
theorem lcg_range {lo : Int} {n : Nat} {g : TG} {tt : TT} {te : TE} {vs : List Nat} {σ : L2.St} {H1 : Hp} {Q : VK} (Pv : Addr → Nat → Hp → Prop) (h0 : ∀ D, H1 D = none → Pv D 0 (upd H1 D (.lst [])))
    (hs : ∀ D i H, H1 D = none → i < n → Pv D i H → g (.int (lo + i)) (wipe σ vs) H fun σ2 H2 => wipe σ2 vs = wipe σ vs ∧ tt σ2 H2 fun b H3 =>
      if b = true then te σ2 H3 fun y H4 => ∃ acc, H4 D = some (.lst acc) ∧ acc.length < sizeLine ∧ Pv D (i + 1) (upd H4 D (.lst (acc ++ [y]))) else Pv D (i + 1) H3) (hd : ∀ D H, H1 D = none → Pv D n H → Q (.ref D) H) : LcG (Itr lo n) g tt te vs σ Q H1 :=
  fun D hD => lc_range (Qd := fun H => Q (.ref D) H) (Pv D) (h0 D hD) (fun i H hi h => hs D i H hD hi h) fun H h => hd D H hD h
theorem lcg_list {K : PySem.W.Frag} {a : Addr} {xs : List V} {g : TG} {tt : TT} {te : TE} {vs : List Nat} {σ : L2.St} {H1 : Hp} {Q : VK} (Pv : Addr → Nat → Hp → Prop) (h0 : ∀ D, H1 D = none → Pv D 0 (upd H1 D (.lst []))) (hl : ∀ D i H, H1 D = none → i ≤ xs.length → Pv D i H → SqL K H a xs)
    (hs : ∀ D i x H, H1 D = none → xs[i]? = some x → Pv D i H → g x (wipe σ vs) H fun σ2 H2 => wipe σ2 vs = wipe σ vs ∧ tt σ2 H2 fun b H3 =>
      if b = true then te σ2 H3 fun y H4 => ∃ acc, H4 D = some (.lst acc) ∧ acc.length < sizeLine ∧ Pv D (i + 1) (upd H4 D (.lst (acc ++ [y]))) else Pv D (i + 1) H3) (hd : ∀ D H, H1 D = none → Pv D xs.length H → Q (.ref D) H) : LcG (Itl K a) g tt te vs σ Q H1 :=
  fun D hD => lc_list (Qd := fun H => Q (.ref D) H) (Pv D) (h0 D hD) (fun i H hi h => hl D i H hD hi h) (fun i x H hi h => hs D i x H hD hi h) fun H h => hd D H hD h
local macro_rules | `(tactic| walk_at "cmul") => `(tactic| first | exact .inl ⟨by omega, by omega⟩ | exact .inr ⟨by omega, by omega⟩)
local macro_rules | `(tactic| walk_at "r1") => `(tactic| first | refine ⟨_, rfl, ?_⟩ | refine ⟨_, _, rfl, rfl, ?_⟩ | refine Or.inl ⟨_, rfl, ?_⟩)
local macro_rules | `(tactic| walk_at "sm") => `(tactic| try simp only [tSeq, tAsg, tRet, tRetN, tDrop, tOp, tUn, tVar, tC, tCB, tCons, tNil, tLst, tTup, tTest, tB, tAnd, tOr, tNot, tAndV, tOrV, tNotV, tIf, tIfS, tNext, tCont, tBreak, tCall, tCallS, WE, tXf, rI0, rI, rU, gName, gNil, gCons, gTup, gSub, tAug, tBM, tBM0, tM1, rNewStrs, tLc_eq, iRng1, iRng2, iList, iTup, tYes, wipe, List.foldl_cons, List.foldl_nil, rEq, rNe, scal, rIxS, rSlS, tSl, tPart, tNoPart, tChain, ipI, str1, tMkO_eq, L2.start, List.map_cons, List.map_nil, List.append_nil, List.cons_append, List.nil_append, List.length_cons, List.length_nil, List.drop, List.replicate, List.getElem?_cons_zero, List.getElem?_cons_succ, List.set_cons_zero, List.set_cons_succ, Option.some.injEq, V.int.injEq, V.str.injEq, V.ref.injEq, V.bl.injEq, List.cons.injEq, reduceCtorEq, false_and, and_false, exists_false, or_false, false_or, exists_eq_left', exists_eq_left, and_assoc, cx_K, exists_and_left, exists_and_right, and_true, true_and, decide_eq_true_eq, if_true, if_false, Bool.false_eq_true])
local macro_rules | `(tactic| walk_at "rm") => `(tactic| refine ⟨by walk_at "cmul", ?_⟩)

/-! ### a target that is a field of an exception that is being made -/
def gOst (K : PySem.W.Frag) (f : Str) (to : TE) : TG := fun y σ H Q => to σ H fun x H2 => ∃ a C : Addr, x = .ref a ∧ OexC K C ∧ PySem.W.findIn K (.ref C) f = some none ∧
  ((H2 a = some (exo a C none) ∧ ∀ dx, H2 dx = none → dx ≠ a → Q σ (upd (upd H2 dx (exd dx [(f, y)])) a (exo a C (some dx)))) ∨
    ∃ (dx : Addr) (fs : List (Str × V)), H2 a = some (exo a C (some dx)) ∧ H2 dx = some (exd dx fs) ∧ fs.length ≤ 900 ∧ Q σ (upd H2 dx (exd dx ((f, y) :: fs))))
theorem pg_ost {X : Cx} {o : Expr} {to : TE} {f : Str} {pos : Pos} (ho : PE X o to) : PG X (.Attribute o f pos) (gOst X.K f to) := by
  refine ⟨fun pins s σ H v u Q I r h => ?_⟩
  rw [assign_Attribute]
  refine wpAny_bind (wpAny_holding (thn (ho.run pins s σ H _ I h) fun ov s1 ⟨x, H1, I1, r1, q1⟩ => ?_))
  refine wpAny_bind (wpAny_standAt (wpAny_bind (wpAny_holding ?_)))
  obtain ⟨a, C, rfl, T, hno, q⟩ := q1
  obtain rfl : ov = Value.ref a := r1
  rcases q with ⟨ea, q⟩ | ⟨dx, fs, ea, ed, hl, q⟩
  · exact ost_new T I1 ea hno r fun dx s' n ne J => wpAny_release ⟨σ, _, J, q dx n ne⟩
  · exact ost_old T I1 ea ed hl hno r fun s' J => wpAny_release ⟨σ, _, J, q⟩

/-- all but p is kept -/
def Fr (p : Addr) (H H' : Hp) : Prop := ∀ b o, b ≠ p → H b = some o → H' b = some o
theorem Fr.refl {p : Addr} (H : Hp) : Fr p H H := fun _ _ _ h => h
theorem Fr.trans {p : Addr} {H H1 H2 : Hp} (a : Fr p H H1) (b : Fr p H1 H2) : Fr p H H2 := fun c o n h => b c o n (a c o n h)
theorem Fr.of {p : Addr} {H H1 : Hp} (a : Evl.Ex H H1) : Fr p H H1 := fun c o _ h => a c o h
theorem Fr.upd {p : Addr} {H : Hp} {o : HO} : Fr p H (upd H p o) := fun c u n h => by rw [upd_ne n]; exact h
/-- what is not known of H stays so -/
def spInit2 (C : Addr) (f1 f2 : Str) : Sp := fun vs H Q _ => ∃ (e : Addr) (x y : V), vs = [.ref e, x, y] ∧ H e = some (exo e C none) ∧
  ∀ (d : Addr) (H' : Hp), H d = none → d ≠ e → Fr e H H' → H' e = some (exo e C (some d)) → H' d = some (exd d [(f2, y), (f1, x)]) → Q .non H'
/-- what is asked where C(x, y) is raised -/
theorem mk2 {C : Addr} {f1 f2 : Str} {x y : V} {H1 : Hp} {Q : XK} (k : ∀ (d : Addr) (H' : Hp), Evl.Ex H1 H' → H' d = some (.xd [(f2, y), (f1, x)]) → Q (.ref C) (some d) H') :
    mkO C (spInit2 C f1 f2) [] [x, y] H1 Q := by
  refine ⟨by show 2 ≤ 1000; omega, fun e he => ⟨e, x, y, rfl, upd_same, fun d H' hd hne hf h1 h2 => ⟨rfl, d, _, h1, h2, ?_, ?_⟩⟩⟩
  · rw [upd_ne hne] at hd
    exact hd
  · refine k d _ (fun b o hb => ?_) upd_same
    have nbe : b ≠ e := ne_of_none hb he
    rw [upd_ne hne] at hd
    have nbd : b ≠ d := ne_of_none hb hd
    rw [upd_ne nbd, del_ne nbe]
    exact hf b o nbe (by rw [upd_ne nbe]; exact hb)

section
variable {P : Program} {w : World} {K : PySem.W.Frag} {mg : Str → Option Value} {base : Heap} {a : Ad}
/-! ### BadText(spot, what) -/
theorem ok_BadText_init (T : Txt K mg a) : FnOk P w K mg base CX0 1 a.f_BadText___init__ a.d_BadText___init__ ["self", "spot", "what"] (spInit2 a.c_BadText "spot" "what") := by
  refine T.F_BadText___init__.ok sc_BadText___init__ (fun vs H Q E h => ?_) (fun cdv A outer s H vs Q E hr h => ?_)
  · obtain ⟨e, x, y, rfl, _⟩ := h
    rfl
  · obtain ⟨e, x, y, rfl, he, k⟩ := h
    refine ⟨_, pss_one (ps_asg (pe_tup (pa_cons (pv 1) (pa_cons (pv 2) pa_nil))) (pg_tup rfl (pgs_cons (pg_ost (pv 0)) (pgs_cons (pg_ost (pv 0)) pgs_nil)))), ?_⟩
    refine ⟨_, rfl, _, rfl, (by show 2 ≤ sizeLine; decide), fun t ht => ?_⟩
    have net : e ≠ t := ne_of_none he ht
    refine ⟨t, _, rfl, .inl (.inl upd_same), rfl, _, _, rfl, _, rfl, e, a.c_BadText, rfl, T.x_BadText, T.xn_BadText_spot, .inl ⟨by rw [upd_ne net]; exact he, fun dx hdx hne => ?_⟩⟩
    have ndt : dx ≠ t := fun q => by rw [q, upd_same] at hdx; cases hdx
    have hd0 : H dx = none := by rw [upd_ne ndt] at hdx; exact hdx
    refine ⟨_, _, rfl, _, rfl, e, a.c_BadText, rfl, T.x_BadText, T.xn_BadText_what, .inr ⟨dx, [("spot", x)], upd_same, by rw [upd_ne hne, upd_same], (by show 1 ≤ 900; omega), rfl, ?_⟩⟩
    refine k dx _ hd0 hne (fun b o nb hb => ?_) (by rw [upd_ne (Ne.symm hne), upd_same]) upd_same
    rw [upd_ne (ne_of_none hb hd0), upd_ne nb, upd_ne (ne_of_none hb hd0), upd_ne (ne_of_none hb ht)]
    exact hb
/-! ### the hand -/
/-- a hand stands at p: the script's cells, how many of them are taken, the rest of a great one, the mixed sum -/
def HandAt (H : Hp) (p c : Addr) : Prop := ∃ (cells : List Int) (i g t : Int), H p = some (.lst [.ref c, .int i, .int g, .int t]) ∧ H c = some (.lst (cells.map V.int)) ∧
  cells.length ≤ 63 ∧ (∀ x ∈ cells, 0 ≤ x) ∧ 0 ≤ i ∧ i ≤ 63 ∧ 0 ≤ g ∧ 0 ≤ t ∧ t < 2147483549
def spHand (K : PySem.W.Frag) : Sp := fun vs H Q _ => ∃ (s : Addr) (ns : List Int), vs = [.ref s] ∧ SqL K H s (ns.map V.int) ∧ ns.length ≤ 63 ∧
  ∀ p c H', H p = none → Evl.Ex H H' → HandAt H' p c → Q (.ref p) H'
def ivHand (H : Hp) (sc l : Addr) (ns : List Int) : Nat → L2.St → Hp → Prop := fun i σ H' => ∃ (t : Int) (cells : List Int) (v : Option V), σ = [some (.ref sc), some (.int t), some (.ref l), v] ∧
  H' l = some (.lst (cells.map V.int)) ∧ cells.length = i ∧ i ≤ ns.length ∧ (∀ x ∈ cells, 0 ≤ x) ∧ 0 ≤ t ∧ t < 2147483549 ∧ Evl.Ex H H'
theorem ok_law_hand (T : Txt K mg a) : FnOk P w K mg base CX0 1 a.f_law_hand a.d_law_hand ["_law_script"] (spHand K) := by
  refine T.F_law_hand.ok sc_law_hand (fun vs H Q E h => ?_) (fun cdv A outer s H vs Q E hr h => ?_)
  · obtain ⟨_, _, rfl, _⟩ := h
    rfl
  · obtain ⟨sc, ns, rfl, hS, hl, k⟩ := h
    refine ⟨_, (pss_cons (ps_set (i := 1) sc_law_hand.nd rfl (by first | exact Or.inl rfl | exact Or.inr rfl) (pe_op op_add (pe_callB call_len_seq (by rfl) T.z_len (by decide +kernel) (pa_cons (pv 0) pa_nil)) pe_int))
  (pss_cons (ps_set (i := 2) sc_law_hand.nd rfl (by first | exact Or.inl rfl | exact Or.inr rfl) (pe_lst pa_nil))
  (pss_cons (ps_for PassesOwn.never rfl (pi_list (pv 0)) (pg_name (i := 3) sc_law_hand.nd rfl (by first | exact Or.inl rfl | exact Or.inr rfl)) (pss_cons (ps_set (i := 1) sc_law_hand.nd rfl (by first | exact Or.inl rfl | exact Or.inr rfl) (pe_op op_mod (pe_callTy call_int1 (by rfl) T.z_int (by decide +kernel) (pa_cons (pe_op op_add (pe_op op_mul (pv 1) pe_int) (pe_callTy call_int1 (by rfl) T.z_int (by decide +kernel) (pa_cons (pv 3) pa_nil))) pa_nil)) pe_int))
  (pss_one (ps_expr (pe_bm PySem.F.plainAttrs_list PySem.F.slot_list_append PySem.F.type_list_append mt_append (pv 2) (pa_cons (pe_callB call_abs (by rfl) T.z_abs (by decide +kernel) (pa_cons (pe_callTy call_int1 (by rfl) T.z_int (by decide +kernel) (pa_cons (pv 3) pa_nil)) pa_nil)) pa_nil))))))
  (pss_one (ps_ret (pe_lst (pa_cons (pv 2) (pa_cons pe_int (pa_cons pe_int (pa_cons (pv 1) pa_nil)))))))))), ?_⟩
    walk_at "sm"
    refine ⟨_, .inl hS, by decide, fun l hl0 => ?_⟩
    have nls : ∀ {b o}, H b = some o → b ≠ l := fun hb => ne_of_none hb hl0
    refine ⟨_, rfl, sc, rfl, ⟨_, Evl.ex_l (Evl.Ex.new hl0) hS⟩, for_list (K := K) (a := sc) (xs := ns.map V.int) (ivHand H sc l ns) ⟨_, [], none, rfl, upd_same, rfl, Nat.zero_le _, (by intro x hx; cases hx), ?_, ?_, Evl.Ex.new hl0⟩ (fun i σ H' _ ⟨_, _, _, _, _, _, _, _, _, _, e⟩ => Evl.ex_l e hS) ?_ ?_⟩
    · rw [List.length_map]; omega
    · rw [List.length_map]; omega
    · rintro i y σ H' hi ⟨t, cells, v, rfl, h1, h2, h3, h4, h5, h6, h7⟩
      obtain ⟨z, hz, rfl⟩ := int_at hi
      have hi' := (List.getElem?_eq_some_iff.mp hz).1
      walk_at "sm"
      refine ⟨.inl ⟨by omega, by omega⟩, by decide, .inl ⟨rfl, _, SqL.of h1⟩, l, _, _, rfl, rfl, h1, ?_, ?_⟩
      · rw [List.length_map]; exact Nat.lt_of_lt_of_le (by omega : cells.length < 100) (by decide)
      · refine ⟨_, cells ++ [if z < 0 then -z else z], _, rfl, by rw [upd_same, List.map_append]; rfl, by rw [List.length_append, h2]; rfl, by omega, ?_, Int.emod_nonneg _ (by decide), ?_, Evl.Ex.mut h7 hl0⟩
        · intro x hx
          rcases List.mem_append.mp hx with hx | hx
          · exact h4 x hx
          · rw [List.mem_singleton] at hx
            subst hx
            split <;> omega
        · have := Int.emod_lt_of_pos (t * 2017 + z) (show (0 : Int) < 2147483543 by decide)
          omega
    · rintro σ H' ⟨t, cells, v, rfl, h1, h2, h3, h4, h5, h6, h7⟩
      walk_at "sm"
      refine ⟨by decide, fun p hp => ?_⟩
      refine k p l _ (Evl.fresh_back h7 hp) (h7.trans (Evl.Ex.new hp)) ⟨cells, 0, 0, t, upd_same, by rw [upd_ne (ne_of_none h1 hp)]; exact h1, ?_, h4, by decide, by decide, by decide, h5, h6⟩
      rw [h2, List.length_map]; exact hl
def spMixed : Sp := fun vs H Q _ => ∃ (n t : Int), vs = [.int n, .int t] ∧ 0 ≤ n ∧ n < 2147483600 ∧ 0 ≤ t ∧ t ≤ 64 ∧ ∀ r, 0 ≤ r → Q (.int r) H
theorem ok_law_mixed (T : Txt K mg a) : FnOk P w K mg base CX0 1 a.f_law_mixed a.d_law_mixed ["_law_number", "_law_turn"] spMixed := by
  refine T.F_law_mixed.ok sc_law_mixed (fun vs H Q E h => ?_) (fun cdv A outer s H vs Q E hr h => ?_)
  · obtain ⟨_, _, rfl, _⟩ := h
    rfl
  · obtain ⟨n, t, rfl, h1, h2, h3, h4, k⟩ := h
    refine ⟨_, (pss_cons (ps_set (i := 2) sc_law_mixed.nd rfl (by first | exact Or.inl rfl | exact Or.inr rfl) (pe_op op_mod (pe_callTy call_int1 (by rfl) T.z_int (by decide +kernel) (pa_cons (pe_op op_add (pe_op op_add (pe_op op_mul (pv 0) pe_int) (pe_op op_mul (pv 1) pe_int)) pe_int) pa_nil)) pe_int))
  (pss_cons (ps_set (i := 3) sc_law_mixed.nd rfl (by first | exact Or.inl rfl | exact Or.inr rfl) (pe_op op_mod (pe_callTy call_int1 (by rfl) T.z_int (by decide +kernel) (pa_cons (pe_op op_add (pe_op op_add (pe_op op_mul (pv 2) (pv 2)) (pe_op op_mul (pv 1) pe_int)) (pe_op op_fdiv (pv 2) pe_int)) pa_nil)) pe_int))
  (pss_one (ps_ret (pe_op op_fdiv (pe_callTy call_int1 (by rfl) T.z_int (by decide +kernel) (pa_cons (pe_op op_mod (pe_callTy call_int1 (by rfl) T.z_int (by decide +kernel) (pa_cons (pe_op op_add (pe_op op_mul (pv 3) pe_int) (pe_op op_fdiv (pv 2) pe_int)) pa_nil)) pe_int) pa_nil)) pe_int))))), ?_⟩
    walk_at "sm"
    have e1 := Int.emod_nonneg (n * 40014 + t * 7331 + 60013) (show (2147483399 : Int) ≠ 0 by decide)
    have e2 := Int.emod_lt_of_pos (n * 40014 + t * 7331 + 60013) (show (0 : Int) < 2147483399 by decide)
    refine ⟨.inl ⟨by omega, by omega⟩, .inl ⟨by omega, by omega⟩, by decide, .inl ⟨by omega, by omega⟩, .inl ⟨by omega, by omega⟩, ⟨by decide, by decide⟩, by decide, .inr ⟨by decide, by decide⟩, ⟨by decide, by decide⟩, by decide, ⟨by decide, by decide⟩, k _ ?_⟩
    exact Int.ediv_nonneg (Int.emod_nonneg _ (by decide)) (by decide)
def spTake : Sp := fun vs H Q _ => ∃ (p c : Addr) (m : Int), vs = [.ref p, .int m] ∧ HandAt H p c ∧ 0 < m ∧ m < 1073741824 ∧
  ∀ r H', 0 ≤ r → r < m → Fr p H H' → HandAt H' p c → Q (.int r) H'
def midTake (H : Hp) (p c : Addr) (m : Int) : L2.St → Hp → Prop := fun σ' H' => ∃ v, σ' = [some (.ref p), some (.int m), v, none] ∧ Fr p H H' ∧ HandAt H' p c
theorem ok_law_take (T : Txt K mg a) : FnOk P w K mg base CX0 2 a.f_law_take a.d_law_take ["_law_hand_here", "_law_many"] spTake := by
  refine T.F_law_take.ok sc_law_take (fun vs H Q E h => ?_) (fun cdv A outer s H vs Q E hr h => ?_)
  · obtain ⟨_, _, _, rfl, _⟩ := h
    rfl
  · obtain ⟨p, c, m, rfl, ⟨cells, i, g, t, hp, hc, hl, hx, hi0, hi1, hg, ht0, ht1⟩, hm0, hm1, k⟩ := h
    refine ⟨_, (Evl.pss_cut (ps_if (PW.pt (pw_and (pt_cmpR op_eq (pe_ix ix_list (pv 0) pe_int (fun _ _ => rfl)) pe_int (nomark _)) (pw_and1 (pt_cmpR op_lt (pe_ix ix_list (pv 0) pe_int (fun _ _ => rfl)) (pe_callB call_len_seq (by rfl) T.z_len (by decide +kernel) (pa_cons (pe_ix ix_list (pv 0) pe_int (fun _ _ => rfl)) pa_nil)) (nomark _))))) (pss_cons (ps_set (i := 2) sc_law_take.nd rfl (by first | exact Or.inl rfl | exact Or.inr rfl) (pe_ix ix_list (pe_ix ix_list (pv 0) pe_int (fun _ _ => rfl)) (pe_ix ix_list (pv 0) pe_int (fun _ _ => rfl)) (fun _ _ => rfl)))
  (pss_cons (ps_asg (pe_op op_add (pe_ix ix_list (pv 0) pe_int (fun _ _ => rfl)) pe_int) (pg_sub (pv 0) pe_int set_list (by intro _; rfl)))
  (pss_cons (ps_if (pt_cmpR op_lt (pv 2) (pe_op op_pow pe_int pe_int) (nomark _)) (pss_one (ps_ret (pe_op op_mod (pe_callTy call_int1 (by rfl) T.z_int (by decide +kernel) (pa_cons (pe_call (ok_law_mixed T) (hr.mono (by decide)) rfl T.m_law_mixed T.F_law_mixed.kp T.b_law_mixed .nil pass0 (pa_cons (pe_op op_mod (pe_callTy call_int1 (by rfl) T.z_int (by decide +kernel) (pa_cons (pv 2) pa_nil)) pe_int) (pa_cons (pe_ix ix_list (pv 0) pe_int (fun _ _ => rfl)) pa_nil))) pa_nil)) (pv 1))))
    pss_nil)
  (pss_one (ps_asg (pv 2) (pg_sub (pv 0) pe_int set_list (by intro _; rfl)))))))
    pss_nil)
  (pss_cons (ps_if (pt_cmpR op_gt (pe_ix ix_list (pv 0) pe_int (fun _ _ => rfl)) pe_int (nomark _)) (pss_cons (ps_set (i := 3) sc_law_take.nd rfl (by first | exact Or.inl rfl | exact Or.inr rfl) (pe_ix ix_list (pv 0) pe_int (fun _ _ => rfl)))
  (pss_cons (ps_asg (pe_op op_fdiv (pe_callTy call_int1 (by rfl) T.z_int (by decide +kernel) (pa_cons (pv 3) pa_nil)) (pv 1)) (pg_sub (pv 0) pe_int set_list (by intro _; rfl)))
  (pss_one (ps_ret (pe_op op_mod (pe_callTy call_int1 (by rfl) T.z_int (by decide +kernel) (pa_cons (pv 3) pa_nil)) (pv 1))))))
    pss_nil)
  (pss_cons (ps_asg (pe_op op_mod (pe_callTy call_int1 (by rfl) T.z_int (by decide +kernel) (pa_cons (pe_op op_add (pe_ix ix_list (pv 0) pe_int (fun _ _ => rfl)) pe_int) pa_nil)) pe_int) (pg_sub (pv 0) pe_int set_list (by intro _; rfl)))
  (pss_one (ps_ret (pe_op op_mod (pe_callTy call_int1 (by rfl) T.z_int (by decide +kernel) (pa_cons (pe_call (ok_law_mixed T) (hr.mono (by decide)) rfl T.m_law_mixed T.F_law_mixed.kp T.b_law_mixed .nil pass0 (pa_cons (pe_ix ix_list (pv 0) pe_int (fun _ _ => rfl)) (pa_cons (pe_ix ix_list (pv 0) pe_int (fun _ _ => rfl)) pa_nil))) pa_nil)) (pv 1))))))), ?_⟩
    walk_at "sm"
    have ncp : c ≠ p := ne_of hc hp (by intro q; injection q with q; cases cells with
      | nil => cases q
      | cons x r => injection q with q _; cases q)
    refine ⟨midTake H p c m, ?_, ?_⟩
    · walk_at "sm"
      have sK : SqL K H p [.ref c, .int i, .int g, .int t] := SqL.of hp
      refine ixl sK rfl ?_
      walk_at "sm"
      refine ite2 (fun cg => ?_) (fun cg => ⟨_, rfl, Fr.refl H, cells, i, g, t, hp, hc, hl, hx, hi0, hi1, hg, ht0, ht1⟩)
      refine ixl sK rfl (ixl sK rfl ?_)
      walk_at "sm"
      refine ⟨_, .inl (SqL.of hc), ?_⟩
      walk_at "sm"
      refine ite2 (fun ci => ?_) (fun ci => ⟨_, rfl, Fr.refl H, cells, i, g, t, hp, hc, hl, hx, hi0, hi1, hg, ht0, ht1⟩)
      rw [List.length_map] at ci
      obtain ⟨z, hz, ez⟩ := atI_int hi0 ci
      have hz0 := hx z hz
      refine ixl sK rfl (ixl sK rfl (ixl (SqL.of hc) ez (ixl sK rfl ?_)))
      walk_at "sm"
      refine setl hp rfl ?_
      have hp1 : (upd H p (.lst [.ref c, .int (i + 1), .int g, .int t])) p = some (.lst [.ref c, .int (i + 1), .int g, .int t]) := upd_same
      have hc1 : (upd H p (.lst [.ref c, .int (i + 1), .int g, .int t])) c = some (.lst (cells.map V.int)) := by rw [upd_ne ncp]; exact hc
      refine ⟨⟨by decide, by decide, by decide⟩, ite2 (fun cz => ?_) (fun cz => ?_)⟩
      · refine ⟨by decide, ixl (SqL.of hp1) rfl ⟨_, _, rfl, Int.emod_nonneg _ (by decide), ?_, by omega, by omega, fun r hr0 => ?_⟩⟩
        · have := Int.emod_lt_of_pos z (show (0 : Int) < 2147483399 by decide)
          omega
        · walk_at "sm"
          exact ⟨hm0, k _ _ (Int.emod_nonneg _ (by omega)) (Int.emod_lt_of_pos _ hm0) Fr.upd ⟨cells, i + 1, g, t, hp1, hc1, hl, hx, by omega, by omega, hg, ht0, ht1⟩⟩
      · refine setl hp1 rfl ⟨_, rfl, Fr.upd.trans Fr.upd, cells, i + 1, z, t, upd_same, by rw [upd_ne ncp]; exact hc1, hl, hx, by omega, by omega, hz0, ht0, ht1⟩
    · rintro σ' H' ⟨v, rfl, f, cells', i', g', t', hp', hc, hl', hx', hi0', hi1', hg', ht0', ht1'⟩
      have ncp' : c ≠ p := ne_of hc hp' (by intro q; injection q with q; cases cells' with
        | nil => cases q
        | cons x r => injection q with q _; cases q)
      walk_at "sm"
      have sK : SqL K H' p [.ref c, .int i', .int g', .int t'] := SqL.of hp'
      refine ixl sK rfl ?_
      walk_at "sm"
      refine ite2 (fun cg => ?_) (fun cg => ?_)
      · refine ixl sK rfl ?_
        walk_at "sm"
        refine ⟨⟨hm0, hm1⟩, setl hp' rfl ⟨hm0, k _ _ (Int.emod_nonneg _ (by omega)) (Int.emod_lt_of_pos _ hm0) (f.trans Fr.upd) ⟨cells', i', g' / m, t', upd_same, by rw [upd_ne ncp']; exact hc, hl', hx', hi0', hi1', Int.ediv_nonneg hg' (by omega), ht0', ht1'⟩⟩⟩
      · refine ixl sK rfl ?_
        walk_at "sm"
        have e0 := Int.emod_nonneg (t' + 1) (show (2147483549 : Int) ≠ 0 by decide)
        have e1 := Int.emod_lt_of_pos (t' + 1) (show (0 : Int) < 2147483549 by decide)
        refine ⟨by decide, setl hp' rfl ?_⟩
        have hp1 : (upd H' p (.lst [.ref c, .int i', .int g', .int ((t' + 1) % 2147483549)])) p = some (.lst [.ref c, .int i', .int g', .int ((t' + 1) % 2147483549)]) := upd_same
        refine ixl (SqL.of hp1) rfl (ixl (SqL.of hp1) rfl ⟨_, _, rfl, e0, by omega, by omega, by omega, fun r hr0 => ?_⟩)
        walk_at "sm"
        exact ⟨hm0, k _ _ (Int.emod_nonneg _ (by omega)) (Int.emod_lt_of_pos _ hm0) (f.trans Fr.upd) ⟨cells', i', g', (t' + 1) % 2147483549, hp1, by rw [upd_ne ncp']; exact hc, hl', hx', hi0', hi1', hg', e0, e1⟩⟩
end
open SX (S)
/-! ### codes -/
abbrev Cs := List Nat
def lowB (c : Nat) : Bool := decide (97 ≤ c) && decide (c ≤ 122)
def digB (c : Nat) : Bool := decide (48 ≤ c) && decide (c ≤ 57)
def alnB (c : Nat) : Bool := lowB c || digB c
def blB (c : Nat) : Bool := decide (c = 32) || decide (c = 10)
def zLow : Str := "abcdefghijklmnopqrstuvwxyz"
def zDig : Str := "0123456789"
def zAln : Str := "abcdefghijklmnopqrstuvwxyz0123456789"
def zBl : Str := " \n"
theorem of_all {l : List Nat} {p : Nat → Bool} {n : Nat} (h : ∀ c, c < n → decide (c ∈ l) = p c) (h1 : ∀ c ∈ l, c < n) (h2 : ∀ c, n ≤ c → p c = false) (c : Nat) : decide (c ∈ l) = p c := by
  by_cases hc : c < n
  · exact h c hc
  · rw [h2 c (by omega)]
    exact decide_eq_false fun q => hc (h1 c q)
theorem low_mem (c : Nat) : decide (c ∈ zLow.cps.toList) = lowB c := by
  refine of_all (n := 128) (by decide +kernel) (by decide +kernel) (fun c h => ?_) c
  unfold lowB; simp; omega
theorem dig_mem (c : Nat) : decide (c ∈ zDig.cps.toList) = digB c := by
  refine of_all (n := 128) (by decide +kernel) (by decide +kernel) (fun c h => ?_) c
  unfold digB; simp; omega
theorem aln_mem (c : Nat) : decide (c ∈ zAln.cps.toList) = alnB c := by
  refine of_all (n := 128) (by decide +kernel) (by decide +kernel) (fun c h => ?_) c
  unfold alnB lowB digB; simp; omega
theorem bl_mem (c : Nat) : decide (c ∈ zBl.cps.toList) = blB c := by
  refine of_all (n := 128) (by decide +kernel) (by decide +kernel) (fun c h => ?_) c
  unfold blB; simp; omega
theorem aln_eq : zLow ++ zDig = zAln := by decide +kernel
/-! ### slices -/
theorem cut_nat (cs : Cs) {i j : Nat} (hi : i ≤ cs.length) (hj : j ≤ cs.length) : cutS (S cs) (some (i : Int)) (some (j : Int)) = S ((cs.drop i).take (j - i)) := by
  unfold cutS
  rw [HT.sIx_nat, HT.sIx_nat]
  have e : (S cs).length = cs.length := SX.S_len cs
  rw [e, Nat.min_eq_left hi, Nat.min_eq_left hj]
theorem cut_over (cs : Cs) {i j : Nat} (hi : i ≤ cs.length) (h : i ≤ j) : cutS (S cs) (some (i : Int)) (some (j : Int)) = S ((cs.drop i).take (j - i)) := by
  unfold cutS
  rw [HT.sIx_nat, HT.sIx_nat]
  have e : (S cs).length = cs.length := SX.S_len cs
  rw [e, Nat.min_eq_left hi]
  by_cases hj : j ≤ cs.length
  · rw [Nat.min_eq_left hj]
  · rw [Nat.min_eq_right (by omega)]
    show S _ = S _
    have e1 : (cs.drop i).length = cs.length - i := List.length_drop ..
    rw [List.take_of_length_le (by show (cs.drop i).length ≤ _; omega), List.take_of_length_le (by omega)]
theorem tw_len_le {α : Type} (p : α → Bool) (l : List α) : (l.takeWhile p).length ≤ l.length := (List.takeWhile_sublist p).length_le
theorem take_tw {α : Type} (p : α → Bool) : ∀ l : List α, l.take (l.takeWhile p).length = l.takeWhile p
  | [] => rfl
  | x :: l => by
    rw [List.takeWhile_cons]
    split
    · rw [List.length_cons, List.take_succ_cons, take_tw p l]
    · rfl
theorem str_at (cs : Cs) {i : Nat} (h : i < cs.length) : atI (S cs).cps.toList (i : Int) = some cs[i] := by
  have e : (S cs).cps.toList = cs := rfl
  rw [e]
  exact atI_nat (List.getElem?_eq_getElem h)
theorem drop_at {cs : Cs} {i : Nat} (h : i < cs.length) : cs.drop i = cs[i] :: cs.drop (i + 1) := List.drop_eq_getElem_cons h
/-! ### one token -/
inductive Tk where
  | word (w : Cs) | name (w : Cs) | num (n : Nat) | sign (s : Cs)
def kws : List Cs := (["fun", "let", "repeat", "if", "else", "give", "pick", "table", "routine", "from", "loop", "until", "fi", "local", "end", "call", "back"] : List Str).map fun s => s.cps.toList
def sgs : List Cs := (["<=>", "==", "<<", ">>", "+=", "-=", "^=", "{", "}", "(", ")", "[", "]", ",", ";", "=", "+", "-", "*", "&", "|", "^", "<"] : List Str).map fun s => s.cps.toList
def Tk.kind : Tk → Str
  | .word _ => "word" | .name _ => "name" | .num _ => "number" | .sign _ => "sign"
def Tk.val : Tk → V
  | .word w => .str (S w) | .name w => .str (S w) | .num n => .int n | .sign s => .str (S s)
def Tk.v (t : Tk) (i : Nat) : List V := [.str t.kind, t.val, .int i]
def badNum (w : Cs) : Bool := decide (4 < w.length) || decide (4095 < NumText.digitsVal w) || (decide (1 < w.length) && decide (w.head? = some 48))
def tok1 (r : Cs) : Except Str (Tk × Nat) :=
  if lowB (r.headD 0) then (if 8 < (r.takeWhile alnB).length then .error "name" else .ok (if kws.contains (r.takeWhile alnB) then .word (r.takeWhile alnB) else .name (r.takeWhile alnB), (r.takeWhile alnB).length))
  else if digB (r.headD 0) then (if badNum (r.takeWhile digB) then .error "number" else .ok (.num (NumText.digitsVal (r.takeWhile digB)), (r.takeWhile digB).length))
  else match sgs.find? (fun s => s.isPrefixOf r) with
    | some s => .ok (.sign s, s.length)
    | none => .error "sign"
/-- brackets behind a token; none: too deep -/
def brk (t : Tk) (b : Nat) : Option Nat := match t with
  | .sign s => if s = [125] ∨ s = [41] ∨ s = [93] then some (b - 1) else if s = [123] ∨ s = [40] ∨ s = [91] then (if b = 20 then none else some (b + 1)) else some b
  | _ => some b
def pre (t : List (List V)) (r : Except (Nat × Str) (List (List V))) : Except (Nat × Str) (List (List V)) := match r with
  | .ok l => .ok (t ++ l)
  | .error e => .error e
theorem pre_nil (r : Except (Nat × Str) (List (List V))) : pre [] r = r := by cases r <;> rfl
theorem pre_pre (s t : List (List V)) (r : Except (Nat × Str) (List (List V))) : pre s (pre t r) = pre (s ++ t) r := by
  cases r with
  | ok l => show Except.ok (s ++ (t ++ l)) = Except.ok ((s ++ t) ++ l); rw [List.append_assoc]
  | error e => rfl
def endV (cs : Cs) : List V := [.str "end", .str "", .int cs.length]
def scan (cs : Cs) (i b : Nat) : Except (Nat × Str) (List (List V)) :=
  if h : i < cs.length then
    if blB cs[i] then scan cs (i + 1) b
    else match tok1 (cs.drop i) with
      | .error w => .error (i, w)
      | .ok (t, l) => match brk t b with
        | none => .error (i, "deep")
        | some b' => pre [t.v i] (scan cs (i + max l 1) b')
  else .ok [endV cs]
termination_by cs.length - i
theorem scan_end {cs : Cs} {i b : Nat} (h : ¬ i < cs.length) : scan cs i b = .ok [endV cs] := by
  rw [scan, dif_neg h]
theorem scan_bl {cs : Cs} {i b : Nat} (h : i < cs.length) (hb : blB cs[i] = true) : scan cs i b = scan cs (i + 1) b := by
  rw [scan, dif_pos h, if_pos hb]
theorem scan_err {cs : Cs} {i b : Nat} {w : Str} (h : i < cs.length) (hb : blB cs[i] = false) (ht : tok1 (cs.drop i) = .error w) : scan cs i b = .error (i, w) := by
  rw [scan, dif_pos h, hb, ht]
  rfl
theorem scan_deep {cs : Cs} {i b l : Nat} {t : Tk} (h : i < cs.length) (hb : blB cs[i] = false) (ht : tok1 (cs.drop i) = .ok (t, l)) (hk : brk t b = none) : scan cs i b = .error (i, "deep") := by
  rw [scan, dif_pos h, hb, ht]
  show (match brk t b with | none => _ | some b' => _) = _
  rw [hk]
theorem scan_tok {cs : Cs} {i b b' l : Nat} {t : Tk} (h : i < cs.length) (hb : blB cs[i] = false) (ht : tok1 (cs.drop i) = .ok (t, l)) (hk : brk t b = some b') (hl : 1 ≤ l) : scan cs i b = pre [t.v i] (scan cs (i + l) b') := by
  rw [scan, dif_pos h, hb, ht]
  show (match brk t b with | none => _ | some b' => _) = _
  rw [hk]
  show pre [t.v i] (scan cs (i + max l 1) b') = _
  rw [Nat.max_eq_left hl]
theorem sgs_pos : ∀ s ∈ sgs, 1 ≤ s.length ∧ s.length ≤ 3 := by decide +kernel
theorem tok1_len {r : Cs} {t : Tk} {l : Nat} (hr : r ≠ []) (h : tok1 r = .ok (t, l)) : 1 ≤ l := by
  obtain ⟨c, q, rfl⟩ : ∃ c q, r = c :: q := by
    cases r with
    | nil => exact absurd rfl hr
    | cons c q => exact ⟨c, q, rfl⟩
  unfold tok1 at h
  have e : (c :: q).headD 0 = c := rfl
  rw [e] at h
  by_cases h1 : lowB c = true
  · rw [if_pos h1] at h
    split at h
    · cases h
    · cases h
      rw [List.takeWhile_cons, if_pos (by unfold alnB; rw [h1]; rfl), List.length_cons]
      omega
  · rw [if_neg h1] at h
    by_cases h2 : digB c = true
    · rw [if_pos h2] at h
      split at h
      · cases h
      · cases h
        rw [List.takeWhile_cons, if_pos h2, List.length_cons]
        omega
    · rw [if_neg h2] at h
      split at h
      · rename_i s hs
        cases h
        exact (sgs_pos s (List.mem_of_find?_eq_some hs)).1
      · cases h
theorem tok1_le {r : Cs} {t : Tk} {l : Nat} (h : tok1 r = .ok (t, l)) : l ≤ r.length := by
  unfold tok1 at h
  split at h
  · split at h
    · cases h
    · cases h
      exact tw_len_le _ _
  · split at h
    · split at h
      · cases h
      · cases h
        exact tw_len_le _ _
    · split at h
      · rename_i s hs
        cases h
        have q := List.find?_some hs
        exact (List.isPrefixOf_iff_prefix.mp q).length_le
      · cases h

theorem sz {n : Nat} (h : n ≤ 100000) : n ≤ sizeLine := Evl.sz_of h
theorem szS {cs : Cs} (h : cs.length ≤ 100000) : (S cs).length ≤ sizeLine := by rw [SX.S_len]; exact sz h
section
variable {P : Program} {w : World} {K : PySem.W.Frag} {mg : Str → Option Value} {base : Heap} {a : Ad}
def spRow : Sp := fun vs H Q _ => ∃ (cs : Cs) (i : Nat) (z : Str) (p : Nat → Bool), vs = [.str (S cs), .int i, .str z] ∧ i ≤ cs.length ∧ cs.length ≤ 100000 ∧ (∀ c, decide (c ∈ z.cps.toList) = p c) ∧
  Q (.str (S ((cs.drop i).takeWhile p))) H
def ivRow (cs : Cs) (i : Nat) (z : Str) (p : Nat → Bool) (H : Hp) : Nat → L2.St → Hp → Prop := fun m σ H' => ∃ b : Nat, σ = [some (.str (S cs)), some (.int i), some (.str z), some (.int b)] ∧ H' = H ∧ i ≤ b ∧ b ≤ cs.length ∧ m = cs.length - b ∧
  (cs.drop i).takeWhile p = (cs.drop i).take (b - i) ++ (cs.drop b).takeWhile p
theorem ok_row_of (T : Txt K mg a) : FnOk P w K mg base CX0 1 a.f_row_of a.d_row_of ["text", "spot", "letters"] spRow := by
  refine T.F_row_of.ok sc_row_of (fun vs H Q E h => ?_) (fun cdv A outer s H vs Q E hr h => ?_)
  · obtain ⟨_, _, _, _, rfl, _⟩ := h
    rfl
  · obtain ⟨cs, i, z, p, rfl, hi, hn, hp, k⟩ := h
    refine ⟨_, (pss_cons (ps_set (i := 3) sc_row_of.nd rfl (by first | exact Or.inl rfl | exact Or.inr rfl) (pv 1))
  (pss_cons (ps_while PassesOwn.never (PW.pt (pw_and (pt_cmpR op_lt (pv 3) (pe_callB call_len_str (by rfl) T.z_len (by decide +kernel) (pa_cons (pv 0) pa_nil)) (nomark _)) (pw_and1 (pt_cmpR op_in_sign (pe_ix ix_str (pv 0) (pv 3) (fun _ _ => rfl)) (pv 2) (by rfl))))) (pss_one (ps_aug (i := 3) sc_row_of.nd rfl (by first | exact Or.inl rfl | exact Or.inr rfl) pe_int ip_add)))
  (pss_one (ps_ret (pe_slice sl_str (pv 0) (po_some (pv 1)) (po_some (pv 3))))))), ?_⟩
    walk_at "sm"
    refine ⟨ivRow cs i z p H, ⟨_, i, rfl, rfl, Nat.le_refl _, hi, rfl, by rw [Nat.sub_self]; rfl⟩, ?_⟩
    rintro m σ H' ⟨b, rfl, rfl, h1, h2, rfl, h3⟩
    walk_at "sm"
    rw [SX.S_len]
    have hz : (S cs).length ≤ sizeLine := szS hn
    rw [SX.S_len] at hz
    refine ⟨hz, ite2 (fun hb => ⟨hz, cs[b]'(by omega), str_at cs (by omega), ite2 (fun hm => ?_) (fun hm => ⟨hz, ?_⟩)⟩) (fun hb => ⟨hz, ?_⟩)⟩
    · have hb' : b < cs.length := by omega
      have pb : p cs[b] = true := by rw [← hp]; exact decide_eq_true hm
      refine ⟨fun σ' H'' => σ' = [some (V.str (S cs)), some (V.int i), some (V.str z), some (V.int ((b + 1 : Nat) : Int))] ∧ H'' = H', fun σ' H'' ⟨e1, e2⟩ => ⟨cs.length - (b + 1), by omega, b + 1, e1, e2, by omega, by omega, rfl, ?_⟩, rfl, rfl⟩
      rw [h3, drop_at hb', List.takeWhile_cons, if_pos pb]
      have e3 : b + 1 - i = (b - i) + 1 := by omega
      have e4 : (cs.drop i)[b - i]? = some cs[b] := by
        rw [List.getElem?_drop, show i + (b - i) = b by omega]
        exact List.getElem?_eq_getElem hb'
      rw [e3, List.take_add_one, e4]
      simp
    · have hb' : b < cs.length := by omega
      have pb : p cs[b] = false := by rw [← hp]; exact decide_eq_false hm
      rw [drop_at hb', List.takeWhile_cons, if_neg (by rw [pb]; decide), List.append_nil] at h3
      rw [cut_nat cs (by omega) (by omega), ← h3]
      exact k
    · have eb : b = cs.length := by omega
      have e0 : cs.drop b = [] := List.drop_eq_nil_of_le (by omega)
      rw [e0, List.takeWhile_nil, List.append_nil] at h3
      rw [cut_nat cs (by omega) (by omega), ← h3]
      exact k
end


theorem inV_str (w : Cs) (l : List Str) : inV (.str (S w)) (l.map V.str) = (l.map fun s => s.cps.toList).contains w := by
  induction l with
  | nil => rfl
  | cons s l ih =>
    show (eqV (V.str s) (V.str (S w)) || inV (.str (S w)) (l.map V.str)) = _
    rw [ih, List.map_cons, List.contains_cons]
    congr 1
    show (s == S w) = (w == s.cps.toList)
    have e : (S s.cps.toList == S w) = (s.cps.toList == w) := SX.S_beq _ _
    rw [SX.S_tl] at e
    rw [e]
    exact BEq.comm
theorem kw_flat (l : List Str) : (l.map V.str).all flatV = true := by
  induction l with
  | nil => rfl
  | cons s l ih => rw [List.map_cons, List.all_cons, ih]; rfl
/-- an error BadText(i, w) goes out, all that stood stands -/
def Rz (C : Addr) (H : Hp) (E : XK) (i : Int) (w : Str) : Prop := ∀ (d : Addr) (H' : Hp), Evl.Ex H H' → H' d = some (.xd [("what", .str w), ("spot", .int i)]) → E (.ref C) (some d) H'
theorem Rz.go {C : Addr} {H H1 : Hp} {E : XK} {i : Int} {w : Str} (h : Rz C H E i w) (e : Evl.Ex H H1) : Rz C H1 E i w := fun d H' e' q => h d H' (e.trans e') q
/-- what cutting the token at i hands back or lets out -/
def TokRes (C : Addr) (cs : Cs) (i : Nat) (H : Hp) (Q : VK) (E : XK) : Prop := (∀ w, tok1 (cs.drop i) = .error w → Rz C H E i w) ∧
  ∀ t l, tok1 (cs.drop i) = .ok (t, l) → ∀ b p H', Evl.Ex H H' → H b = none → H' b = some (.tup (t.v i)) → H' p = some (.tup [.ref b, .int l]) → Q (.ref p) H'
theorem TokRes.out {C : Addr} {cs : Cs} {i : Nat} {H : Hp} {Q : VK} {E : XK} (k : TokRes C cs i H Q E) {t : Tk} {l : Nat} (e : tok1 (cs.drop i) = .ok (t, l)) {p q : Addr} (hp : H p = none) (hq : upd H p (.tup (t.v i)) q = none) :
    Q (.ref q) (upd (upd H p (.tup (t.v i))) q (.tup [.ref p, .int l])) := by
  refine k.2 t l e p q _ ((Evl.Ex.new hp).trans (Evl.Ex.new hq)) hp ?_ upd_same
  have hpp : upd H p (.tup (t.v i)) p = some (.tup (t.v i)) := upd_same
  rw [upd_ne (ne_of_none hpp hq)]
  exact upd_same
theorem headD_drop {cs : Cs} {i : Nat} (h : i < cs.length) : (cs.drop i).headD 0 = cs[i] := by rw [drop_at h]; rfl
section
variable {P : Program} {w : World} {K : PySem.W.Frag} {mg : Str → Option Value} {base : Heap} {a : Ad}
def spCutWord (C : Addr) : Sp := fun vs H Q E => ∃ (cs : Cs) (i : Nat) (h : i < cs.length), vs = [.str (S cs), .int i] ∧ cs.length ≤ 100000 ∧ lowB cs[i] = true ∧ TokRes C cs i H Q E
theorem ok_cut_word (T : Txt K mg a) : FnOk P w K mg base (L2.CX P w) 3 a.f_cut_word a.d_cut_word ["text", "spot"] (spCutWord a.c_BadText) := by
  refine T.F_cut_word.okX sc_cut_word (fun vs H Q E h => ?_) (fun cdv A outer s H vs Q E hr h => ?_)
  · obtain ⟨_, _, _, rfl, _⟩ := h
    rfl
  · obtain ⟨cs, i, hi, rfl, hn, hl, k⟩ := h
    refine ⟨_, (pss_cons (ps_set (i := 2) sc_cut_word.nd rfl (by first | exact Or.inl rfl | exact Or.inr rfl) (pe_call (ok_row_of T) (hr.mono (by decide)) rfl T.m_row_of T.F_row_of.kp T.b_row_of .nil pass0 (pa_cons (pv 0) (pa_cons (pv 1) (pa_cons (pe_op op_add_str (pe_glob rfl T.g_LETTERS.choose_spec.1 T.g_LETTERS.choose_spec.2) (pe_glob rfl T.g_FIGURES.choose_spec.1 T.g_FIGURES.choose_spec.2)) pa_nil)))))
  (pss_cons (ps_if (pt_cmpR op_gt (pe_callB call_len_str (by rfl) T.z_len (by decide +kernel) (pa_cons (pv 2) pa_nil)) (pe_glob rfl T.g_MOST_NAME.choose_spec.1 T.g_MOST_NAME.choose_spec.2) (nomark _)) (pss_one (ps_raise rfl (takes_of rfl rfl rfl rfl) (pmk_oex T.x_BadText T.xi_BadText T.xt_BadText (ok_BadText_init T) (hr.mono (by decide)) T.b_BadText___init__ .nil pass0 rfl T.m_BadText (pa_cons (pv 1) (pa_cons pe_str pa_nil)))))
    pss_nil)
  (pss_one (ps_ret (pe_tup (pa_cons (pe_tup (pa_cons (pe_ifExp (pt_cmpR op_in_seq (pv 2) (pe_glob rfl T.g_KEYWORDS.choose_spec.1 T.g_KEYWORDS.choose_spec.2) (by rfl)) pe_str pe_str) (pa_cons (pv 2) (pa_cons (pv 1) pa_nil)))) (pa_cons (pe_callB call_len_str (by rfl) T.z_len (by decide +kernel) (pa_cons (pv 2) pa_nil)) pa_nil))))))), ?_⟩
    have ld : (cs.drop i).headD 0 = cs[i] := headD_drop hi
    have lw : ((cs.drop i).takeWhile alnB).length ≤ 100000 := Nat.le_trans (tw_len_le _ _) (by rw [List.length_drop]; omega)
    walk_at "sm"
    refine ⟨by decide, cs, i, zAln, alnB, rfl, by omega, hn, aln_mem, ?_⟩
    walk_at "sm"
    rw [SX.S_len]
    refine ⟨sz lw, ite2 (fun h8 => ?_) (fun h8 => ?_)⟩
    · refine mk2 (k.1 _ ?_)
      unfold tok1
      rw [ld, if_pos hl, if_pos (by omega)]
    · have e1 : tok1 (cs.drop i) = .ok (if kws.contains ((cs.drop i).takeWhile alnB) then .word ((cs.drop i).takeWhile alnB) else .name ((cs.drop i).takeWhile alnB), ((cs.drop i).takeWhile alnB).length) := by
        unfold tok1
        rw [ld, if_pos hl, if_neg (by omega)]
      have e2 := inV_str ((cs.drop i).takeWhile alnB) ["fun", "let", "repeat", "if", "else", "give", "pick", "table", "routine", "from", "loop", "until", "fi", "local", "end", "call", "back"]
      refine ⟨_, _, rfl, .inr (T.t_KEYWORDS H), rfl, kw_flat ["fun", "let", "repeat", "if", "else", "give", "pick", "table", "routine", "from", "loop", "until", "fi", "local", "end", "call", "back"], ?_⟩
      have e3 : inV (V.str (S ((cs.drop i).takeWhile alnB))) [V.str "fun", V.str "let", V.str "repeat", V.str "if", V.str "else", V.str "give", V.str "pick", V.str "table", V.str "routine", V.str "from", V.str "loop", V.str "until", V.str "fi", V.str "local", V.str "end", V.str "call", V.str "back"] = kws.contains ((cs.drop i).takeWhile alnB) := e2
      show ∃ k, V.bl (inV _ _) = V.bl k ∧ _
      refine ⟨_, rfl, ?_⟩
      rw [e3]
      refine ite2 (fun hk => ?_) (fun hk => ?_)
      · rw [hk] at e1
        exact ⟨sz (by decide), fun p hp => ⟨sz lw, sz (by decide), fun q hq => k.out e1 hp hq⟩⟩
      · rw [if_neg hk] at e1
        exact ⟨sz (by decide), fun p hp => ⟨sz lw, sz (by decide), fun q hq => k.out e1 hp hq⟩⟩
def spCutNum (C : Addr) : Sp := fun vs H Q E => ∃ (cs : Cs) (i : Nat) (h : i < cs.length), vs = [.str (S cs), .int i] ∧ cs.length ≤ 100000 ∧ lowB cs[i] = false ∧ digB cs[i] = true ∧ TokRes C cs i H Q E
theorem ok_cut_number (T : Txt K mg a) : FnOk P w K mg base (L2.CX P w) 3 a.f_cut_number a.d_cut_number ["text", "spot"] (spCutNum a.c_BadText) := by
  refine T.F_cut_number.okX sc_cut_number (fun vs H Q E h => ?_) (fun cdv A outer s H vs Q E hr h => ?_)
  · obtain ⟨_, _, _, rfl, _⟩ := h
    rfl
  · obtain ⟨cs, i, hi, rfl, hn, hl, hd, k⟩ := h
    refine ⟨_, (pss_cons (ps_set (i := 2) sc_cut_number.nd rfl (by first | exact Or.inl rfl | exact Or.inr rfl) (pe_call (ok_row_of T) (hr.mono (by decide)) rfl T.m_row_of T.F_row_of.kp T.b_row_of .nil pass0 (pa_cons (pv 0) (pa_cons (pv 1) (pa_cons (pe_glob rfl T.g_FIGURES.choose_spec.1 T.g_FIGURES.choose_spec.2) pa_nil)))))
  (pss_cons (ps_if (PW.pt (pw_or (pt_cmpR op_gt (pe_callB call_len_str (by rfl) T.z_len (by decide +kernel) (pa_cons (pv 2) pa_nil)) pe_int (nomark _)) (pw_or (pt_cmpR op_gt (pe_callTy call_int_str (by rfl) T.z_int (by decide +kernel) (pa_cons (pv 2) pa_nil)) (pe_glob rfl T.g_MOST_NUMBER.choose_spec.1 T.g_MOST_NUMBER.choose_spec.2) (nomark _)) (pw_or1 (PW.pt (pw_and (pt_cmpR op_gt (pe_callB call_len_str (by rfl) T.z_len (by decide +kernel) (pa_cons (pv 2) pa_nil)) pe_int (nomark _)) (pw_and1 (pt_cmpR op_eq (pe_ix ix_str (pv 2) pe_int (fun _ _ => rfl)) pe_str (nomark _))))))))) (pss_one (ps_raise rfl (takes_of rfl rfl rfl rfl) (pmk_oex T.x_BadText T.xi_BadText T.xt_BadText (ok_BadText_init T) (hr.mono (by decide)) T.b_BadText___init__ .nil pass0 rfl T.m_BadText (pa_cons (pv 1) (pa_cons pe_str pa_nil)))))
    pss_nil)
  (pss_one (ps_ret (pe_tup (pa_cons (pe_tup (pa_cons pe_str (pa_cons (pe_callTy call_int_str (by rfl) T.z_int (by decide +kernel) (pa_cons (pv 2) pa_nil)) (pa_cons (pv 1) pa_nil)))) (pa_cons (pe_callB call_len_str (by rfl) T.z_len (by decide +kernel) (pa_cons (pv 2) pa_nil)) pa_nil))))))), ?_⟩
    have ld : (cs.drop i).headD 0 = cs[i] := headD_drop hi
    have lw : ((cs.drop i).takeWhile digB).length ≤ 100000 := Nat.le_trans (tw_len_le _ _) (by rw [List.length_drop]; omega)
    have et : tok1 (cs.drop i) = if badNum ((cs.drop i).takeWhile digB) then .error "number" else .ok (.num (NumText.digitsVal ((cs.drop i).takeWhile digB)), ((cs.drop i).takeWhile digB).length) := by
      unfold tok1
      rw [ld, hl, if_pos hd]
      rfl
    have ne : (cs.drop i).takeWhile digB ≠ [] := by
      rw [drop_at hi, List.takeWhile_cons, if_pos hd]
      exact List.cons_ne_nil _ _
    have ad : ((cs.drop i).takeWhile digB).all digB = true := List.all_takeWhile
    walk_at "sm"
    refine ⟨cs, i, zDig, digB, rfl, by omega, hn, dig_mem, ?_⟩
    generalize (cs.drop i).takeWhile digB = r at *
    walk_at "sm"
    rw [SX.S_len]
    have rz : badNum r = true → mkO a.c_BadText (spInit2 a.c_BadText "spot" "what") [] [V.int i, V.str "number"] H fun cls d H' => E cls d H' := fun hb => mk2 (k.1 _ (by rw [et, if_pos hb]))
    have ok : badNum r = false → ∀ p, H p = none → r.length ≤ sizeLine ∧ 0 + 1 + 1 ≤ sizeLine ∧ ∀ q, upd H p (HO.tup [V.str "number", V.int (NumText.digitsVal r : Nat), V.int i]) q = none →
        Q (V.ref q) (upd (upd H p (HO.tup [V.str "number", V.int (NumText.digitsVal r : Nat), V.int i])) q (HO.tup [V.ref p, V.int r.length])) := fun hb p hp =>
      ⟨sz lw, sz (by decide), fun q hq => k.out (t := .num (NumText.digitsVal r)) (l := r.length) (by rw [et, if_neg (by rw [hb]; decide)]) hp hq⟩
    refine ⟨sz lw, ite2 (fun h4 => rz ?_) (fun h4 => ?_)⟩
    · unfold badNum
      rw [decide_eq_true (show 4 < r.length by omega)]
      rfl
    · have hI : intText? (S r) = some ((NumText.digitsVal r : Nat) : Int) := SX.int_S ad ne (by omega)
      refine ⟨_, hI, by omega, ite2 (fun h5 => rz ?_) (fun h5 => ⟨sz lw, ite2 (fun h6 => ⟨sz lw, ?_⟩) (fun h6 => ⟨_, hI, by omega, sz (by decide), ok ?_⟩)⟩)⟩
      · unfold badNum
        rw [decide_eq_true (show 4095 < NumText.digitsVal r by omega), Bool.or_true, Bool.true_or]
      · obtain ⟨c, q, rfl⟩ : ∃ c q, r = c :: q := by
          cases r with
          | nil => exact absurd rfl ne
          | cons c q => exact ⟨c, q, rfl⟩
        refine ⟨c, atI_nat (j := 0) rfl, ite2 (fun h7 => rz ?_) (fun h7 => ⟨_, hI, by omega, sz (by decide), ok ?_⟩)⟩
        · have e48 : c = 48 := str1.mp (show (⟨#[c]⟩ : Str) = ⟨#[48]⟩ from h7)
          subst e48
          unfold badNum
          rw [decide_eq_true (show 1 < (48 :: q).length by omega), decide_eq_true (show (48 :: q).head? = some 48 from rfl), Bool.and_true, Bool.or_true]
        · have e48 : c ≠ 48 := fun e => h7 (by rw [e]; rfl)
          unfold badNum
          rw [decide_eq_false (show ¬ 4 < (c :: q).length by omega), decide_eq_false (show ¬ 4095 < NumText.digitsVal (c :: q) by omega), decide_eq_false (show ¬ (c :: q).head? = some 48 from fun e => e48 (Option.some.inj e)), Bool.and_false]
          rfl
      · unfold badNum
        rw [decide_eq_false (show ¬ 4 < r.length by omega), decide_eq_false (show ¬ 4095 < NumText.digitsVal r by omega), decide_eq_false (show ¬ 1 < r.length by omega)]
        rfl
end


def sgL : List Str := ["<=>", "==", "<<", ">>", "+=", "-=", "^=", "{", "}", "(", ")", "[", "]", ",", ";", "=", "+", "-", "*", "&", "|", "^", "<"]
theorem sgs_eq : sgs = sgL.map fun s => s.cps.toList := rfl
theorem sg_len : ∀ s ∈ sgL, 1 ≤ s.length ∧ s.length ≤ 3 := by decide +kernel
/-- text[i:i + len(sign)] == sign -/
theorem sl_sign (cs : Cs) {i : Nat} (hi : i < cs.length) (s : Str) : (cutS (S cs) (some (i : Int)) (some ((i : Int) + (s.length : Nat))) = s) ↔ s.cps.toList.isPrefixOf (cs.drop i) = true := by
  have e : (i : Int) + ((s.length : Nat) : Int) = ((i + s.length : Nat) : Int) := by omega
  rw [e, cut_over cs (by omega) (by omega), show i + s.length - i = s.length by omega, List.isPrefixOf_iff_prefix, List.prefix_iff_eq_take]
  have el : s.cps.toList.length = s.length := Array.length_toList
  rw [el]
  constructor
  · intro h
    have q := congrArg (fun x : Str => x.cps.toList) h
    exact q.symm
  · intro h
    rw [← h]
theorem find_none_take {α : Type} (p : α → Bool) : ∀ (l : List α), (∀ (i : Nat) (x : α), l[i]? = some x → p x = false) → l.find? p = none
  | [], _ => rfl
  | x :: l, h => by
    rw [List.find?_cons, h 0 x rfl]
    exact find_none_take p l fun i y e => h (i + 1) y e
theorem find_at {α : Type} (p : α → Bool) : ∀ (l : List α) (i : Nat) (x : α), l[i]? = some x → p x = true → (∀ (j : Nat) (y : α), j < i → l[j]? = some y → p y = false) → l.find? p = some x
  | [], _, _, e, _, _ => by cases e
  | z :: l, 0, x, e, hp, _ => by
    have q : z = x := Option.some.inj e
    subst q
    rw [List.find?_cons, hp]
  | z :: l, i + 1, x, e, hp, h => by
    rw [List.find?_cons, h 0 z (Nat.zero_lt_succ _) rfl]
    exact find_at p l i x e hp fun j y hj e' => h (j + 1) y (Nat.succ_lt_succ hj) e'
theorem str_at_map {l : List Str} {i : Nat} {x : V} (h : (l.map V.str)[i]? = some x) : ∃ z, l[i]? = some z ∧ x = .str z := by
  rw [List.getElem?_map] at h
  cases e : l[i]? with
  | none => rw [e] at h; cases h
  | some z => rw [e] at h; exact ⟨z, rfl, (Option.some.inj h).symm⟩
def ivTok (H : Hp) (cs : Cs) (i : Nat) : Nat → L2.St → Hp → Prop := fun j σ H' => ∃ v : Option V, σ = [some (.str (S cs)), some (.int i), v] ∧ H' = H ∧ ∀ k z, k < j → sgL[k]? = some z → z.cps.toList.isPrefixOf (cs.drop i) = false
section
variable {P : Program} {w : World} {K : PySem.W.Frag} {mg : Str → Option Value} {base : Heap} {a : Ad}
def spCutTok (C : Addr) : Sp := fun vs H Q E => ∃ (cs : Cs) (i : Nat) (h : i < cs.length), vs = [.str (S cs), .int i] ∧ cs.length ≤ 100000 ∧ TokRes C cs i H Q E
theorem ok_cut_token (T : Txt K mg a) : FnOk P w K mg base (L2.CX P w) 4 a.f_cut_token a.d_cut_token ["text", "spot"] (spCutTok a.c_BadText) := by
  refine T.F_cut_token.okX sc_cut_token (fun vs H Q E h => ?_) (fun cdv A outer s H vs Q E hr h => ?_)
  · obtain ⟨_, _, _, rfl, _⟩ := h
    rfl
  · obtain ⟨cs, i, hi, rfl, hn, k⟩ := h
    refine ⟨_, (pss_cons (ps_if (pt_cmpR op_in_sign (pe_ix ix_str (pv 0) (pv 1) (fun _ _ => rfl)) (pe_glob rfl T.g_LETTERS.choose_spec.1 T.g_LETTERS.choose_spec.2) (by rfl)) (pss_one (ps_ret (pe_call (ok_cut_word T) (hr.mono (by decide)) rfl T.m_cut_word T.F_cut_word.kp T.b_cut_word .nil (passes_call (takes_of rfl rfl rfl rfl) (fun _ _ _ _ q => q)) (pa_cons (pv 0) (pa_cons (pv 1) pa_nil)))))
    pss_nil)
  (pss_cons (ps_if (pt_cmpR op_in_sign (pe_ix ix_str (pv 0) (pv 1) (fun _ _ => rfl)) (pe_glob rfl T.g_FIGURES.choose_spec.1 T.g_FIGURES.choose_spec.2) (by rfl)) (pss_one (ps_ret (pe_call (ok_cut_number T) (hr.mono (by decide)) rfl T.m_cut_number T.F_cut_number.kp T.b_cut_number .nil (passes_call (takes_of rfl rfl rfl rfl) (fun _ _ _ _ q => q)) (pa_cons (pv 0) (pa_cons (pv 1) pa_nil)))))
    pss_nil)
  (pss_cons (ps_for (passes_of rfl) rfl (pi_tup (pe_glob rfl T.g_SIGNS.choose_spec.1 T.g_SIGNS.choose_spec.2)) (pg_name (i := 2) sc_cut_token.nd rfl (by first | exact Or.inl rfl | exact Or.inr rfl)) (pss_one (ps_if (pt_cmpR op_eq (pe_slice sl_str (pv 0) (po_some (pv 1)) (po_some (pe_op op_add (pv 1) (pe_callB call_len_str (by rfl) T.z_len (by decide +kernel) (pa_cons (pv 2) pa_nil))))) (pv 2) (nomark _)) (pss_one (ps_ret (pe_tup (pa_cons (pe_tup (pa_cons pe_str (pa_cons (pv 2) (pa_cons (pv 1) pa_nil)))) (pa_cons (pe_callB call_len_str (by rfl) T.z_len (by decide +kernel) (pa_cons (pv 2) pa_nil)) pa_nil)))))
    pss_nil)))
  (pss_one (ps_raise rfl (takes_of rfl rfl rfl rfl) (pmk_oex T.x_BadText T.xi_BadText T.xt_BadText (ok_BadText_init T) (hr.mono (by decide)) T.b_BadText___init__ .nil pass0 rfl T.m_BadText (pa_cons (pv 1) (pa_cons pe_str pa_nil)))))))), ?_⟩
    have ld : (cs.drop i).headD 0 = cs[i] := headD_drop hi
    have hz : cs.length ≤ sizeLine := sz hn
    walk_at "sm"
    rw [SX.S_len]
    refine ⟨hz, cs[i], str_at cs hi, ?_⟩
    have m1 := low_mem cs[i]
    have m2 := dig_mem cs[i]
    refine ite2 (fun hm => ?_) (fun hm => ⟨hz, cs[i], str_at cs hi, ite2 (fun hm2 => ?_) (fun hm2 => ?_)⟩)
    · have hl : lowB cs[i] = true := by rw [← m1]; exact decide_eq_true hm
      exact ⟨cs, i, hi, rfl, hn, hl, k⟩
    · have hl : lowB cs[i] = false := by rw [← m1]; exact decide_eq_false hm
      have hd : digB cs[i] = true := by rw [← m2]; exact decide_eq_true hm2
      exact ⟨cs, i, hi, rfl, hn, hl, hd, k⟩
    · have hl : lowB cs[i] = false := by rw [← m1]; exact decide_eq_false hm
      have hd : digB cs[i] = false := by rw [← m2]; exact decide_eq_false hm2
      have et : tok1 (cs.drop i) = match sgs.find? (fun s => s.isPrefixOf (cs.drop i)) with | some s => .ok (.sign s, s.length) | none => .error "sign" := by
        unfold tok1
        rw [ld, hl, hd]
        rfl
      refine ⟨_, rfl, ⟨_, T.t_SIGNS H⟩, for_tup (K := K) (a := a.p_SIGNS) (xs := sgL.map V.str) (ivTok H cs i) ⟨none, rfl, rfl, fun k z hk => absurd hk (Nat.not_lt_zero _)⟩ (fun _ _ H' _ _ => T.t_SIGNS H') ?_ ?_⟩
      · rintro j x σ H' hj ⟨v, rfl, rfl, hno⟩
        obtain ⟨z, hz', rfl⟩ := str_at_map hj
        have hzm : z ∈ sgL := List.mem_of_getElem? hz'
        have zl := sg_len z hzm
        walk_at "sm"
        rw [SX.S_len]
        have z3 : z.length ≤ sizeLine := sz (by omega)
        refine ⟨z3, hz, ite2 (fun hc => ?_) (fun hc => ?_)⟩
        · have hp := (sl_sign cs hi z).mp hc
          have ef : sgs.find? (fun s => s.isPrefixOf (cs.drop i)) = some z.cps.toList := by
            refine find_at _ _ j _ (by rw [sgs_eq, List.getElem?_map, hz']; rfl) hp fun m y hm hy => ?_
            rw [sgs_eq, List.getElem?_map] at hy
            cases em : sgL[m]? with
            | none => rw [em] at hy; cases hy
            | some y' =>
              rw [em] at hy
              have q : y'.cps.toList = y := Option.some.inj hy
              rw [← q]
              exact hno m y' hm em
          rw [ef] at et
          have ev : V.str z = V.str (S z.cps.toList) := by rw [SX.S_tl]
          refine ⟨sz (by decide), fun p hp' => ⟨z3, sz (by decide), fun q hq => ?_⟩⟩
          rw [ev] at hq ⊢
          exact k.out et hp' hq
        · refine ⟨some (.str z), rfl, rfl, fun m y hm hy => ?_⟩
          by_cases hmj : m < j
          · exact hno m y hmj hy
          · have e : m = j := by omega
            subst e
            rw [hz'] at hy
            cases hy
            exact Bool.eq_false_iff.mpr fun q => hc ((sl_sign cs hi z).mpr q)
      · rintro σ H' ⟨v, rfl, rfl, hno⟩
        walk_at "sm"
        refine mk2 (k.1 _ ?_)
        have ef : sgs.find? (fun s => s.isPrefixOf (cs.drop i)) = none := by
          refine find_none_take _ _ fun m y hy => ?_
          rw [sgs_eq, List.getElem?_map] at hy
          cases em : sgL[m]? with
          | none => rw [em] at hy; cases hy
          | some y' =>
            rw [em] at hy
            have q : y'.cps.toList = y := Option.some.inj hy
            rw [← q]
            refine hno m y' ?_ em
            rw [List.length_map]
            exact (List.getElem?_eq_some_iff.mp em).1
        rw [et, ef]
def GoodT : Tk → Prop
  | .word w => lowB (w.headD 0) = true
  | .name w => lowB (w.headD 0) = true
  | .num n => n ≤ 4095
  | .sign s => s ∈ sgs
theorem tok1_word {r : Cs} {t : Tk} {l : Nat} (h : tok1 r = .ok (t, l)) : GoodT t := by
  unfold tok1 at h
  have hd : lowB (r.headD 0) = true → lowB ((r.takeWhile alnB).headD 0) = true := fun q => by
    cases r with
    | nil => exact q
    | cons c q' =>
      have qc : lowB c = true := q
      rw [List.takeWhile_cons, if_pos (by unfold alnB; rw [qc]; rfl)]
      exact qc
  by_cases h1 : lowB (r.headD 0) = true
  · rw [if_pos h1] at h
    split at h
    · cases h
    · by_cases h2 : kws.contains (r.takeWhile alnB) = true
      · rw [if_pos h2] at h
        cases h
        exact hd h1
      · rw [if_neg h2] at h
        cases h
        exact hd h1
  · rw [if_neg h1] at h
    split at h
    · split at h
      · cases h
      · rename_i hb
        cases h
        show NumText.digitsVal _ ≤ 4095
        unfold badNum at hb
        simp only [Bool.or_eq_true, decide_eq_true_eq, not_or, Bool.and_eq_true] at hb
        omega
    · split at h
      · rename_i s hs
        cases h
        exact List.mem_of_find?_eq_some hs
      · cases h
def closeT (t : Tk) : Bool := inV t.val [.str "}", .str ")", .str "]"]
def openT (t : Tk) : Bool := inV t.val [.str "{", .str "(", .str "["]
theorem close_str (w : Cs) : inV (.str (S w)) [.str "}", .str ")", .str "]"] = decide (w = [125] ∨ w = [41] ∨ w = [93]) := by
  have e := inV_str w ["}", ")", "]"]
  have e2 : inV (.str (S w)) [.str "}", .str ")", .str "]"] = ([[125], [41], [93]] : List Cs).contains w := e
  rw [e2]
  apply Bool.eq_iff_iff.mpr
  simp
theorem open_str (w : Cs) : inV (.str (S w)) [.str "{", .str "(", .str "["] = decide (w = [123] ∨ w = [40] ∨ w = [91]) := by
  have e := inV_str w ["{", "(", "["]
  have e2 : inV (.str (S w)) [.str "{", .str "(", .str "["] = ([[123], [40], [91]] : List Cs).contains w := e
  rw [e2]
  apply Bool.eq_iff_iff.mpr
  simp
theorem low_no {w : Cs} (h : lowB (w.headD 0) = true) : ¬ (w = [125] ∨ w = [41] ∨ w = [93]) ∧ ¬ (w = [123] ∨ w = [40] ∨ w = [91]) := by
  constructor <;> (intro q; rcases q with rfl | rfl | rfl <;> exact absurd h (by decide))
theorem brk_eq {r : Cs} {t : Tk} {l : Nat} (h : tok1 r = .ok (t, l)) (b : Nat) : brk t b = if closeT t = true then some (b - 1) else if openT t = true then (if b = 20 then none else some (b + 1)) else some b := by
  have q := tok1_word h
  cases t with
  | word w =>
    have n := low_no (w := w) q
    have e1 : closeT (.word w) = false := by show inV (.str (S w)) _ = _; rw [close_str]; exact decide_eq_false n.1
    have e2 : openT (.word w) = false := by show inV (.str (S w)) _ = _; rw [open_str]; exact decide_eq_false n.2
    rw [e1, e2]; rfl
  | name w =>
    have n := low_no (w := w) q
    have e1 : closeT (.name w) = false := by show inV (.str (S w)) _ = _; rw [close_str]; exact decide_eq_false n.1
    have e2 : openT (.name w) = false := by show inV (.str (S w)) _ = _; rw [open_str]; exact decide_eq_false n.2
    rw [e1, e2]; rfl
  | num n => rfl
  | sign s =>
    have e1 : closeT (.sign s) = decide (s = [125] ∨ s = [41] ∨ s = [93]) := close_str s
    have e2 : openT (.sign s) = decide (s = [123] ∨ s = [40] ∨ s = [91]) := open_str s
    rw [e1, e2]
    show (if s = [125] ∨ s = [41] ∨ s = [93] then some (b - 1) else if s = [123] ∨ s = [40] ∨ s = [91] then (if b = 20 then none else some (b + 1)) else some b) = _
    simp only [decide_eq_true_eq]
theorem in_tup {K : PySem.W.Frag} {H : Hp} {p : Addr} {xs : List V} {x : V} {Q : VK} (h : SqT K H p xs) (fx : flatV x = true) (fxs : xs.all flatV = true) (q : Q (.bl (inV x xs)) H) : rIn K false x (.ref p) H Q := ⟨p, xs, rfl, .inr h, fx, fxs, q⟩
theorem ni_tup {K : PySem.W.Frag} {H : Hp} {p : Addr} {xs : List V} {x : V} {Q : VK} (h : SqT K H p xs) (fx : flatV x = true) (fxs : xs.all flatV = true) (q : Q (.bl (!inV x xs)) H) : rIn K true x (.ref p) H Q := ⟨p, xs, rfl, .inr h, fx, fxs, q⟩
theorem val_flat (t : Tk) : flatV t.val = true := by cases t <;> rfl
def spBrk (K : PySem.W.Frag) (C : Addr) : Sp := fun vs H Q E => ∃ (c : Addr) (n i : Nat) (r : Cs) (t : Tk) (l : Nat), vs = [.ref c, .int n] ∧ H c = some (.tup (t.v i)) ∧ tok1 r = .ok (t, l) ∧
  (brk t n = none → Rz C H E i "deep") ∧ ∀ b', brk t n = some b' → ∀ H', Evl.Ex H H' → Q (.int (b' : Nat)) H'
theorem ok_brackets_behind (T : Txt K mg a) : FnOk P w K mg base (L2.CX P w) 3 a.f_brackets_behind a.d_brackets_behind ["token", "brackets"] (spBrk K a.c_BadText) := by
  refine T.F_brackets_behind.okX sc_brackets_behind (fun vs H Q E h => ?_) (fun cdv A outer s H vs Q E hr h => ?_)
  · obtain ⟨_, _, _, _, _, _, rfl, _⟩ := h
    rfl
  · obtain ⟨c, n, i, r, t, l, rfl, hc, ht, k1, k2⟩ := h
    refine ⟨_, (pss_cons (ps_asg (pv 0) (pg_tup rfl (pgs_cons (pg_name (i := 2) sc_brackets_behind.nd rfl (by first | exact Or.inl rfl | exact Or.inr rfl)) (pgs_cons (pg_name (i := 3) sc_brackets_behind.nd rfl (by first | exact Or.inl rfl | exact Or.inr rfl)) (pgs_cons (pg_name (i := 4) sc_brackets_behind.nd rfl (by first | exact Or.inl rfl | exact Or.inr rfl)) pgs_nil)))))
  (pss_cons (ps_if (pt_cmpR op_in_seq (pv 3) (pe_tup (pa_cons pe_str (pa_cons pe_str (pa_cons pe_str pa_nil)))) (by rfl)) (pss_one (ps_ret (pe_callB (call_max2 rfl) (by rfl) T.z_max (by decide +kernel) (pa_cons pe_int (pa_cons (pe_op op_sub (pv 1) pe_int) pa_nil)))))
    pss_nil)
  (pss_cons (ps_if (pt_cmpR op_notIn_seq (pv 3) (pe_tup (pa_cons pe_str (pa_cons pe_str (pa_cons pe_str pa_nil)))) (by rfl)) (pss_one (ps_ret (pv 1)))
    pss_nil)
  (pss_cons (ps_if (pt_cmpR op_eq (pv 1) (pe_glob rfl T.g_MOST_BRACKETS.choose_spec.1 T.g_MOST_BRACKETS.choose_spec.2) (nomark _)) (pss_one (ps_raise rfl (takes_of rfl rfl rfl rfl) (pmk_oex T.x_BadText T.xi_BadText T.xt_BadText (ok_BadText_init T) (hr.mono (by decide)) T.b_BadText___init__ .nil pass0 rfl T.m_BadText (pa_cons (pv 4) (pa_cons pe_str pa_nil)))))
    pss_nil)
  (pss_one (ps_ret (pe_op op_add (pv 1) pe_int))))))), ?_⟩
    have eb := brk_eq ht n
    walk_at "sm"
    refine ⟨_, .inl (.inl hc), rfl, ?_⟩
    walk_at "sm"
    refine ⟨_, _, rfl, _, _, rfl, _, _, rfl, rfl, sz (by decide), fun p hp => ?_⟩
    refine in_tup (SqT.of upd_same) (val_flat t) rfl ⟨_, rfl, ?_⟩
    have e1 : Evl.Ex H (upd H p (HO.tup [V.str "}", V.str ")", V.str "]"])) := Evl.Ex.new hp
    generalize upd H p (HO.tup [V.str "}", V.str ")", V.str "]"]) = H1 at *
    refine ite2 (fun hcl => ?_) (fun hcl => ⟨sz (by decide), fun q hq => ?_⟩)
    · have ec : closeT t = true := hcl
      rw [ec, if_pos rfl] at eb
      have em : (if (n : Int) - 1 > 0 then (n : Int) - 1 else 0) = ((n - 1 : Nat) : Int) := by split <;> omega
      rw [em]
      exact k2 _ eb H1 e1
    · have ec : closeT t = false := Bool.eq_false_iff.mpr hcl
      rw [ec, if_neg (by decide)] at eb
      refine ni_tup (SqT.of upd_same) (val_flat t) rfl ⟨_, rfl, ?_⟩
      have e2 : Evl.Ex H (upd H1 q (HO.tup [V.str "{", V.str "(", V.str "["])) := e1.trans (Evl.Ex.new hq)
      generalize upd H1 q (HO.tup [V.str "{", V.str "(", V.str "["]) = H2 at *
      refine ite2 (fun hop => ?_) (fun hop => ?_)
      · have eo : openT t = false := by
          have hop' : (!openT t) = true := hop
          simpa using hop'
        rw [eo, if_neg (by decide)] at eb
        exact k2 _ eb H2 e2
      · have eo : openT t = true := by
          have hop' : ¬ (!openT t) = true := hop
          simpa using hop'
        rw [eo, if_pos rfl] at eb
        refine ite2 (fun h20 => ?_) (fun h20 => ?_)
        · rw [if_pos (by omega)] at eb
          exact mk2 ((k1 eb).go e2)
        · rw [if_neg (by omega)] at eb
          exact k2 _ eb H2 e2
end


theorem isi_ty {K : PySem.W.Frag} {H : Hp} {x : V} {t : String} {n : String} {b : Bool} {Q : VK} (ht : TyX K H x (.type t)) (hk : kitB t n = some b) (q : Q (.bl b) H) : rIsi K [x, .ty n] H Q := ⟨x, .ty n, .type t, .type n, b, rfl, .ty n, ht, kit_ty hk, q⟩
def ToksAt (H : Hp) (xs : List V) (ts : List (List V)) : Prop := Paired (fun v vs => ∃ b, v = V.ref b ∧ H b = some (.tup vs)) xs ts
theorem ToksAt.go {H H' : Hp} (e : Evl.Ex H H') {xs : List V} {ts : List (List V)} (h : ToksAt H xs ts) : ToksAt H' xs ts := Paired.mapP h fun _ _ ⟨b, e1, e2⟩ => ⟨b, e1, e b _ e2⟩
theorem Paired.snoc {α β : Type} {F : α → β → Prop} {x : α} {y : β} (r : F x y) : ∀ {l : List α} {m : List β}, Paired F l m → Paired F (l ++ [x]) (m ++ [y])
  | _, _, .nil => .cons r .nil
  | _, _, .cons q t => .cons q (Paired.snoc r t)
def CutRes (C : Addr) (cs : Cs) (m : Int) (H : Hp) (Q : VK) (E : XK) : Prop := (m < cs.length → Rz C H E (-1) "long") ∧ (¬ m < cs.length → (∀ i w, scan cs 0 0 = .error (i, w) → Rz C H E (i : Nat) w) ∧
  ∀ ts, scan cs 0 0 = .ok ts → ∀ p xs H', Evl.Ex H H' → H' p = some (.tup xs) → ToksAt H' xs ts → Q (.ref p) H')
def ivCut (H : Hp) (cs : Cs) (m : Int) (l : Addr) : Nat → L2.St → Hp → Prop := fun n σ H' => ∃ (xs : List V) (ts : List (List V)) (i b : Nat) (v1 v2 : Option V), σ = [some (.str (S cs)), some (.int m), some (.ref l), some (.int b), some (.int i), v1, v2] ∧
  H' l = some (.lst xs) ∧ ToksAt H' xs ts ∧ Evl.Ex H H' ∧ xs.length ≤ i ∧ i ≤ cs.length ∧ n = cs.length - i ∧ scan cs 0 0 = pre ts (scan cs i b)
def below (W : Nat → L2.St → Hp → Prop) (n : Nat) : L2.St → Hp → Prop := fun σ' H' => ∃ m', m' < n ∧ W m' σ' H'
section
variable {P : Program} {w : World} {K : PySem.W.Frag} {mg : Str → Option Value} {base : Heap} {a : Ad}
def spCutText (C : Addr) : Sp := fun vs H Q E => (∃ (cs : Cs) (m : Int), vs = [.str (S cs), .int m] ∧ cs.length ≤ 90000 ∧ CutRes C cs m H Q E) ∨ ∃ n m : Int, vs = [.int n, .int m] ∧ Rz C H E (-1) "text"
theorem ok_cut_text (T : Txt K mg a) : FnOk P w K mg base (L2.CX P w) 5 a.f_cut_text a.d_cut_text ["text", "most"] (spCutText a.c_BadText) := by
  refine T.F_cut_text.okX sc_cut_text (fun vs H Q E h => ?_) (fun cdv A outer s H vs Q E hr h => ?_)
  · obtain ⟨_, _, rfl, _⟩ | ⟨_, _, rfl, _⟩ := h <;> rfl
  · refine ⟨_, (pss_cons (ps_if (pt_not (pt_val (pe_callB call_isi (by rfl) T.z_isinstance (by decide +kernel) (pa_cons (pv 0) (pa_cons (pe_bltn (v := .ty "str") (by rfl) T.z_str (by decide +kernel) rfl) pa_nil))))) (pss_one (ps_raise rfl (takes_of rfl rfl rfl rfl) (pmk_oex T.x_BadText T.xi_BadText T.xt_BadText (ok_BadText_init T) (hr.mono (by decide)) T.b_BadText___init__ .nil pass0 rfl T.m_BadText (pa_cons (pe_un un_neg pe_int) (pa_cons pe_str pa_nil)))))
    pss_nil)
  (pss_cons (ps_if (pt_cmpR op_gt (pe_callB call_len_str (by rfl) T.z_len (by decide +kernel) (pa_cons (pv 0) pa_nil)) (pv 1) (nomark _)) (pss_one (ps_raise rfl (takes_of rfl rfl rfl rfl) (pmk_oex T.x_BadText T.xi_BadText T.xt_BadText (ok_BadText_init T) (hr.mono (by decide)) T.b_BadText___init__ .nil pass0 rfl T.m_BadText (pa_cons (pe_un un_neg pe_int) (pa_cons pe_str pa_nil)))))
    pss_nil)
  (pss_cons (ps_set (i := 2) sc_cut_text.nd rfl (by first | exact Or.inl rfl | exact Or.inr rfl) (pe_lst pa_nil))
  (pss_cons (ps_set (i := 3) sc_cut_text.nd rfl (by first | exact Or.inl rfl | exact Or.inr rfl) pe_int)
  (pss_cons (ps_set (i := 4) sc_cut_text.nd rfl (by first | exact Or.inl rfl | exact Or.inr rfl) pe_int)
  (pss_cons (ps_while (passes_of rfl) (pt_cmpR op_lt (pv 4) (pe_callB call_len_str (by rfl) T.z_len (by decide +kernel) (pa_cons (pv 0) pa_nil)) (nomark _)) (pss_cons (ps_if (pt_cmpR op_in_sign (pe_ix ix_str (pv 0) (pv 4) (fun _ _ => rfl)) pe_str (by rfl)) (pss_cons (ps_aug (i := 4) sc_cut_text.nd rfl (by first | exact Or.inl rfl | exact Or.inr rfl) pe_int ip_add)
  (pss_one ps_continue))
    pss_nil)
  (pss_cons (ps_asg (pe_call (ok_cut_token T) (hr.mono (by decide)) rfl T.m_cut_token T.F_cut_token.kp T.b_cut_token .nil (passes_call (takes_of rfl rfl rfl rfl) (fun _ _ _ _ q => q)) (pa_cons (pv 0) (pa_cons (pv 4) pa_nil))) (pg_tup rfl (pgs_cons (pg_name (i := 5) sc_cut_text.nd rfl (by first | exact Or.inl rfl | exact Or.inr rfl)) (pgs_cons (pg_name (i := 6) sc_cut_text.nd rfl (by first | exact Or.inl rfl | exact Or.inr rfl)) pgs_nil))))
  (pss_cons (ps_set (i := 3) sc_cut_text.nd rfl (by first | exact Or.inl rfl | exact Or.inr rfl) (pe_call (ok_brackets_behind T) (hr.mono (by decide)) rfl T.m_brackets_behind T.F_brackets_behind.kp T.b_brackets_behind .nil (passes_call (takes_of rfl rfl rfl rfl) (fun _ _ _ _ q => q)) (pa_cons (pv 5) (pa_cons (pv 3) pa_nil))))
  (pss_cons (ps_expr (pe_bm PySem.F.plainAttrs_list PySem.F.slot_list_append PySem.F.type_list_append mt_append (pv 2) (pa_cons (pv 5) pa_nil)))
  (pss_one (ps_aug (i := 4) sc_cut_text.nd rfl (by first | exact Or.inl rfl | exact Or.inr rfl) (pv 6) ip_add)))))))
  (pss_cons (ps_expr (pe_bm PySem.F.plainAttrs_list PySem.F.slot_list_append PySem.F.type_list_append mt_append (pv 2) (pa_cons (pe_tup (pa_cons pe_str (pa_cons pe_str (pa_cons (pe_callB call_len_str (by rfl) T.z_len (by decide +kernel) (pa_cons (pv 0) pa_nil)) pa_nil)))) pa_nil)))
  (pss_one (ps_ret (pe_callTy call_tuple_of (by rfl) T.z_tuple (by decide +kernel) (pa_cons (pv 2) pa_nil))))))))))), ?_⟩
    obtain ⟨cs, m, rfl, hn, k⟩ | ⟨n, m, rfl, k⟩ := h
    · walk_at "sm"
      refine isi_ty (t := "str") (b := true) (.base (.str _)) (by decide +kernel) ⟨_, rfl, ?_⟩
      walk_at "sm"
      rw [SX.S_len]
      have hz : cs.length ≤ sizeLine := sz (by omega)
      refine ⟨hz, ite2 (fun hm => mk2 (k.1 hm)) (fun hm => ⟨sz (by decide), fun l hl => ?_⟩)⟩
      obtain ⟨k1, k2⟩ := k.2 hm
      refine ⟨ivCut H cs m l, ⟨_, [], [], 0, 0, none, none, rfl, upd_same, .nil, Evl.Ex.new hl, Nat.le_refl _, Nat.zero_le _, rfl, (pre_nil _).symm⟩, ?_⟩
      rintro n σ H1 ⟨xs, ts, i, b, v1, v2, rfl, hl1, tk, e1, hx, hi, rfl, sc⟩
      walk_at "sm"
      rw [SX.S_len]
      refine ⟨hz, ite2 (fun hlt => ?_) (fun hlt => ?_)⟩
      · have hi' : i < cs.length := by omega
        refine ⟨below (ivCut H cs m l) (cs.length - i), fun _ _ h => h, hz, cs[i], str_at cs hi', ?_⟩
        have mb := bl_mem cs[i]
        walk_at "sm"
        refine ite2 (fun hb => ?_) (fun hb => ?_)
        · have hb' : blB cs[i] = true := by rw [← mb]; exact decide_eq_true hb
          rw [scan_bl hi' hb'] at sc
          exact ⟨_, by omega, xs, ts, i + 1, b, v1, v2, rfl, hl1, tk, e1, by omega, by omega, rfl, sc⟩
        · have hb' : blB cs[i] = false := by rw [← mb]; exact decide_eq_false hb
          refine ⟨cs, i, hi', rfl, by omega, fun w ht => ?_, fun t n ht c p H2 e2 hc0 hc hp => ?_⟩
          · rw [scan_err hi' hb' ht] at sc
            exact (k1 i w sc).go e1
          · have hn1 := tok1_len (by rw [drop_at hi']; exact List.cons_ne_nil _ _) ht
            have hn2 := tok1_le ht
            rw [List.length_drop] at hn2
            refine ⟨p, rfl, _, SqT.of hp, rfl, _, _, rfl, _, _, rfl, rfl, c, b, i, _, t, n, rfl, hc, ht, fun hk => ?_, fun b' hk H3 e3 => ?_⟩
            · rw [scan_deep hi' hb' ht hk] at sc
              exact (k1 i _ sc).go (e1.trans e2)
            · rw [scan_tok hi' hb' ht hk hn1, pre_pre] at sc
              have hl3 : H3 l = some (.lst xs) := e3 _ _ (e2 _ _ hl1)
              walk_at "sm"
              refine ⟨.inl ⟨rfl, _, SqL.of hl3⟩, l, xs, _, rfl, rfl, hl3, Nat.lt_of_le_of_lt (show xs.length ≤ 90000 by omega) (by decide), ?_⟩
              have eu : Evl.Ex H (upd H3 l (.lst (xs ++ [.ref c]))) := Evl.Ex.mut (e1.trans (e2.trans e3)) hl
              have ncl : ∀ q o, H3 q = some o → q ≠ l → (upd H3 l (.lst (xs ++ [.ref c]))) q = some o := fun q o hq nq => by rw [upd_ne nq]; exact hq
              have tk3 : ToksAt (upd H3 l (.lst (xs ++ [.ref c]))) xs ts := Paired.mapP (tk.go (e2.trans e3)) fun _ _ ⟨q, e4, e5⟩ => ⟨q, e4, ncl q _ e5 (ne_of e5 hl3 (by intro z; cases z))⟩
              refine ⟨_, ?_, xs ++ [.ref c], ts ++ [t.v i], i + n, b', some (.ref c), some (.int n), rfl, upd_same, Paired.snoc ⟨c, rfl, ncl c _ (e3 _ _ hc) (ne_of (e3 _ _ hc) hl3 (by intro z; cases z))⟩ tk3, eu, ?_, by omega, rfl, sc⟩
              · omega
              · rw [List.length_append, List.length_singleton]; omega
      · have hi' : ¬ i < cs.length := by omega
        rw [scan_end hi'] at sc
        walk_at "sm"
        refine ⟨.inl ⟨rfl, _, SqL.of hl1⟩, hz, sz (by decide), fun p hp => ?_⟩
        have hl2 : (upd H1 p (.tup (endV cs))) l = some (.lst xs) := by rw [upd_ne (ne_of_none hl1 hp)]; exact hl1
        have hp2 : (upd H1 p (.tup (endV cs))) p = some (.tup (endV cs)) := upd_same
        have e2 : Evl.Ex H (upd H1 p (.tup (endV cs))) := e1.trans (Evl.Ex.new hp)
        have tk2 := tk.go (Evl.Ex.new hp (o := .tup (endV cs)))
        show rAppend (V.ref l) [V.ref p] (upd H1 p (.tup (endV cs))) _
        generalize upd H1 p (.tup (endV cs)) = H2 at *
        refine ⟨l, xs, _, rfl, rfl, hl2, Nat.lt_of_le_of_lt (show xs.length ≤ 90000 by omega) (by decide), _, .inl ⟨SqL.of upd_same, fun q hq => ?_⟩⟩
        have e3 : Evl.Ex H (upd H2 l (.lst (xs ++ [.ref p]))) := Evl.Ex.mut e2 hl
        have hp3 : (upd H2 l (.lst (xs ++ [.ref p]))) p = some (.tup (endV cs)) := by rw [upd_ne (ne_of hp2 hl2 (by intro z; cases z))]; exact hp2
        have tk3 : ToksAt (upd H2 l (.lst (xs ++ [.ref p]))) xs ts := Paired.mapP tk2 fun _ _ ⟨q, e4, e5⟩ => ⟨q, e4, by rw [upd_ne (ne_of e5 hl2 (by intro z; cases z))]; exact e5⟩
        generalize upd H2 l (.lst (xs ++ [.ref p])) = H3 at *
        exact k2 (ts ++ [endV cs]) sc q (xs ++ [.ref p]) _ (e3.trans (Evl.Ex.new hq)) upd_same (ToksAt.go (Evl.Ex.new hq) (Paired.snoc ⟨p, rfl, hp3⟩ tk3))
    · walk_at "sm"
      exact isi_ty (t := "int") (b := false) (.base (.int _)) (by decide +kernel) ⟨_, rfl, mk2 k⟩
end


def isNameB (cs : Cs) : Bool := decide (1 ≤ cs.length) && decide (cs.length ≤ 8) && !(kws.contains cs) && lowB (cs.headD 0) && decide (cs.takeWhile alnB = cs)
def ivEnd (cs : Cs) (i : Nat) (z : Str) (p : Nat → Bool) (H : Hp) : Nat → L2.St → Hp → Prop := fun j σ H' => ∃ v : Option V, σ = [some (.str (S cs)), some (.int i), some (.str z), v] ∧ H' = H ∧ (cs.drop i).takeWhile p = (cs.drop i).take j ++ (cs.drop (i + j)).takeWhile p
def ivSign (H : Hp) (cs : Cs) (i : Nat) (l : Addr) : Nat → L2.St → Hp → Prop := fun j σ H' => ∃ v : Option V, σ = [some (.str (S cs)), some (.int i), v] ∧ Evl.Ex H H' ∧ H' l = some (.lst (sgL.map V.str)) ∧ ∀ k z, k < j → sgL[k]? = some z → z.cps.toList.isPrefixOf (cs.drop i) = false
section
variable {P : Program} {w : World} {K : PySem.W.Frag} {mg : Str → Option Value} {base : Heap} {a : Ad}
def spWhole : Sp := fun vs H Q _ => ∃ n : Int, vs = [.int n] ∧ Q (.bl true) H
theorem ok_law_whole (T : Txt K mg a) : FnOk P w K mg base CX0 1 a.f_law_whole a.d_law_whole ["_law_thing"] spWhole := by
  refine T.F_law_whole.ok sc_law_whole (fun vs H Q E h => ?_) (fun cdv A outer s H vs Q E hr h => ?_)
  · obtain ⟨_, rfl, _⟩ := h
    rfl
  · obtain ⟨n, rfl, k⟩ := h
    refine ⟨_, (pss_one (ps_ret (pe_and (pe_callB call_isi (by rfl) T.z_isinstance (by decide +kernel) (pa_cons (pv 0) (pa_cons (pe_bltn (v := .ty "int") (by rfl) T.z_int (by decide +kernel) rfl) pa_nil))) (pe_one (pe_not (pe_callB call_isi (by rfl) T.z_isinstance (by decide +kernel) (pa_cons (pv 0) (pa_cons (pe_bltn (v := .ty "bool") (by rfl) T.z_bool (by decide +kernel) rfl) pa_nil)))))))), ?_⟩
    walk_at "sm"
    exact isi_ty (t := "int") (b := true) (.base (.int _)) (by decide +kernel) ⟨_, rfl, iteT (isi_ty (t := "int") (b := false) (.base (.int _)) (by decide +kernel) ⟨_, rfl, k⟩)⟩
def spIsName : Sp := fun vs H Q _ => (∃ cs : Cs, vs = [.str (S cs)] ∧ cs.length ≤ 90000 ∧ Q (.bl (isNameB cs)) H) ∨ ∃ n : Int, vs = [.int n] ∧ Q (.bl false) H
theorem ok_is_name (T : Txt K mg a) : FnOk P w K mg base CX0 2 a.f_is_name a.d_is_name ["text"] spIsName := by
  refine T.F_is_name.ok sc_is_name (fun vs H Q E h => ?_) (fun cdv A outer s H vs Q E hr h => ?_)
  · obtain ⟨_, rfl, _⟩ | ⟨_, rfl, _⟩ := h <;> rfl
  · refine ⟨_, (pss_cons (ps_if (PW.pt (pw_or (pt_not (pt_val (pe_callB call_isi (by rfl) T.z_isinstance (by decide +kernel) (pa_cons (pv 0) (pa_cons (pe_bltn (v := .ty "str") (by rfl) T.z_str (by decide +kernel) rfl) pa_nil))))) (pw_or (pt_not (pt_chain op_le op_le pe_int (pe_callB call_len_str (by rfl) T.z_len (by decide +kernel) (pa_cons (pv 0) pa_nil)) (pe_glob rfl T.g_MOST_NAME.choose_spec.1 T.g_MOST_NAME.choose_spec.2))) (pw_or1 (pt_cmpR op_in_seq (pv 0) (pe_glob rfl T.g_KEYWORDS.choose_spec.1 T.g_KEYWORDS.choose_spec.2) (by rfl)))))) (pss_one (ps_ret pe_bl))
    pss_nil)
  (pss_one (ps_ret (pe_and (pe_cmpR op_in_sign (pe_ix ix_str (pv 0) pe_int (fun _ _ => rfl)) (pe_glob rfl T.g_LETTERS.choose_spec.1 T.g_LETTERS.choose_spec.2) (by rfl)) (pe_one (pe_cmpR op_eq (pe_call (ok_row_of T) (hr.mono (by decide)) rfl T.m_row_of T.F_row_of.kp T.b_row_of .nil pass0 (pa_cons (pv 0) (pa_cons pe_int (pa_cons (pe_op op_add_str (pe_glob rfl T.g_LETTERS.choose_spec.1 T.g_LETTERS.choose_spec.2) (pe_glob rfl T.g_FIGURES.choose_spec.1 T.g_FIGURES.choose_spec.2)) pa_nil)))) (pv 0) (nomark _))))))), ?_⟩
    obtain ⟨cs, rfl, hn, k⟩ | ⟨n, rfl, k⟩ := h
    · walk_at "sm"
      refine isi_ty (t := "str") (b := true) (.base (.str _)) (by decide +kernel) ⟨_, rfl, ?_⟩
      walk_at "sm"
      refine iteF ?_
      have hz : (S cs).length ≤ sizeLine := szS (by omega)
      have eI : (decide (1 ≤ cs.length) && decide (cs.length ≤ 8) && !(kws.contains cs) && lowB (cs.headD 0) && decide (cs.takeWhile alnB = cs)) = isNameB cs := rfl
      have e2 := inV_str cs ["fun", "let", "repeat", "if", "else", "give", "pick", "table", "routine", "from", "loop", "until", "fi", "local", "end", "call", "back"]
      have e3 : inV (V.str (S cs)) [V.str "fun", V.str "let", V.str "repeat", V.str "if", V.str "else", V.str "give", V.str "pick", V.str "table", V.str "routine", V.str "from", V.str "loop", V.str "until", V.str "fi", V.str "local", V.str "end", V.str "call", V.str "back"] = kws.contains cs := e2
      have hlen := SX.S_len cs
      refine ⟨hz, ite2 (fun h1 => ite2 (fun h8 => ?_) (fun h8 => ?_)) (fun h1 => iteT ?_)⟩
      · have h8' : ¬ cs.length ≤ 8 := fun q => by
          have z : (!decide ((((S cs).length : Nat) : Int) ≤ 8)) = false := by rw [decide_eq_true (by omega)]; rfl
          rw [z] at h8; cases h8
        rw [decide_eq_false h8', Bool.and_false, Bool.false_and, Bool.false_and, Bool.false_and] at eI
        rw [← eI] at k
        exact k
      · have h8' : cs.length ≤ 8 := by
          have z : decide ((((S cs).length : Nat) : Int) ≤ 8) = true := by simpa using h8
          have z2 := of_decide_eq_true z
          omega
        obtain ⟨c, q, rfl⟩ : ∃ c q, cs = c :: q := by
          cases cs with
          | nil => exact absurd h1 (by rw [hlen]; decide)
          | cons c q => exact ⟨c, q, rfl⟩
        rw [decide_eq_true h8', decide_eq_true (show 1 ≤ (c :: q).length by simp), Bool.true_and, Bool.true_and] at eI
        refine ⟨_, _, rfl, .inr (T.t_KEYWORDS H), rfl, kw_flat ["fun", "let", "repeat", "if", "else", "give", "pick", "table", "routine", "from", "loop", "until", "fi", "local", "end", "call", "back"], _, rfl, ?_⟩
        show (if inV _ _ = true then _ else _)
        rw [e3]
        refine ite2 (fun hk => ?_) (fun hk => ⟨hz, c, atI_nat (j := 0) rfl, ite2 (fun hm => ⟨sz (by decide), c :: q, 0, zAln, alnB, rfl, Nat.zero_le _, by omega, aln_mem, rfl, ?_⟩) (fun hm => ?_)⟩)
        · rw [hk, Bool.not_true, Bool.false_and, Bool.false_and] at eI
          rw [← eI] at k
          exact k
        · have hl : lowB c = true := by rw [← low_mem]; exact decide_eq_true hm
          have hk' : kws.contains (c :: q) = false := Bool.eq_false_iff.mpr hk
          have hl' : lowB ((c :: q).headD 0) = true := hl
          rw [hk', hl', Bool.not_false, Bool.true_and, Bool.true_and] at eI
          rw [← eI] at k
          have ed : decide (V.str (S (((c :: q).drop 0).takeWhile alnB)) = V.str (S (c :: q))) = decide ((c :: q).takeWhile alnB = c :: q) := by
            by_cases hq : (c :: q).takeWhile alnB = c :: q
            · rw [decide_eq_true hq]
              exact decide_eq_true (by rw [List.drop_zero, hq])
            · rw [decide_eq_false hq]
              exact decide_eq_false fun z => hq (SX.S_inj (V.str.inj z))
          show Q (V.bl (decide (V.str (S (((c :: q).drop 0).takeWhile alnB)) = V.str (S (c :: q))))) H
          rw [ed]
          exact k
        · have hl : lowB ((c :: q).headD 0) = false := by
            show lowB c = false
            rw [← low_mem]; exact decide_eq_false hm
          rw [hl, Bool.and_false, Bool.false_and] at eI
          rw [← eI] at k
          exact k
      · have h1' : ¬ 1 ≤ cs.length := by omega
        rw [decide_eq_false h1', Bool.false_and, Bool.false_and, Bool.false_and, Bool.false_and] at eI
        rw [← eI] at k
        exact k
    · walk_at "sm"
      refine isi_ty (t := "int") (b := false) (.base (.int _)) (by decide +kernel) ⟨_, rfl, ?_⟩
      walk_at "sm"
      exact k
def spEndOf : Sp := fun vs H Q _ => ∃ (cs : Cs) (i : Nat) (z : Str) (p : Nat → Bool), vs = [.str (S cs), .int i, .str z] ∧ i ≤ cs.length ∧ cs.length ≤ 90000 ∧ (∀ c, decide (c ∈ z.cps.toList) = p c) ∧
  Q (.int ((i + ((cs.drop i).takeWhile p).length : Nat) : Int)) H
theorem ok_law_end_of (T : Txt K mg a) : FnOk P w K mg base CX0 1 a.f_law_end_of a.d_law_end_of ["_law_text", "_law_at", "_law_signs"] spEndOf := by
  refine T.F_law_end_of.ok sc_law_end_of (fun vs H Q E h => ?_) (fun cdv A outer s H vs Q E hr h => ?_)
  · obtain ⟨_, _, _, _, rfl, _⟩ := h
    rfl
  · obtain ⟨cs, i, z, p, rfl, hi, hn, hp, k⟩ := h
    refine ⟨_, (pss_cons (ps_for PassesOwn.never rfl (pi_range2 (by rfl) T.z_range (pa_cons (pv 1) (pa_cons (pe_callB call_len_str (by rfl) T.z_len (by decide +kernel) (pa_cons (pv 0) pa_nil)) pa_nil))) (pg_name (i := 3) sc_law_end_of.nd rfl (by first | exact Or.inl rfl | exact Or.inr rfl)) (pss_one (ps_if (pt_cmpR op_notIn_sign (pe_ix ix_str (pv 0) (pv 3) (fun _ _ => rfl)) (pv 2) (by rfl)) (pss_one (ps_ret (pv 3)))
    pss_nil)))
  (pss_one (ps_ret (pe_callB call_len_str (by rfl) T.z_len (by decide +kernel) (pa_cons (pv 0) pa_nil))))), ?_⟩
    have hz : (S cs).length ≤ sizeLine := szS (by omega)
    refine ⟨_, rfl, _, rfl, _, rfl, hz, _, _, rfl, ⟨by omega, by omega, by omega, by rw [SX.S_len]; omega⟩, ?_⟩
    refine for_range (lo := (i : Int)) (n := (((S cs).length : Int) - i).toNat) (ivEnd cs i z p H) ⟨none, rfl, rfl, rfl⟩ ?_ ?_
    · rintro j σ H' hj ⟨v, rfl, rfl, h3⟩
      rw [SX.S_len] at hj
      have hb' : i + j < cs.length := by omega
      walk_at "sm"
      rw [SX.S_len]
      rw [SX.S_len] at hz
      have ej : (i : Int) + (j : Int) = ((i + j : Nat) : Int) := rfl
      rw [ej]
      refine ⟨hz, cs[i + j], str_at cs hb', ?_⟩
      have hpj := hp cs[i + j]
      rw [drop_at hb', List.takeWhile_cons] at h3
      cases hq : p cs[i + j] with
      | true =>
        rw [hq] at hpj h3
        have hmem : cs[i + j] ∈ z.cps.toList := of_decide_eq_true hpj
        refine ite2 (fun hc => ?_) (fun _ => ?_)
        · exact absurd hc (by simp [hmem])
        · refine ⟨_, rfl, rfl, ?_⟩
          rw [h3, if_pos rfl, show i + (j + 1) = i + j + 1 by omega, List.take_add_one, List.getElem?_drop, List.getElem?_eq_getElem hb']
          simp
      | false =>
        rw [hq] at hpj h3
        have hmem : ¬ cs[i + j] ∈ z.cps.toList := of_decide_eq_false hpj
        refine ite2 (fun _ => ?_) (fun hc => ?_)
        · rw [if_neg (by decide), List.append_nil] at h3
          have el : ((cs.drop i).takeWhile p).length = j := by
            rw [h3, List.length_take, List.length_drop]
            omega
          rw [el] at k
          exact k
        · exact absurd hc (by simp [hmem])
    · rintro σ H' ⟨v, rfl, rfl, h3⟩
      walk_at "sm"
      refine ⟨hz, ?_⟩
      rw [SX.S_len] at h3
      have e0 : cs.drop (i + ((cs.length : Int) - i).toNat) = [] := List.drop_eq_nil_of_le (by omega)
      rw [e0, List.takeWhile_nil, List.append_nil] at h3
      have el : i + ((cs.drop i).takeWhile p).length = cs.length := by
        rw [h3, List.length_take, List.length_drop]
        omega
      rw [el] at k
      rw [SX.S_len]
      exact k
def spSignAt : Sp := fun vs H Q _ => ∃ (cs : Cs) (i : Nat), vs = [.str (S cs), .int i] ∧ i < cs.length ∧ cs.length ≤ 90000 ∧ ∀ H', Evl.Ex H H' → Q (.str (S ((sgs.find? (fun s => s.isPrefixOf (cs.drop i))).getD []))) H'
theorem ok_law_sign_at (T : Txt K mg a) : FnOk P w K mg base CX0 1 a.f_law_sign_at a.d_law_sign_at ["_law_text", "_law_at"] spSignAt := by
  refine T.F_law_sign_at.ok sc_law_sign_at (fun vs H Q E h => ?_) (fun cdv A outer s H vs Q E hr h => ?_)
  · obtain ⟨_, _, rfl, _⟩ := h
    rfl
  · obtain ⟨cs, i, rfl, hi, hn, k⟩ := h
    refine ⟨_, (pss_cons (ps_for PassesOwn.never rfl (pi_list (pe_lst (pa_cons pe_str (pa_cons pe_str (pa_cons pe_str (pa_cons pe_str (pa_cons pe_str (pa_cons pe_str (pa_cons pe_str (pa_cons pe_str (pa_cons pe_str (pa_cons pe_str (pa_cons pe_str (pa_cons pe_str (pa_cons pe_str (pa_cons pe_str (pa_cons pe_str (pa_cons pe_str (pa_cons pe_str (pa_cons pe_str (pa_cons pe_str (pa_cons pe_str (pa_cons pe_str (pa_cons pe_str (pa_cons pe_str pa_nil))))))))))))))))))))))))) (pg_name (i := 2) sc_law_sign_at.nd rfl (by first | exact Or.inl rfl | exact Or.inr rfl)) (pss_one (ps_if (pt_cmpR op_eq (pe_slice sl_str (pv 0) (po_some (pv 1)) (po_some (pe_op op_add (pv 1) (pe_callB call_len_str (by rfl) T.z_len (by decide +kernel) (pa_cons (pv 2) pa_nil))))) (pv 2) (nomark _)) (pss_one (ps_ret (pv 2)))
    pss_nil)))
  (pss_one (ps_ret pe_str))), ?_⟩
    have hz : (S cs).length ≤ sizeLine := szS (by omega)
    refine ⟨sz (by decide), fun l hl => ⟨l, rfl, ⟨_, SqL.of upd_same⟩, ?_⟩⟩
    refine for_list (K := K) (a := l) (xs := sgL.map V.str) (ivSign H cs i l) ⟨none, rfl, Evl.Ex.new hl, upd_same, fun k z hk => absurd hk (Nat.not_lt_zero _)⟩ (fun _ _ H' _ ⟨_, _, _, h, _⟩ => SqL.of h) ?_ ?_
    · rintro j x σ H' hj ⟨v, rfl, e1, h1, hno⟩
      obtain ⟨z, hz', rfl⟩ := str_at_map hj
      have hzm : z ∈ sgL := List.mem_of_getElem? hz'
      have zl := sg_len z hzm
      walk_at "sm"
      refine ⟨sz (by omega), hz, ite2 (fun hc => ?_) (fun hc => ?_)⟩
      · have hp := (sl_sign cs hi z).mp hc
        have ef : sgs.find? (fun s => s.isPrefixOf (cs.drop i)) = some z.cps.toList := by
          refine find_at _ _ j _ (by rw [sgs_eq, List.getElem?_map, hz']; rfl) hp fun m y hm hy => ?_
          rw [sgs_eq, List.getElem?_map] at hy
          cases em : sgL[m]? with
          | none => rw [em] at hy; cases hy
          | some y' =>
            rw [em] at hy
            have q : y'.cps.toList = y := Option.some.inj hy
            rw [← q]
            exact hno m y' hm em
        have kk := k H' e1
        rw [ef] at kk
        have ez : S ((some z.cps.toList).getD []) = z := SX.S_tl z
        rw [ez] at kk
        exact kk
      · refine ⟨_, rfl, e1, h1, fun m y hm hy => ?_⟩
        by_cases hmj : m < j
        · exact hno m y hmj hy
        · have e : m = j := by omega
          subst e
          rw [hz'] at hy
          cases hy
          exact Bool.eq_false_iff.mpr fun q => hc ((sl_sign cs hi z).mpr q)
    · rintro σ H' ⟨v, rfl, e1, h1, hno⟩
      walk_at "sm"
      have ef : sgs.find? (fun s => s.isPrefixOf (cs.drop i)) = none := by
        refine find_none_take _ _ fun m y hy => ?_
        rw [sgs_eq, List.getElem?_map] at hy
        cases em : sgL[m]? with
        | none => rw [em] at hy; cases hy
        | some y' =>
          rw [em] at hy
          have q : y'.cps.toList = y := Option.some.inj hy
          rw [← q]
          refine hno m y' ?_ em
          rw [List.length_map]
          exact (List.getElem?_eq_some_iff.mp em).1
      have kk := k H' e1
      rw [ef] at kk
      exact kk
end


def kwL : List Str := ["fun", "let", "repeat", "if", "else", "give", "pick", "table", "routine", "from", "loop", "until", "fi", "local", "end", "call", "back"]
theorem kwL_split : Txt.split ("fun let repeat if else give pick table routine from loop until fi local end call back" : Str) (" " : Str) = kwL := by decide +kernel
theorem occ_open : ∀ s ∈ sgs, (!(Builtin.Str.occurrences ("([{" : Str) (S s) 0 ("([{" : Str).length 1).isEmpty) = decide (s = [123] ∨ s = [40] ∨ s = [91]) := by decide +kernel
theorem occ_close : ∀ s ∈ sgs, (!(Builtin.Str.occurrences (")]}" : Str) (S s) 0 (")]}" : Str).length 1).isEmpty) = decide (s = [125] ∨ s = [41] ∨ s = [93]) := by decide +kernel
theorem no_both : ∀ s ∈ sgs, (s = [123] ∨ s = [40] ∨ s = [91]) → ¬ (s = [125] ∨ s = [41] ∨ s = [93]) := by decide +kernel
def tv (cs : Cs) (m : Int) : Option (Int × Str) × List (List V) := if m < (cs.length : Int) then (some (-1, "long"), []) else match scan cs 0 0 with
  | .error (i, w) => (some ((i : Int), w), [])
  | .ok ts => (none, ts)
def FaultAt (H : Hp) (v : V) : Option (Int × Str) → Prop
  | none => v = .non
  | some (i, w) => ∃ f, v = .ref f ∧ H f = some (.tup [.int i, .str w])
def ToldAt (H : Hp) (p : Addr) (r : Option (Int × Str) × List (List V)) : Prop := ∃ (v : V) (l : Addr) (xs : List V), H p = some (.tup [v, .ref l]) ∧ FaultAt H v r.1 ∧ H l = some (.lst xs) ∧ ToksAt H xs r.2
theorem told_fault {H : Hp} {i : Int} {w : Str} {f l p : Addr} (hf : H f = none) (hl : upd H f (.tup [.int i, .str w]) l = none) (hp : upd (upd H f (.tup [.int i, .str w])) l (.lst []) p = none) :
    ToldAt (upd (upd (upd H f (.tup [.int i, .str w])) l (.lst [])) p (.tup [.ref f, .ref l])) p (some (i, w), []) := by
  have h1 : (upd H f (.tup [.int i, .str w])) f = some (.tup [.int i, .str w]) := upd_same
  have h2 : (upd (upd H f (.tup [.int i, .str w])) l (.lst [])) f = some (.tup [.int i, .str w]) := by rw [upd_ne (ne_of_none h1 hl)]; exact h1
  have h3 : (upd (upd H f (.tup [.int i, .str w])) l (.lst [])) l = some (.lst []) := upd_same
  exact ⟨.ref f, l, [], upd_same, ⟨f, rfl, by rw [upd_ne (ne_of_none h2 hp)]; exact h2⟩, by rw [upd_ne (ne_of_none h3 hp)]; exact h3, .nil⟩
def ivTold (H : Hp) (cs : Cs) (m : Int) (lw l : Addr) : Nat → L2.St → Hp → Prop := fun i σ H' => ∃ (xs : List V) (ts : List (List V)) (k b : Nat) (v1 v2 v3 v4 : Option V), σ = [some (.str (S cs)), some (.int m), some (.ref lw), some (.ref l), some (.int k), some (.int b), v1, v2, v3, v4] ∧
  H' lw = some (.lst (kwL.map V.str)) ∧ H' l = some (.lst xs) ∧ lw ≠ l ∧ ToksAt H' xs ts ∧ Evl.Ex H H' ∧ xs.length ≤ max i k ∧ max i k ≤ cs.length ∧ b ≤ 20 ∧ scan cs 0 0 = pre ts (scan cs (max i k) b)
/-- a token's tuple is made and appended -/
theorem push {H H1 : Hp} {l lw p : Addr} {xs ws : List V} {ts : List (List V)} {v : List V} (e1 : Evl.Ex H H1) (hl0 : H l = none) (hl1 : H1 l = some (.lst xs)) (hw : H1 lw = some (.lst ws)) (ne : lw ≠ l) (tk : ToksAt H1 xs ts) (hp : H1 p = none) :
    (upd H1 p (.tup v)) l = some (.lst xs) ∧ (upd (upd H1 p (.tup v)) l (.lst (xs ++ [.ref p]))) l = some (.lst (xs ++ [.ref p])) ∧ ToksAt (upd (upd H1 p (.tup v)) l (.lst (xs ++ [.ref p]))) (xs ++ [.ref p]) (ts ++ [v]) ∧
      Evl.Ex H (upd (upd H1 p (.tup v)) l (.lst (xs ++ [.ref p]))) ∧ (upd (upd H1 p (.tup v)) l (.lst (xs ++ [.ref p]))) lw = some (.lst ws) := by
  have hl2 : (upd H1 p (.tup v)) l = some (.lst xs) := by rw [upd_ne (ne_of_none hl1 hp)]; exact hl1
  have hp2 : (upd H1 p (.tup v)) p = some (.tup v) := upd_same
  have tk2 := tk.go (Evl.Ex.new hp (o := .tup v))
  have hp3 : (upd (upd H1 p (.tup v)) l (.lst (xs ++ [.ref p]))) p = some (.tup v) := by rw [upd_ne (ne_of hp2 hl2 (by intro z; cases z))]; exact hp2
  refine ⟨hl2, upd_same, Paired.snoc ⟨p, rfl, hp3⟩ (Paired.mapP tk2 fun _ _ ⟨q, e4, e5⟩ => ⟨q, e4, by rw [upd_ne (ne_of e5 hl2 (by intro z; cases z))]; exact e5⟩), Evl.Ex.mut (e1.trans (Evl.Ex.new hp)) hl0, ?_⟩
  rw [upd_ne ne, upd_ne (ne_of_none hw hp)]
  exact hw
theorem tv_err {cs : Cs} {m : Int} {i : Nat} {w : Str} (hm : ¬ m < (cs.length : Int)) (h : scan cs 0 0 = .error (i, w)) : tv cs m = (some ((i : Int), w), []) := by unfold tv; rw [if_neg hm, h]
theorem tv_ok {cs : Cs} {m : Int} {ts : List (List V)} (hm : ¬ m < (cs.length : Int)) (h : scan cs 0 0 = .ok ts) : tv cs m = (none, ts) := by unfold tv; rw [if_neg hm, h]
theorem pre_err {ts : List (List V)} {e : Nat × Str} : pre ts (.error e) = .error e := rfl
/-- behind the brackets of a sign -/
def midA (σ1 : L2.St) (H1 : Hp) : L2.St → Hp → Prop := fun σ H => σ = σ1 ∧ H = H1
theorem cut_tw (cs : Cs) {i : Nat} (hi : i ≤ cs.length) (p : Nat → Bool) : cutS (S cs) (some (i : Int)) (some ((i + ((cs.drop i).takeWhile p).length : Nat) : Int)) = S ((cs.drop i).takeWhile p) := by
  have hl : ((cs.drop i).takeWhile p).length ≤ (cs.drop i).length := tw_len_le _ _
  rw [List.length_drop] at hl
  rw [cut_nat cs hi (by omega), show i + ((cs.drop i).takeWhile p).length - i = ((cs.drop i).takeWhile p).length by omega, take_tw]
theorem badNum_law (r : Cs) (h4 : ¬ 4 < r.length) : badNum r = ((decide (r.head? = some 48) && decide (1 < r.length)) || decide (4095 < NumText.digitsVal r)) := by
  unfold badNum
  rw [decide_eq_false h4, Bool.false_or, Bool.or_comm, Bool.and_comm (decide (1 < r.length))]
section
variable {P : Program} {w : World} {K : PySem.W.Frag} {mg : Str → Option Value} {base : Heap} {a : Ad}
def spTold : Sp := fun vs H Q _ => ∃ (cs : Cs) (m : Int), vs = [.str (S cs), .int m] ∧ cs.length ≤ 90000 ∧ ∀ p H', Evl.Ex H H' → ToldAt H' p (tv cs m) → Q (.ref p) H'
theorem ok_law_cut_told (T : Txt K mg a) : FnOk P w K mg base CX0 2 a.f_law_cut_told a.d_law_cut_told ["_law_text", "_law_most"] spTold := by
  refine T.F_law_cut_told.ok sc_law_cut_told (fun vs H Q E h => ?_) (fun cdv A outer s H vs Q E hr h => ?_)
  · obtain ⟨_, _, rfl, _⟩ := h
    rfl
  · obtain ⟨cs, m, rfl, hn, k⟩ := h
    refine ⟨_, (pss_cons (ps_if (pt_cmpR op_gt (pe_callB call_len_str (by rfl) T.z_len (by decide +kernel) (pa_cons (pv 0) pa_nil)) (pv 1) (nomark _)) (pss_one (ps_ret (pe_tup (pa_cons (pe_tup (pa_cons (pe_un un_neg pe_int) (pa_cons pe_str pa_nil))) (pa_cons (pe_lst pa_nil) pa_nil)))))
    pss_nil)
  (pss_cons (ps_set (i := 2) sc_law_cut_told.nd rfl (by first | exact Or.inl rfl | exact Or.inr rfl) (pe_split pe_str pe_str))
  (pss_cons (ps_set (i := 3) sc_law_cut_told.nd rfl (by first | exact Or.inl rfl | exact Or.inr rfl) (pe_lst pa_nil))
  (pss_cons (ps_set (i := 4) sc_law_cut_told.nd rfl (by first | exact Or.inl rfl | exact Or.inr rfl) pe_int)
  (pss_cons (ps_set (i := 5) sc_law_cut_told.nd rfl (by first | exact Or.inl rfl | exact Or.inr rfl) pe_int)
  (pss_cons (ps_for PassesOwn.never rfl (pi_range1 (by rfl) T.z_range (pa_cons (pe_callB call_len_str (by rfl) T.z_len (by decide +kernel) (pa_cons (pv 0) pa_nil)) pa_nil)) (pg_name (i := 6) sc_law_cut_told.nd rfl (by first | exact Or.inl rfl | exact Or.inr rfl)) (pss_cons (ps_if (PW.pt (pw_or (pt_cmpR op_lt (pv 6) (pv 4) (nomark _)) (pw_or1 (pt_cmpR op_in_sign (pe_ix ix_str (pv 0) (pv 6) (fun _ _ => rfl)) pe_str (by rfl))))) (pss_one ps_continue)
    pss_nil)
  (pss_one (ps_if (pt_cmpR op_in_sign (pe_ix ix_str (pv 0) (pv 6) (fun _ _ => rfl)) pe_str (by rfl)) (pss_cons (ps_set (i := 4) sc_law_cut_told.nd rfl (by first | exact Or.inl rfl | exact Or.inr rfl) (pe_call (ok_law_end_of T) (hr.mono (by decide)) rfl T.m_law_end_of T.F_law_end_of.kp T.b_law_end_of .nil pass0 (pa_cons (pv 0) (pa_cons (pv 6) (pa_cons pe_str pa_nil)))))
  (pss_cons (ps_set (i := 7) sc_law_cut_told.nd rfl (by first | exact Or.inl rfl | exact Or.inr rfl) (pe_slice sl_str (pv 0) (po_some (pv 6)) (po_some (pv 4))))
  (pss_cons (ps_if (pt_cmpR op_gt (pe_callB call_len_str (by rfl) T.z_len (by decide +kernel) (pa_cons (pv 7) pa_nil)) pe_int (nomark _)) (pss_one (ps_ret (pe_tup (pa_cons (pe_tup (pa_cons (pv 6) (pa_cons pe_str pa_nil))) (pa_cons (pe_lst pa_nil) pa_nil)))))
    pss_nil)
  (pss_one (ps_expr (pe_bm PySem.F.plainAttrs_list PySem.F.slot_list_append PySem.F.type_list_append mt_append (pv 3) (pa_cons (pe_tup (pa_cons (pe_ifExp (pt_cmpR op_in_seq (pv 7) (pv 2) (by rfl)) pe_str pe_str) (pa_cons (pv 7) (pa_cons (pv 6) pa_nil)))) pa_nil)))))))
    (pss_one (ps_if (pt_cmpR op_in_sign (pe_ix ix_str (pv 0) (pv 6) (fun _ _ => rfl)) pe_str (by rfl)) (pss_cons (ps_set (i := 4) sc_law_cut_told.nd rfl (by first | exact Or.inl rfl | exact Or.inr rfl) (pe_call (ok_law_end_of T) (hr.mono (by decide)) rfl T.m_law_end_of T.F_law_end_of.kp T.b_law_end_of .nil pass0 (pa_cons (pv 0) (pa_cons (pv 6) (pa_cons pe_str pa_nil)))))
  (pss_cons (ps_set (i := 8) sc_law_cut_told.nd rfl (by first | exact Or.inl rfl | exact Or.inr rfl) (pe_slice sl_str (pv 0) (po_some (pv 6)) (po_some (pv 4))))
  (pss_cons (ps_if (PW.pt (pw_or (pt_cmpR op_gt (pe_callB call_len_str (by rfl) T.z_len (by decide +kernel) (pa_cons (pv 8) pa_nil)) pe_int (nomark _)) (pw_or (PW.pt (pw_and (pt_cmpR op_eq (pe_ix ix_str (pv 8) pe_int (fun _ _ => rfl)) pe_str (nomark _)) (pw_and1 (pt_cmpR op_gt (pe_callB call_len_str (by rfl) T.z_len (by decide +kernel) (pa_cons (pv 8) pa_nil)) pe_int (nomark _))))) (pw_or1 (pt_cmpR op_gt (pe_callTy call_int_str (by rfl) T.z_int (by decide +kernel) (pa_cons (pv 8) pa_nil)) pe_int (nomark _)))))) (pss_one (ps_ret (pe_tup (pa_cons (pe_tup (pa_cons (pv 6) (pa_cons pe_str pa_nil))) (pa_cons (pe_lst pa_nil) pa_nil)))))
    pss_nil)
  (pss_one (ps_expr (pe_bm PySem.F.plainAttrs_list PySem.F.slot_list_append PySem.F.type_list_append mt_append (pv 3) (pa_cons (pe_tup (pa_cons pe_str (pa_cons (pe_callTy call_int_str (by rfl) T.z_int (by decide +kernel) (pa_cons (pv 8) pa_nil)) (pa_cons (pv 6) pa_nil)))) pa_nil)))))))
    (pss_cons (ps_set (i := 9) sc_law_cut_told.nd rfl (by first | exact Or.inl rfl | exact Or.inr rfl) (pe_call (ok_law_sign_at T) (hr.mono (by decide)) rfl T.m_law_sign_at T.F_law_sign_at.kp T.b_law_sign_at .nil pass0 (pa_cons (pv 0) (pa_cons (pv 6) pa_nil))))
  (pss_cons (ps_if (pt_cmpR op_eq (pv 9) pe_str (nomark _)) (pss_one (ps_ret (pe_tup (pa_cons (pe_tup (pa_cons (pv 6) (pa_cons pe_str pa_nil))) (pa_cons (pe_lst pa_nil) pa_nil)))))
    pss_nil)
  (Evl.pss_cut (ps_if (pt_cmpR op_in_str (pv 9) pe_str (by rfl)) (pss_one (ps_set (i := 5) sc_law_cut_told.nd rfl (by first | exact Or.inl rfl | exact Or.inr rfl) (pe_op op_add (pv 5) pe_int)))
    pss_nil)
  (Evl.pss_cut (ps_if (pt_cmpR op_in_str (pv 9) pe_str (by rfl)) (pss_one (ps_set (i := 5) sc_law_cut_told.nd rfl (by first | exact Or.inl rfl | exact Or.inr rfl) (pe_callB (call_max2 rfl) (by rfl) T.z_max (by decide +kernel) (pa_cons pe_int (pa_cons (pe_op op_sub (pv 5) pe_int) pa_nil)))))
    pss_nil)
  (pss_cons (ps_if (pt_cmpR op_eq (pv 5) pe_int (nomark _)) (pss_one (ps_ret (pe_tup (pa_cons (pe_tup (pa_cons (pv 6) (pa_cons pe_str pa_nil))) (pa_cons (pe_lst pa_nil) pa_nil)))))
    pss_nil)
  (pss_cons (ps_expr (pe_bm PySem.F.plainAttrs_list PySem.F.slot_list_append PySem.F.type_list_append mt_append (pv 3) (pa_cons (pe_tup (pa_cons pe_str (pa_cons (pv 9) (pa_cons (pv 6) pa_nil)))) pa_nil)))
  (pss_one (ps_set (i := 4) sc_law_cut_told.nd rfl (by first | exact Or.inl rfl | exact Or.inr rfl) (pe_op op_add (pv 6) (pe_callB call_len_str (by rfl) T.z_len (by decide +kernel) (pa_cons (pv 9) pa_nil)))))))))))))))))
  (pss_one (ps_ret (pe_tup (pa_cons pe_non (pa_cons (pe_op op_cat (pv 3) (pe_lst (pa_cons (pe_tup (pa_cons pe_str (pa_cons pe_str (pa_cons (pe_callB call_len_str (by rfl) T.z_len (by decide +kernel) (pa_cons (pv 0) pa_nil)) pa_nil)))) pa_nil))) pa_nil))))))))))), ?_⟩
    have hz : (S cs).length ≤ sizeLine := szS (by omega)
    have hlen := SX.S_len cs
    walk_at "sm"
    rw [hlen]
    rw [hlen] at hz
    refine ⟨hz, ite2 (fun hm => ⟨sz (by decide), fun f hf => ⟨sz (by decide), fun l hl => ⟨sz (by decide), fun p hp => ?_⟩⟩⟩) (fun hm => ?_)⟩
    · refine k p _ ((Evl.Ex.new hf).trans ((Evl.Ex.new hl).trans (Evl.Ex.new hp))) ?_
      have e : tv cs m = (some (-1, ("long" : Str)), []) := by unfold tv; rw [if_pos hm]
      rw [e]
      exact told_fault hf hl hp
    · refine ⟨⟨_, rfl⟩, rfl, by decide, fun lw hlw => ?_⟩
      rw [kwL_split]
      refine ⟨sz (by decide), fun l hl => ?_⟩
      have nlw : lw ≠ l := fun q => by rw [← q, upd_same] at hl; cases hl
      have hl0 : H l = none := by rw [upd_ne (Ne.symm nlw)] at hl; exact hl
      have ew : (upd (upd H lw (.lst (kwL.map V.str))) l (.lst [])) lw = some (.lst (kwL.map V.str)) := by rw [upd_ne nlw]; exact upd_same
      have e1 : Evl.Ex H (upd (upd H lw (.lst (kwL.map V.str))) l (.lst [])) := (Evl.Ex.new hlw).trans (Evl.Ex.new hl)
      have el : (upd (upd H lw (.lst (kwL.map V.str))) l (.lst [])) l = some (.lst []) := upd_same
      generalize upd (upd H lw (.lst (kwL.map V.str))) l (.lst []) = H1 at *
      refine ⟨_, rfl, _, rfl, by rw [hlen]; exact hz, _, rfl, by omega, by rw [hlen]; omega, ?_⟩
      rw [hlen]
      refine for_range (lo := 0) (n := ((cs.length : Nat) : Int).toNat) (ivTold H cs m lw l) ⟨[], [], 0, 0, none, none, none, none, rfl, ew, el, nlw, .nil, e1, Nat.zero_le _, Nat.zero_le _, by omega, (pre_nil _).symm⟩ ?_ ?_
      · rintro i σ H2 hi ⟨xs, ts, kb, b, v1, v2, v3, v4, rfl, hw, hl1, ne, tk, e2, hx, hmx, hb20, sc⟩
        have hi' : i < cs.length := by omega
        have ei : (0 : Int) + (i : Int) = (i : Int) := Int.zero_add _
        rw [ei]
        walk_at "sm"
        refine ite2 (fun hlt => ?_) (fun hlt => ?_)
        · have em : max (i + 1) kb = max i kb := by omega
          exact ⟨xs, ts, kb, b, some (.int i), v2, v3, v4, rfl, hw, hl1, ne, tk, e2, by omega, by omega, hb20, by rw [em]; exact sc⟩
        · have em : max i kb = i := by omega
          rw [em] at sc hmx hx
          have at1 := str_at cs hi'
          have mb := bl_mem cs[i]
          have ml := low_mem cs[i]
          have md := dig_mem cs[i]
          have hdd : (cs.drop i).headD 0 = cs[i] := headD_drop hi'
          have fin : ∀ (t : Tk) (len b' : Nat) (u2 u3 u4 : Option V) (p : Addr) (QQ : VK) (H9 : Hp), Evl.Ex H2 H9 → tok1 (cs.drop i) = .ok (t, len) → blB cs[i] = false → brk t b = some b' → b' ≤ 20 → H9 p = none →
              (∀ H3, ivTold H cs m lw l (i + 1) [some (.str (S cs)), some (.int m), some (.ref lw), some (.ref l), some (.int ((i + len : Nat) : Int)), some (.int b'), some (.int i), u2, u3, u4] H3 → QQ .non H3) →
              rAppend (V.ref l) [V.ref p] (upd H9 p (.tup (t.v i))) QQ := by
            intro t len b' u2 u3 u4 p QQ H9 e9 et hb0 hk hb' hp kk
            obtain ⟨q1, q2, q3, q4, q5⟩ := push (v := t.v i) (e2.trans e9) hl0 (e9 _ _ hl1) (e9 _ _ hw) ne (tk.go e9) hp
            have hn1 := tok1_len (by rw [drop_at hi']; exact List.cons_ne_nil _ _) et
            have hn2 := tok1_le et
            rw [List.length_drop] at hn2
            have sc2 := sc
            rw [scan_tok hi' hb0 et hk hn1, pre_pre] at sc2
            have em3 : max (i + 1) (i + len) = i + len := by omega
            refine ⟨l, xs, _, rfl, rfl, q1, Nat.lt_of_le_of_lt (show xs.length ≤ 90000 by omega) (by decide), kk _ ?_⟩
            exact ⟨xs ++ [.ref p], ts ++ [t.v i], i + len, b', some (.int i), u2, u3, u4, rfl, q5, q2, ne, q3, q4, by rw [List.length_append, List.length_singleton]; omega, by omega, hb', by rw [em3]; exact sc2⟩
          have bad : ∀ (w : Str) (H9 : Hp), Evl.Ex H2 H9 → scan cs i b = .error (i, w) → ∀ f l2 p, H9 f = none → upd H9 f (.tup [.int i, .str w]) l2 = none → upd (upd H9 f (.tup [.int i, .str w])) l2 (.lst []) p = none →
              Q (.ref p) (upd (upd (upd H9 f (.tup [.int i, .str w])) l2 (.lst [])) p (.tup [.ref f, .ref l2])) := by
            intro w H9 e9 hw' f l2 p hf hl2 hp
            have sc2 := sc
            rw [hw', pre_err] at sc2
            refine k p _ (e2.trans (e9.trans ((Evl.Ex.new hf).trans ((Evl.Ex.new hl2).trans (Evl.Ex.new hp))))) ?_
            rw [tv_err hm sc2]
            exact told_fault hf hl2 hp
          refine ⟨hz, cs[i], at1, ?_⟩
          walk_at "sm"
          refine ite2 (fun hb => ?_) (fun hb => ?_)
          · have hb' : blB cs[i] = true := by rw [← mb]; exact decide_eq_true hb
            rw [scan_bl hi' hb'] at sc
            have em2 : max (i + 1) kb = i + 1 := by omega
            exact ⟨xs, ts, kb, b, some (.int i), v2, v3, v4, rfl, hw, hl1, ne, tk, e2, by omega, by omega, hb20, by rw [em2]; exact sc⟩
          · have hb' : blB cs[i] = false := by rw [← mb]; exact decide_eq_false hb
            refine ⟨hz, cs[i], at1, ite2 (fun hlo => ?_) (fun hlo => ?_)⟩
            · have hl' : lowB cs[i] = true := by rw [← ml]; exact decide_eq_true hlo
              refine ⟨cs, i, zAln, alnB, rfl, by omega, by omega, aln_mem, ?_⟩
              walk_at "sm"
              rw [cut_tw cs (by omega) alnB]
              have et : tok1 (cs.drop i) = if 8 < ((cs.drop i).takeWhile alnB).length then .error "name" else .ok (if kws.contains ((cs.drop i).takeWhile alnB) then .word ((cs.drop i).takeWhile alnB) else .name ((cs.drop i).takeWhile alnB), ((cs.drop i).takeWhile alnB).length) := by
                unfold tok1
                rw [hdd, if_pos hl']
              have lw8 : ((cs.drop i).takeWhile alnB).length ≤ cs.length - i := by
                have q := tw_len_le alnB (cs.drop i)
                rw [List.length_drop] at q
                exact q
              have e22 := inV_str ((cs.drop i).takeWhile alnB) kwL
              have hlr : (S ((cs.drop i).takeWhile alnB)).length = ((cs.drop i).takeWhile alnB).length := SX.S_len _
              have ln1 : lowB cs[i] = true → 1 ≤ ((cs.drop i).takeWhile alnB).length := fun q => by
                rw [drop_at hi', List.takeWhile_cons, if_pos (by unfold alnB; rw [q]; rfl), List.length_cons]; omega
              have ln := ln1 hl'
              generalize (cs.drop i).takeWhile alnB = r at *
              rw [hlr]
              rw [hlen]
              refine ⟨hz, sz (by omega), ite2 (fun h8 => ⟨sz (by decide), fun f hf => ⟨sz (by decide), fun l2 hl2 => ⟨sz (by decide), fun p hp => ?_⟩⟩⟩) (fun h8 => ?_)⟩
              · rw [if_pos (by omega)] at et
                exact bad _ H2 (Evl.Ex.refl H2) (scan_err hi' hb' et) f l2 p hf hl2 hp
              · rw [if_neg (by omega)] at et
                refine ⟨.inl ⟨rfl, _, SqL.of hl1⟩, _, _, rfl, .inl (SqL.of hw), rfl, kw_flat kwL, ?_⟩
                show ∃ k, V.bl (inV _ _) = V.bl k ∧ _
                refine ⟨_, rfl, ?_⟩
                rw [e22]
                have ek : (kwL.map fun s => s.cps.toList) = kws := rfl
                rw [ek]
                refine ite2 (fun hk => ⟨sz (by decide), fun p hp => ?_⟩) (fun hk => ⟨sz (by decide), fun p hp => ?_⟩)
                · rw [if_pos hk] at et
                  exact fin (.word r) r.length b (some (.str (S r))) v3 v4 p _ H2 (Evl.Ex.refl H2) et hb' rfl hb20 hp fun _ h => h
                · rw [if_neg hk] at et
                  exact fin (.name r) r.length b (some (.str (S r))) v3 v4 p _ H2 (Evl.Ex.refl H2) et hb' rfl hb20 hp fun _ h => h
            · refine ⟨hz, cs[i], at1, ite2 (fun hdi => ?_) (fun hdi => ?_)⟩
              · have hl' : lowB cs[i] = false := by rw [← ml]; exact decide_eq_false hlo
                have hd' : digB cs[i] = true := by rw [← md]; exact decide_eq_true hdi
                refine ⟨cs, i, zDig, digB, rfl, by omega, by omega, dig_mem, ?_⟩
                walk_at "sm"
                rw [cut_tw cs (by omega) digB]
                have et : tok1 (cs.drop i) = if badNum ((cs.drop i).takeWhile digB) then .error "number" else .ok (.num (NumText.digitsVal ((cs.drop i).takeWhile digB)), ((cs.drop i).takeWhile digB).length) := by
                  unfold tok1
                  rw [hdd, hl', if_pos hd']
                  rfl
                have lw8 : ((cs.drop i).takeWhile digB).length ≤ cs.length - i := by
                  have q := tw_len_le digB (cs.drop i)
                  rw [List.length_drop] at q
                  exact q
                have hlr : (S ((cs.drop i).takeWhile digB)).length = ((cs.drop i).takeWhile digB).length := SX.S_len _
                have nr : (cs.drop i).takeWhile digB ≠ [] := by
                  rw [drop_at hi', List.takeWhile_cons, if_pos hd']
                  exact List.cons_ne_nil _ _
                have ad : ((cs.drop i).takeWhile digB).all digB = true := List.all_takeWhile
                generalize (cs.drop i).takeWhile digB = r at *
                rw [hlr, hlen]
                have rz : badNum r = true → 0 + 1 + 1 ≤ sizeLine ∧ ∀ f, H2 f = none → 0 ≤ sizeLine ∧ ∀ l2, upd H2 f (.tup [.int i, .str "number"]) l2 = none → 0 + 1 + 1 ≤ sizeLine ∧ ∀ p, upd (upd H2 f (.tup [.int i, .str "number"])) l2 (.lst []) p = none →
                    Q (.ref p) (upd (upd (upd H2 f (.tup [.int i, .str "number"])) l2 (.lst [])) p (.tup [.ref f, .ref l2])) := fun hb => ⟨sz (by decide), fun f hf => ⟨sz (by decide), fun l2 hl2 => ⟨sz (by decide), fun p hp =>
                      bad _ H2 (Evl.Ex.refl H2) (scan_err hi' hb' (by rw [et, if_pos hb])) f l2 p hf hl2 hp⟩⟩⟩
                refine ⟨hz, sz (by omega), ite2 (fun h4 => rz ?_) (fun h4 => ?_)⟩
                · unfold badNum
                  rw [decide_eq_true (show 4 < r.length by omega)]
                  rfl
                · have h4' : ¬ 4 < r.length := by omega
                  have hI : intText? (S r) = some ((NumText.digitsVal r : Nat) : Int) := SX.int_S ad nr (by omega)
                  have eb := badNum_law r h4'
                  have ok : badNum r = false → tyV K "list" (V.ref l) H2 ∧ ∃ x, intText? (S r) = some x ∧ r.length ≤ 640 ∧ 0 + 1 + 1 + 1 ≤ sizeLine ∧ ∀ p, H2 p = none → rAppend (V.ref l) [V.ref p] (upd H2 p (HO.tup [V.str "number", V.int x, V.int i])) fun x H1 =>
                      ivTold H cs m lw l (i + 1) [some (V.str (S cs)), some (V.int m), some (V.ref lw), some (V.ref l), some (V.int ((i + r.length : Nat) : Int)), some (V.int b), some (V.int i), v2, some (V.str (S r)), v4] H1 := fun hb =>
                    ⟨.inl ⟨rfl, _, SqL.of hl1⟩, _, hI, by omega, sz (by decide), fun p hp => fin (.num (NumText.digitsVal r)) r.length b v2 (some (.str (S r))) v4 p _ H2 (Evl.Ex.refl H2) (by rw [et, if_neg (by rw [hb]; decide)]) hb' rfl hb20 hp fun _ h => h⟩
                  obtain ⟨c, q, rfl⟩ : ∃ c q, r = c :: q := by
                    cases r with
                    | nil => exact absurd rfl nr
                    | cons c q => exact ⟨c, q, rfl⟩
                  have tail : (decide ((c :: q).head? = some 48) && decide (1 < (c :: q).length)) = false → ∃ x, intText? (S (c :: q)) = some x ∧ (c :: q).length ≤ 640 ∧ if 4095 < x then _ else _ := fun hno =>
                    ⟨_, hI, by omega, ite2 (fun h5 => rz (by rw [eb, hno, Bool.false_or]; exact decide_eq_true (by omega))) (fun h5 => ok (by rw [eb, hno, Bool.false_or]; exact decide_eq_false (by omega)))⟩
                  refine ⟨sz (by omega), c, atI_nat (j := 0) rfl, ite2 (fun h7 => ⟨sz (by omega), ite2 (fun h6 => rz ?_) (fun h6 => tail ?_)⟩) (fun h7 => tail ?_)⟩
                  · have e48 : c = 48 := str1.mp (show (⟨#[c]⟩ : Str) = ⟨#[48]⟩ from h7)
                    subst e48
                    rw [eb, decide_eq_true (show 1 < (48 :: q).length by omega), decide_eq_true (show (48 :: q).head? = some 48 from rfl)]
                    rfl
                  · rw [decide_eq_false (show ¬ 1 < (c :: q).length by omega), Bool.and_false]
                  · have e48 : c ≠ 48 := fun e => h7 (by rw [e]; rfl)
                    rw [decide_eq_false (show ¬ (c :: q).head? = some 48 from fun e => e48 (Option.some.inj e)), Bool.false_and]
              · have hl' : lowB cs[i] = false := by rw [← ml]; exact decide_eq_false hlo
                have hd' : digB cs[i] = false := by rw [← md]; exact decide_eq_false hdi
                have et : tok1 (cs.drop i) = match sgs.find? (fun s => s.isPrefixOf (cs.drop i)) with | some s => .ok (.sign s, s.length) | none => .error "sign" := by
                  unfold tok1
                  rw [hdd, hl', hd']
                  rfl
                refine ⟨cs, i, rfl, hi', by omega, fun H3 e3 => ?_⟩
                walk_at "sm"
                cases hs : sgs.find? (fun s => s.isPrefixOf (cs.drop i)) with
                | none =>
                  rw [hs] at et
                  refine ite2 (fun _ => ⟨sz (by decide), fun f hf => ⟨sz (by decide), fun l2 hl2 => ⟨sz (by decide), fun p hp => bad _ H3 e3 (scan_err hi' hb' et) f l2 p hf hl2 hp⟩⟩⟩) (fun hc => absurd rfl hc)
                | some s =>
                  rw [hs] at et
                  have hsm : s ∈ sgs := List.mem_of_find?_eq_some hs
                  have sl := sgs_pos s hsm
                  have eg : (some s).getD [] = s := rfl
                  rw [eg]
                  have oo := occ_open s hsm
                  have oc := occ_close s hsm
                  have nb := no_both s hsm
                  have hls : (S s).length = s.length := SX.S_len s
                  refine ite2 (fun hc => ?_) (fun _ => ?_)
                  · have q : s = [] := SX.S_inj (show S s = S [] from hc)
                    rw [q] at sl
                    exact absurd sl.1 (by decide)
                  · have hk0 : brk (.sign s) b = if s = [125] ∨ s = [41] ∨ s = [93] then some (b - 1) else if s = [123] ∨ s = [40] ∨ s = [91] then (if b = 20 then none else some (b + 1)) else some b := rfl
                    refine ⟨midA [some (V.str (S cs)), some (V.int m), some (V.ref lw), some (V.ref l), some (V.int kb), some (V.int ((if s = [123] ∨ s = [40] ∨ s = [91] then b + 1 else b : Nat) : Int)), some (V.int i), v2, v3, some (V.str (S s))] H3, ?_, ?_⟩
                    · walk_at "sm"
                      rw [oo]
                      refine ite2 (fun h => ?_) (fun h => ?_)
                      · exact ⟨by rw [if_pos (of_decide_eq_true h)]; rfl, rfl⟩
                      · exact ⟨by rw [if_neg (fun q => h (decide_eq_true q))], rfl⟩
                    · rintro σ4 H4 ⟨rfl, rfl⟩
                      refine ⟨midA [some (V.str (S cs)), some (V.int m), some (V.ref lw), some (V.ref l), some (V.int kb), some (V.int ((if s = [125] ∨ s = [41] ∨ s = [93] then b - 1 else if s = [123] ∨ s = [40] ∨ s = [91] then b + 1 else b : Nat) : Int)), some (V.int i), v2, v3, some (V.str (S s))] H4, ?_, ?_⟩
                      · walk_at "sm"
                        rw [oc]
                        refine ite2 (fun h => ?_) (fun h => ?_)
                        · have h' := of_decide_eq_true h
                          have no : ¬ (s = [123] ∨ s = [40] ∨ s = [91]) := fun q => nb q h'
                          rw [if_neg no]
                          have em : (if (b : Int) - 1 > 0 then (b : Int) - 1 else 0) = ((b - 1 : Nat) : Int) := by split <;> omega
                          rw [em]
                          exact ⟨by rw [if_pos h'], rfl⟩
                        · have h' : ¬ (s = [125] ∨ s = [41] ∨ s = [93]) := fun q => h (decide_eq_true q)
                          exact ⟨by rw [if_neg h'], rfl⟩
                      · rintro σ5 H5 ⟨rfl, rfl⟩
                        walk_at "sm"
                        have et' : tok1 (cs.drop i) = .ok (.sign s, s.length) := et
                        have ok : ∀ b2, brk (.sign s) b = some b2 → b2 ≤ 20 → tyV K "list" (V.ref l) H5 ∧ 0 + 1 + 1 + 1 ≤ sizeLine ∧ ∀ p, H5 p = none → rAppend (V.ref l) [V.ref p] (upd H5 p (HO.tup [V.str "sign", V.str (S s), V.int i])) fun x H1 => (S s).length ≤ sizeLine ∧
                            ivTold H cs m lw l (i + 1) [some (V.str (S cs)), some (V.int m), some (V.ref lw), some (V.ref l), some (V.int ((i : Int) + ((S s).length : Nat))), some (V.int (b2 : Nat)), some (V.int i), v2, v3, some (V.str (S s))] H1 := fun b2 hk h20 => by
                          refine ⟨.inl ⟨rfl, _, SqL.of (e3 _ _ hl1)⟩, sz (by decide), fun p hp => ?_⟩
                          rw [hls]
                          exact fin (.sign s) s.length b2 v2 v3 (some (.str (S s))) p _ H5 e3 et' hb' hk h20 hp fun _ h => ⟨sz (by omega), h⟩
                        by_cases hc : s = [125] ∨ s = [41] ∨ s = [93]
                        · rw [if_pos hc] at hk0 ⊢
                          refine ite2 (fun h => absurd h (by omega)) (fun _ => ok _ hk0 (by omega))
                        · rw [if_neg hc] at hk0 ⊢
                          by_cases ho : s = [123] ∨ s = [40] ∨ s = [91]
                          · rw [if_pos ho] at hk0 ⊢
                            refine ite2 (fun h => ?_) (fun h => ?_)
                            · rw [if_pos (by omega)] at hk0
                              refine ⟨sz (by decide), fun f hf => ⟨sz (by decide), fun l2 hl2 => ⟨sz (by decide), fun p hp => bad _ H5 e3 (scan_deep hi' hb' et' hk0) f l2 p hf hl2 hp⟩⟩⟩
                            · rw [if_neg (by omega)] at hk0
                              exact ok _ hk0 (by omega)
                          · rw [if_neg ho] at hk0 ⊢
                            refine ite2 (fun h => absurd h (by omega)) (fun _ => ok _ hk0 hb20)
      · rintro σ H2 ⟨xs, ts, kb, b, v1, v2, v3, v4, rfl, hw, hl1, ne, tk, e2, hx, hmx, hb20, sc⟩
        walk_at "sm"
        have em : ¬ max (((cs.length : Nat) : Int).toNat) kb < cs.length := by omega
        rw [scan_end em] at sc
        rw [hlen]
        refine ⟨hz, sz (by decide), fun p hp => ⟨sz (by decide), fun q hq => ?_⟩⟩
        have hl2 : (upd H2 p (.tup (endV cs))) l = some (.lst xs) := by rw [upd_ne (ne_of_none hl1 hp)]; exact hl1
        have hp2 : (upd H2 p (.tup (endV cs))) p = some (.tup (endV cs)) := upd_same
        have tk2 := tk.go (Evl.Ex.new hp (o := .tup (endV cs)))
        have e3 : Evl.Ex H (upd H2 p (.tup (endV cs))) := e2.trans (Evl.Ex.new hp)
        show rCat (V.ref l) (V.ref q) (upd (upd H2 p (.tup (endV cs))) q (.lst [.ref p])) _
        have hq' : (upd H2 p (.tup (endV cs))) q = none := hq
        generalize upd H2 p (.tup (endV cs)) = H3 at *
        have hl3 : (upd H3 q (.lst [.ref p])) l = some (.lst xs) := by rw [upd_ne (ne_of_none hl2 hq')]; exact hl2
        refine ⟨l, q, xs, _, rfl, rfl, hl3, upd_same, Nat.le_trans (show xs.length + 1 ≤ 100000 by omega) (by decide), fun y hy => ⟨sz (by decide), fun z hz2 => ?_⟩⟩
        have e4 : Evl.Ex H3 (upd H3 q (.lst [.ref p])) := Evl.Ex.new hq'
        generalize upd H3 q (.lst [.ref p]) = H4 at *
        have e5 : Evl.Ex H4 (upd H4 y (.lst (xs ++ [.ref p]))) := Evl.Ex.new hy
        have hy2 : (upd H4 y (.lst (xs ++ [.ref p]))) y = some (.lst (xs ++ [.ref p])) := upd_same
        have e35 := e4.trans e5
        generalize upd H4 y (.lst (xs ++ [.ref p])) = H5 at *
        refine k z _ (e3.trans (e35.trans (Evl.Ex.new hz2))) ?_
        rw [tv_ok hm (show scan cs 0 0 = .ok (ts ++ [endV cs]) from sc)]
        exact ⟨.non, y, xs ++ [.ref p], upd_same, rfl, by rw [upd_ne (ne_of_none hy2 hz2)]; exact hy2, ToksAt.go (Evl.Ex.new hz2) (Paired.snoc ⟨p, rfl, e35 _ _ hp2⟩ (tk2.go e35))⟩
end


def PieceOk (cs : Cs) : Prop := cs.length ≤ 12 ∧ ∀ c ∈ cs, blB c = false
theorem HandAt.go {H H' : Hp} {p c : Addr} (e : Evl.Ex H H') (h : HandAt H p c) : HandAt H' p c := by
  obtain ⟨cells, i, g, t, hp, hc, r⟩ := h
  exact ⟨cells, i, g, t, e _ _ hp, e _ _ hc, r⟩
theorem HandAt.lt {H : Hp} {p c l : Addr} (h : HandAt H p c) (hl : H l = none) : l ≠ p := by
  obtain ⟨cells, i, g, t, hp, _⟩ := h
  exact Ne.symm (ne_of_none hp hl)
theorem HandAt.lc {H : Hp} {p c l : Addr} (h : HandAt H p c) (hl : H l = none) : l ≠ c := by
  obtain ⟨cells, i, g, t, hp, hc, _⟩ := h
  exact Ne.symm (ne_of_none hc hl)
theorem HandAt.upd {H : Hp} {p c l : Addr} {o : HO} (h : HandAt H p c) (n1 : l ≠ p) (n2 : l ≠ c) : HandAt (upd H l o) p c := by
  obtain ⟨cells, i, g, t, hp, hc, r⟩ := h
  exact ⟨cells, i, g, t, by rw [upd_ne (Ne.symm n1)]; exact hp, by rw [upd_ne (Ne.symm n2)]; exact hc, r⟩
theorem Fr.mut {p l : Addr} {H H' : Hp} {o : HO} (f : Fr p H H') (hl : H l = none) : Fr p H (L2.upd H' l o) := fun b u n h => by
  rw [upd_ne (ne_of_none h hl)]
  exact f b u n h
theorem Fr.lst {K : PySem.W.Frag} {H H' : Hp} {p l : Addr} {xs : List V} (f : Fr p H H') (n : l ≠ p) (h : H l = some (.lst xs)) : SqL K H' l xs := SqL.of (f _ _ n h)
theorem atI_str {l : List Str} {i : Int} (h0 : 0 ≤ i) (h1 : i < (l.length : Int)) : ∃ z, z ∈ l ∧ atI (l.map V.str) i = some (.str z) := by
  obtain ⟨k, rfl⟩ : ∃ k : Nat, i = (k : Int) := ⟨i.toNat, by omega⟩
  have hk : k < l.length := by omega
  exact ⟨l[k], List.getElem_mem hk, atI_nat (by rw [List.getElem?_map, List.getElem?_eq_getElem hk] <;> rfl)⟩
theorem atI_code {l : List Nat} {i : Int} (h0 : 0 ≤ i) (h1 : i < (l.length : Int)) : ∃ z, z ∈ l ∧ atI l i = some z := by
  obtain ⟨k, rfl⟩ : ∃ k : Nat, i = (k : Int) := ⟨i.toNat, by omega⟩
  have hk : k < l.length := by omega
  exact ⟨l[k], List.getElem_mem hk, atI_nat (List.getElem?_eq_getElem hk)⟩
theorem tk {p c : Addr} {m : Int} {H : Hp} {Q : VK} {E : XK} (h : HandAt H p c) (h0 : 0 < m) (h1 : m < 1073741824) (k : ∀ (r : Int) (H' : Hp), 0 ≤ r → r < m → Fr p H H' → HandAt H' p c → Q (.int r) H') : spTake [.ref p, .int m] H Q E := ⟨p, c, m, rfl, h, h0, h1, k⟩
/-- a text of at most n signs, no blank among them -/
def P2 (z : Str) (n : Nat) : Prop := z.length ≤ n ∧ ∀ c ∈ z.cps.toList, blB c = false
theorem cat_tl (x y : Str) : (x ++ y).cps.toList = x.cps.toList ++ y.cps.toList := by
  rw [← SX.S_tl x, ← SX.S_tl y, SX.S_cat]
theorem len_tl (x : Str) : x.length = x.cps.toList.length := Array.length_toList.symm
theorem P2.cat {x y : Str} {n m : Nat} (h1 : P2 x n) (h2 : P2 y m) : P2 (x ++ y) (n + m) := by
  refine ⟨?_, fun c hc => ?_⟩
  · rw [len_tl, cat_tl, List.length_append, ← len_tl, ← len_tl]
    have := h1.1; have := h2.1; omega
  · rw [cat_tl] at hc
    rcases List.mem_append.mp hc with q | q
    · exact h1.2 c q
    · exact h2.2 c q
theorem P2.mono {x : Str} {n m : Nat} (h : P2 x n) (e : n ≤ m) : P2 x m := ⟨Nat.le_trans h.1 e, h.2⟩
theorem numL_len : ∀ (k n : Nat), n < 10 ^ (k + 1) → (TL.numL n).length ≤ k + 1
  | 0, n, h => by rw [TL.numL_lt (by omega)]; exact Nat.le_refl _
  | k + 1, n, h => by
    by_cases h10 : n < 10
    · rw [TL.numL_lt h10]; exact Nat.succ_le_succ (Nat.zero_le _)
    · rw [TL.numL_step (by omega), List.length_append, List.length_singleton]
      have q : n / 10 < 10 ^ (k + 1) := by
        rw [Nat.div_lt_iff_lt_mul (by decide)]
        rw [Nat.pow_succ] at h
        exact h
      have := numL_len k (n / 10) q
      omega
theorem dig_no_bl {c : Nat} (h : 48 ≤ c ∧ c ≤ 57) : blB c = false := by unfold blB; simp; omega
theorem num_P2 {r : Int} (h0 : 0 ≤ r) (h1 : r < 10000) : P2 (Str.ofString (toString r)) 4 ∧ r.natAbs.log2 < 1920 := by
  obtain ⟨n, rfl⟩ : ∃ n : Nat, r = (n : Int) := ⟨r.toNat, by omega⟩
  refine ⟨⟨?_, fun c hc => ?_⟩, ?_⟩
  · rw [SX.num_S, SX.S_len]
    exact numL_len 3 n (by omega)
  · rw [SX.num_S] at hc
    have q := TL.numL_digits n c hc
    exact dig_no_bl q
  · have e : ((n : Int)).natAbs = n := Int.natAbs_natCast n
    rw [e]
    by_cases hz : n = 0
    · subst hz; decide
    · have := (Nat.log2_lt hz (k := 1920)).mpr (Nat.lt_of_lt_of_le (show n < 2 ^ 14 by omega) (Nat.pow_le_pow_right (by decide) (by decide)))
      exact this
theorem one_P2 {c : Nat} (h : blB c = false) : P2 ⟨#[c]⟩ 1 := ⟨Nat.le_refl _, fun d hd => by
  have q : d ∈ ([c] : List Nat) := hd
  rw [List.mem_singleton] at q
  rw [q]; exact h⟩
theorem joinL_flat : ∀ l : List (List Nat), TL.joinL [] l = l.flatten
  | [] => rfl
  | [p] => by show p = p ++ []; rw [List.append_nil]
  | p :: q :: r => by
    show p ++ ([] ++ TL.joinL [] (q :: r)) = p ++ (q :: r).flatten
    rw [joinL_flat (q :: r), List.nil_append]
theorem join_tl (ys : List Str) : (Txt.join ("" : Str) ys).cps.toList = (ys.map fun y => y.cps.toList).flatten := by
  have e : ys = (ys.map fun y => y.cps.toList).map S := by
    rw [List.map_map]
    conv => lhs; rw [← List.map_id ys]
    exact List.map_congr_left fun y _ => (SX.S_tl y).symm
  have e2 : Txt.join ("" : Str) ys = S (TL.joinL [] (ys.map fun y => y.cps.toList)) := by
    conv => lhs; rw [e]
    exact SX.join_S [] _
  rw [e2, joinL_flat]
theorem flat_len {k : Nat} : ∀ (l : List Str), (∀ y ∈ l, y.length ≤ k) → (l.map fun y => y.cps.toList).flatten.length ≤ l.length * k
  | [], _ => Nat.zero_le _
  | y :: l, h => by
    have h1 := h y List.mem_cons_self
    have h2 := flat_len l fun z hz => h z (List.mem_cons_of_mem _ hz)
    rw [List.map_cons, List.flatten_cons, List.length_append, List.length_cons, Nat.succ_mul]
    rw [len_tl] at h1
    omega
theorem join_len {k : Nat} (ys : List Str) (h : ∀ y ∈ ys, y.length ≤ k) : (Txt.join ("" : Str) ys).length ≤ ys.length * k := by
  rw [len_tl, join_tl]
  exact flat_len ys h
theorem sum_len {k : Nat} : ∀ (l : List Str), (∀ y ∈ l, y.length ≤ k) → (l.map (·.length)).sum ≤ l.length * k
  | [], _ => Nat.zero_le _
  | y :: l, h => by
    have h1 := h y List.mem_cons_self
    have h2 := sum_len l fun z hz => h z (List.mem_cons_of_mem _ hz)
    rw [List.map_cons, List.sum_cons, List.length_cons, Nat.succ_mul]
    omega
theorem join_P2 {ys : List Str} {n : Nat} (h : ∀ y ∈ ys, P2 y 1) (hn : ys.length ≤ n) : P2 (Txt.join ("" : Str) ys) n := by
  refine ⟨Nat.le_trans (join_len ys fun y hy => (h y hy).1) (by omega), fun c hc => ?_⟩
  rw [join_tl] at hc
  obtain ⟨l, hl, hcl⟩ := List.mem_flatten.mp hc
  obtain ⟨y, hy, rfl⟩ := List.mem_map.mp hl
  exact (h y hy).2 c hcl
theorem low_no_bl {c : Nat} (h : c ∈ zAln.cps.toList) : blB c = false := by
  have q : decide (c ∈ zAln.cps.toList) = true := decide_eq_true h
  rw [aln_mem] at q
  unfold alnB lowB digB at q
  unfold blB
  simp at q ⊢
  omega
theorem low_no_bl2 {c : Nat} (h : c ∈ zLow.cps.toList) : blB c = false := by
  have q : decide (c ∈ zLow.cps.toList) = true := decide_eq_true h
  rw [low_mem] at q
  unfold lowB at q
  unfold blB
  simp at q ⊢
  omega
def P2b (z : Str) (n : Nat) : Bool := decide (z.length ≤ n) && z.cps.toList.all fun c => !blB c
theorem P2b.ok {z : Str} {n : Nat} (h : P2b z n = true) : P2 z n := by
  unfold P2b at h
  rw [Bool.and_eq_true] at h
  refine ⟨of_decide_eq_true h.1, fun c hc => ?_⟩
  have q := List.all_eq_true.mp h.2 c hc
  simpa using q
theorem all_P2 {l : List Str} {n : Nat} (h : (l.all fun z => P2b z n) = true) : ∀ z ∈ l, P2 z n := fun z hz => P2b.ok (List.all_eq_true.mp h z hz)
def numsL : List Str := ["4095", "4096", "0", "00", "07", "100000", "999"]
theorem kw_P2 : ∀ z ∈ kwL, P2 z 7 := all_P2 (by decide +kernel)
theorem nums_P2 : ∀ z ∈ numsL, P2 z 7 := all_P2 (by decide +kernel)
theorem sg_P2 : ∀ z ∈ sgL, P2 z 7 := all_P2 (by decide +kernel)
theorem sg_set : ∀ z ∈ (["{", "}", "(", ")", "[", "]", ",", ";", "=", "+", "-", "*", "&", "|", "^", "==", "<", "<<", ">>", "+=", "-=", "^=", "<=>"] : List Str), P2 z 7 := all_P2 (by decide +kernel)
def oddL : List Nat := ("!~_Z:.>\t" : Str).cps.toList
theorem odd_P2 : ∀ c ∈ oddL, blB c = false := by decide +kernel
/-- a list that is indexed by a taken number -/
theorem pick {K : PySem.W.Frag} {H H' : Hp} {p l : Addr} {L : List Str} {r : Int} {Q : VK} (f : Fr p H H') (n : l ≠ p) (hl : H l = some (.lst (L.map V.str))) (h0 : 0 ≤ r) (h1 : r < (L.length : Int)) (k : ∀ z ∈ L, Q (.str z) H') : rIxL K (.ref l) (.int r) H' Q := by
  obtain ⟨z, hz, e⟩ := atI_str h0 h1
  exact ixl (f.lst n hl) e (k z hz)
def ivL (H5 : Hp) (p c : Addr) (D : Addr) (i : Nat) (H' : Hp) : Prop := ∃ ys : List Str, H' D = some (.lst (ys.map V.str)) ∧ ys.length = i ∧ (∀ y ∈ ys, P2 y 1) ∧ Fr p H5 H' ∧ HandAt H' p c
section
variable {P : Program} {w : World} {K : PySem.W.Frag} {mg : Str → Option Value} {base : Heap} {a : Ad}
def spPiece : Sp := fun vs H Q _ => ∃ p c : Addr, vs = [.ref p] ∧ HandAt H p c ∧ ∀ cs H', PieceOk cs → Fr p H H' → HandAt H' p c → Q (.str (S cs)) H'
theorem ok_law_piece (T : Txt K mg a) : FnOk P w K mg base CX0 3 a.f_law_piece a.d_law_piece ["_law_hand_here"] spPiece := by
  refine T.F_law_piece.ok sc_law_piece (fun vs H Q E h => ?_) (fun cdv A outer s H vs Q E hr h => ?_)
  · obtain ⟨_, _, rfl, _⟩ := h
    rfl
  · obtain ⟨p, c, rfl, hh, k⟩ := h
    refine ⟨_, (pss_cons (ps_set (i := 1) sc_law_piece.nd rfl (by first | exact Or.inl rfl | exact Or.inr rfl) (pe_call (ok_law_take T) (hr.mono (by decide)) rfl T.m_law_take T.F_law_take.kp T.b_law_take .nil pass0 (pa_cons (pv 0) (pa_cons pe_int pa_nil))))
  (pss_cons (ps_if (pt_cmpR op_eq (pv 1) pe_int (nomark _)) (pss_cons (ps_set (i := 2) sc_law_piece.nd rfl (by first | exact Or.inl rfl | exact Or.inr rfl) (pe_lst (pa_cons pe_str (pa_cons pe_str (pa_cons pe_str (pa_cons pe_str (pa_cons pe_str (pa_cons pe_str (pa_cons pe_str (pa_cons pe_str (pa_cons pe_str (pa_cons pe_str (pa_cons pe_str (pa_cons pe_str (pa_cons pe_str (pa_cons pe_str (pa_cons pe_str (pa_cons pe_str (pa_cons pe_str pa_nil)))))))))))))))))))
  (pss_one (ps_ret (pe_op op_add_str (pe_ix ix_list (pv 2) (pe_call (ok_law_take T) (hr.mono (by decide)) rfl T.m_law_take T.F_law_take.kp T.b_law_take .nil pass0 (pa_cons (pv 0) (pa_cons pe_int pa_nil))) (fun _ _ => rfl)) (pe_ifExp (pt_cmpR op_gt (pe_call (ok_law_take T) (hr.mono (by decide)) rfl T.m_law_take T.F_law_take.kp T.b_law_take .nil pass0 (pa_cons (pv 0) (pa_cons pe_int pa_nil))) pe_int (nomark _)) pe_str (pe_callTy call_str_int (by rfl) T.z_str (by decide +kernel) (pa_cons (pe_call (ok_law_take T) (hr.mono (by decide)) rfl T.m_law_take T.F_law_take.kp T.b_law_take .nil pass0 (pa_cons (pv 0) (pa_cons pe_int pa_nil))) pa_nil)))))))
    pss_nil)
  (pss_cons (ps_if (pt_cmpR op_lt (pv 1) pe_int (nomark _)) (pss_cons (ps_set (i := 3) sc_law_piece.nd rfl (by first | exact Or.inl rfl | exact Or.inr rfl) (pe_join pe_str (pe_lc (own := [("_law_k", 4)]) (g := gName 4) (tt := tYes) rfl sc_law_piece.nd (pi_range1 (by rfl) T.z_range (pa_cons (pe_ifExp (pt_cmpR op_gt (pe_call (ok_law_take T) (hr.mono (by decide)) rfl T.m_law_take T.F_law_take.kp T.b_law_take .nil pass0 (pa_cons (pv 0) (pa_cons pe_int pa_nil))) pe_int (nomark _)) (pe_call (ok_law_take T) (hr.mono (by decide)) rfl T.m_law_take T.F_law_take.kp T.b_law_take .nil pass0 (pa_cons (pv 0) (pa_cons pe_int pa_nil))) pe_int) pa_nil)) (blkOk_by (own := [("_law_k", 4)]) (N := ["_law_hand_here", "_law_at", "_law_words", "_law_letters", "_law_k"]) (sc := defScope s_law_piece) (by decide +kernel)) (fun _ _ _ _ _ => pg_name (i := 4) sc_law_piece.nd rfl (Or.inl rfl)) (fun _ _ _ _ _ => pts_nil) (fun _ _ _ _ _ => (pe_ix ix_str pe_str (pe_call (ok_law_take T) (hr.mono (by decide)) rfl T.m_law_take T.F_law_take.kp T.b_law_take .nil pass0 (pa_cons (pv 0) (pa_cons pe_int pa_nil))) (fun _ _ => rfl))))))
  (pss_one (ps_ret (pe_op op_add_str (pe_ix ix_str pe_str (pe_call (ok_law_take T) (hr.mono (by decide)) rfl T.m_law_take T.F_law_take.kp T.b_law_take .nil pass0 (pa_cons (pv 0) (pa_cons pe_int pa_nil))) (fun _ _ => rfl)) (pv 3)))))
    pss_nil)
  (pss_cons (ps_if (pt_cmpR op_lt (pv 1) pe_int (nomark _)) (pss_one (ps_ret (pe_callTy call_str_int (by rfl) T.z_str (by decide +kernel) (pa_cons (pe_ifExp (pt_cmpR op_eq (pe_call (ok_law_take T) (hr.mono (by decide)) rfl T.m_law_take T.F_law_take.kp T.b_law_take .nil pass0 (pa_cons (pv 0) (pa_cons pe_int pa_nil))) pe_int (nomark _)) (pe_call (ok_law_take T) (hr.mono (by decide)) rfl T.m_law_take T.F_law_take.kp T.b_law_take .nil pass0 (pa_cons (pv 0) (pa_cons pe_int pa_nil))) (pe_call (ok_law_take T) (hr.mono (by decide)) rfl T.m_law_take T.F_law_take.kp T.b_law_take .nil pass0 (pa_cons (pv 0) (pa_cons pe_int pa_nil)))) pa_nil))))
    pss_nil)
  (pss_cons (ps_if (pt_cmpR op_eq (pv 1) pe_int (nomark _)) (pss_one (ps_ret (pe_ix ix_list (pe_lst (pa_cons pe_str (pa_cons pe_str (pa_cons pe_str (pa_cons pe_str (pa_cons pe_str (pa_cons pe_str (pa_cons pe_str pa_nil)))))))) (pe_call (ok_law_take T) (hr.mono (by decide)) rfl T.m_law_take T.F_law_take.kp T.b_law_take .nil pass0 (pa_cons (pv 0) (pa_cons pe_int pa_nil))) (fun _ _ => rfl))))
    pss_nil)
  (pss_cons (ps_if (PW.pt (pw_and (pt_cmpR op_eq (pv 1) pe_int (nomark _)) (pw_and1 (pt_cmpR op_eq (pe_call (ok_law_take T) (hr.mono (by decide)) rfl T.m_law_take T.F_law_take.kp T.b_law_take .nil pass0 (pa_cons (pv 0) (pa_cons pe_int pa_nil))) pe_int (nomark _))))) (pss_one (ps_ret (pe_ix ix_str pe_str (pe_call (ok_law_take T) (hr.mono (by decide)) rfl T.m_law_take T.F_law_take.kp T.b_law_take .nil pass0 (pa_cons (pv 0) (pa_cons pe_int pa_nil))) (fun _ _ => rfl))))
    pss_nil)
  (pss_one (ps_ret (pe_ix ix_list (pe_lst (pa_cons pe_str (pa_cons pe_str (pa_cons pe_str (pa_cons pe_str (pa_cons pe_str (pa_cons pe_str (pa_cons pe_str (pa_cons pe_str (pa_cons pe_str (pa_cons pe_str (pa_cons pe_str (pa_cons pe_str (pa_cons pe_str (pa_cons pe_str (pa_cons pe_str (pa_cons pe_str (pa_cons pe_str (pa_cons pe_str (pa_cons pe_str (pa_cons pe_str (pa_cons pe_str (pa_cons pe_str (pa_cons pe_str pa_nil)))))))))))))))))))))))) (pe_call (ok_law_take T) (hr.mono (by decide)) rfl T.m_law_take T.F_law_take.kp T.b_law_take .nil pass0 (pa_cons (pv 0) (pa_cons pe_int pa_nil))) (fun _ _ => rfl)))))))))), ?_⟩
    walk_at "sm"
    have kk : ∀ (z : Str) (n : Nat) (H' : Hp), P2 z n → n ≤ 12 → Fr p H H' → HandAt H' p c → Q (.str z) H' := fun z n H' h1 h2 f h3 => by
      rw [← SX.S_tl z]
      exact k _ H' ⟨by rw [← len_tl]; exact Nat.le_trans h1.1 h2, h1.2⟩ f h3
    refine tk hh (by decide) (by decide) fun at_ H1 a0 a9 f1 hh1 => ?_
    walk_at "sm"
    refine ite2 (fun _ => ⟨sz (by decide), fun l hl => ?_⟩) (fun _ => ite2 (fun _ => ?_) (fun _ => ite2 (fun _ => ?_) (fun _ => ite2 (fun _ => ⟨sz (by decide), fun l hl => ?_⟩) (fun _ => ?_))))
    · refine tk (hh1.go (Evl.Ex.new hl)) (by decide) (by decide) fun r H2 r0 r1 f2 hh2 => ?_
      refine pick (L := kwL) f2 (hh1.lt hl) upd_same r0 (by exact r1) fun z hz => ?_
      have f12 := (f1.trans (Fr.of (Evl.Ex.new hl))).trans f2
      have pz := kw_P2 z hz
      refine tk hh2 (by decide) (by decide) fun r3 H3 r30 r31 f3 hh3 => ?_
      walk_at "sm"
      refine ite2 (fun _ => ⟨sz (by have := pz.1; show z.length + 0 ≤ 100000; omega), kk _ (7 + 0) _ (pz.cat (y := "") ⟨Nat.le_refl _, fun c hc => by cases hc⟩) (by decide) (f12.trans f3) hh3⟩) (fun _ => ?_)
      refine tk hh3 (by decide) (by decide) fun r4 H4 r40 r41 f4 hh4 => ?_
      walk_at "sm"
      have np := num_P2 r40 (by omega)
      have pc := pz.cat np.1
      refine ⟨np.2, sz ?_, kk _ _ _ pc (by decide) ((f12.trans f3).trans f4) hh4⟩
      have := pz.1; have := np.1.1; omega
    · refine ⟨⟨_, rfl⟩, ?_⟩
      have cm : ∀ (n : Nat) H5, n ≤ 8 → Fr p H H5 → HandAt H5 p c → LcG (Itr 0 n) (gName 4) tYes (tOp rIxS (tC (V.str "abcdefghijklmnopqrstuvwxyz0123456789")) (tCall spTake [] E0 (tCons (tVar 0) (tCons (tC (V.int 36)) tNil)))) [4]
          [some (V.ref p), some (V.int at_), none, none, none] (fun y H2 => ∃ x, y = V.ref x ∧ ∃ x_1, (SqL K H2 x (List.map V.str x_1) ∨ SqT K H2 x (List.map V.str x_1)) ∧ (List.map (fun x => x.length) x_1).sum + x_1.length * ("" : Str).length ≤ 16777216 ∧
            spTake [V.ref p, V.int 26] H2 (fun y H2 => ∃ x, y = V.int x ∧ ("abcdefghijklmnopqrstuvwxyz" : Str).length ≤ sizeLine ∧ ∃ x_2, atI ("abcdefghijklmnopqrstuvwxyz" : Str).cps.toList x = some x_2 ∧
              (⟨#[x_2]⟩ : Str).length + (Txt.join ("" : Str) x_1).length ≤ sizeLine ∧ Q (V.str ((⟨#[x_2]⟩ : Str) ++ Txt.join ("" : Str) x_1)) H2) E0) H5 := by
        intro n H5 hn f5 hh5
        refine lcg_range (ivL H5 p c) (fun D hD => ⟨[], upd_same, rfl, (by intro y hy; cases hy), (Fr.refl H5).mut hD, hh5.upd (hh5.lt hD) (hh5.lc hD)⟩) (fun D i H6 hD hi ⟨ys, h1, h2, h3, f6, hh6⟩ => ?_) (fun D H6 hD ⟨ys, h1, h2, h3, f6, hh6⟩ => ?_)
        · walk_at "sm"
          refine tk hh6 (by decide) (by decide) fun r H7 r0 r1 f7 hh7 => ?_
          walk_at "sm"
          obtain ⟨d, hd, ed⟩ := atI_code (l := zAln.cps.toList) r0 (by exact r1)
          have nDp := hh5.lt hD
          refine ⟨sz (by decide), d, ed, _, f7 _ _ nDp h1, Nat.lt_of_le_of_lt (show (ys.map V.str).length ≤ 100 by rw [List.length_map]; omega) (by decide), ys ++ [⟨#[d]⟩], by rw [upd_same, List.map_append]; rfl, by rw [List.length_append, h2]; rfl, ?_, (f6.trans f7).mut hD, hh7.upd nDp (hh5.lc hD)⟩
          intro y hy
          rcases List.mem_append.mp hy with q | q
          · exact h3 y q
          · rw [List.mem_singleton] at q
            rw [q]
            exact one_P2 (low_no_bl hd)
        · have ps := sum_len (k := 1) ys fun y hy => (h3 y hy).1
          have jp := join_P2 h3 (Nat.le_refl ys.length)
          refine ⟨D, rfl, ys, .inl (SqL.of h1), by show _ + ys.length * 0 ≤ _; omega, ?_⟩
          refine tk hh6 (by decide) (by decide) fun r H7 r0 r1 f7 hh7 => ?_
          obtain ⟨d, hd, ed⟩ := atI_code (l := zLow.cps.toList) r0 (by exact r1)
          refine ⟨r, rfl, sz (by decide), d, ed, sz ?_, ?_⟩
          · have := jp.1
            show 1 + _ ≤ _
            omega
          · exact kk _ _ _ ((one_P2 (low_no_bl2 hd)).cat jp) (by omega) ((f5.trans f6).trans f7) hh7
      refine tk hh1 (by decide) (by decide) fun r H2 r0 r1 f2 hh2 => ?_
      walk_at "sm"
      refine ite2 (fun _ => ?_) (fun _ => ⟨by decide, by decide, cm 7 H2 (by decide) (f1.trans f2) hh2⟩)
      refine tk hh2 (by decide) (by decide) fun r3 H3 r30 r31 f3 hh3 => ?_
      walk_at "sm"
      exact ⟨by omega, by omega, cm _ H3 (by omega) ((f1.trans f2).trans f3) hh3⟩
    · refine tk hh1 (by decide) (by decide) fun r H2 r0 r1 f2 hh2 => ?_
      walk_at "sm"
      refine ite2 (fun _ => ?_) (fun _ => ?_)
      · refine tk hh2 (by decide) (by decide) fun r4 H4 r40 r41 f4 hh4 => ?_
        walk_at "sm"
        have np := num_P2 r40 (by omega)
        exact ⟨np.2, kk _ _ _ np.1 (by decide) ((f1.trans f2).trans f4) hh4⟩
      · refine tk hh2 (by decide) (by decide) fun r4 H4 r40 r41 f4 hh4 => ?_
        walk_at "sm"
        have np := num_P2 r40 (by omega)
        exact ⟨np.2, kk _ _ _ np.1 (by decide) ((f1.trans f2).trans f4) hh4⟩
    · refine tk (hh1.go (Evl.Ex.new hl)) (by decide) (by decide) fun r H2 r0 r1 f2 hh2 => ?_
      refine pick (L := numsL) f2 (hh1.lt hl) upd_same r0 (by exact r1) fun z hz => ?_
      exact kk z 7 H2 (nums_P2 z hz) (by decide) ((f1.trans (Fr.of (Evl.Ex.new hl))).trans f2) hh2
    · have sg : ∀ H5, Fr p H H5 → HandAt H5 p c → ∀ l, H5 l = none → spTake [V.ref p, V.int 23] (upd H5 l (.lst ((["{", "}", "(", ")", "[", "]", ",", ";", "=", "+", "-", "*", "&", "|", "^", "==", "<", "<<", ">>", "+=", "-=", "^=", "<=>"] : List Str).map V.str))) (fun y H2 => rIxL K (V.ref l) y H2 Q) E0 := by
        intro H5 f5 hh5 l hl
        refine tk (hh5.go (Evl.Ex.new hl)) (by decide) (by decide) fun r H6 r0 r1 f6 hh6 => ?_
        refine pick f6 (hh5.lt hl) upd_same r0 (by exact r1) fun z hz => ?_
        exact kk z 7 H6 (sg_set z hz) (by decide) ((f5.trans (Fr.of (Evl.Ex.new hl))).trans f6) hh6
      refine ite2 (fun _ => ?_) (fun _ => ⟨sz (by decide), fun l hl => sg H1 f1 hh1 l hl⟩)
      refine tk hh1 (by decide) (by decide) fun r H2 r0 r1 f2 hh2 => ?_
      walk_at "sm"
      refine ite2 (fun _ => ?_) (fun _ => ⟨sz (by decide), fun l hl => sg H2 (f1.trans f2) hh2 l hl⟩)
      refine tk hh2 (by decide) (by decide) fun r4 H4 r40 r41 f4 hh4 => ?_
      walk_at "sm"
      obtain ⟨d, hd, ed⟩ := atI_code (l := oddL) r40 (by exact r41)
      exact ⟨sz (by decide), d, ed, kk _ 1 _ (one_P2 (odd_P2 d hd)) (by decide) ((f1.trans f2).trans f4) hh4⟩
end


/-! ### flat data compared -/
def dV : V → PyData
  | .bl b => .bool b
  | .int i => .int i
  | .str x => .str x
  | _ => .none
def okF : V → Bool
  | .non => true
  | .bl _ => true
  | .int _ => true
  | .str x => PyData.strOk x
  | _ => false
theorem dp_flat {K : PySem.W.Frag} {H : Hp} {v : V} (h : okF v = true) : Dp K H v (dV v) := by
  cases v with
  | non => exact .non
  | bl b => exact .bl b
  | int i => exact .int i
  | str x => exact .str x
  | byt b => cases h
  | flt b => cases h
  | ref b => cases h
  | ty b => cases h
theorem dp_flats {K : PySem.W.Frag} {H : Hp} : ∀ {vs : List V}, vs.all okF = true → DpAll K H vs (vs.map dV)
  | [], _ => .nil
  | v :: vs, h => by
    rw [List.all_cons, Bool.and_eq_true] at h
    exact .cons (dp_flat h.1) (dp_flats h.2)
theorem lay_flat {v : V} (h : okF v = true) : (dV v).canLay0 = true ∧ (dV v).depth ≤ 1 := by
  cases v with
  | non => exact ⟨rfl, by decide⟩
  | bl b => exact ⟨rfl, by show 0 ≤ 1; omega⟩
  | int i => exact ⟨rfl, by show 0 ≤ 1; omega⟩
  | str x => exact ⟨h, by show 0 ≤ 1; omega⟩
  | byt b => cases h
  | flt b => cases h
  | ref b => cases h
  | ty b => cases h
theorem lay_all {n : Nat} : ∀ {ds : List PyData}, (∀ d ∈ ds, d.canLay0 = true ∧ d.depth ≤ n) → PyData.canLayAll0 ds = true ∧ PyData.depthAll ds ≤ n
  | [], _ => ⟨rfl, Nat.zero_le _⟩
  | d :: ds, h => by
    have h1 := h d List.mem_cons_self
    have h2 := lay_all (ds := ds) fun x hx => h x (List.mem_cons_of_mem _ hx)
    refine ⟨?_, ?_⟩
    · show (d.canLay0 && PyData.canLayAll0 ds) = true
      rw [h1.1, h2.1]; rfl
    · show max d.depth (PyData.depthAll ds) ≤ n
      omega
theorem lay_tup {n : Nat} {ds : List PyData} (h : ∀ d ∈ ds, d.canLay0 = true ∧ d.depth ≤ n) : (PyData.tuple ds).canLay0 = true ∧ (PyData.tuple ds).depth ≤ n + 1 := by
  have q := lay_all h
  exact ⟨q.1, by show PyData.depthAll ds + 1 ≤ n + 1; omega⟩
theorem lay_lst {n : Nat} {ds : List PyData} (h : ∀ d ∈ ds, d.canLay0 = true ∧ d.depth ≤ n) : (PyData.list ds).canLay0 = true ∧ (PyData.list ds).depth ≤ n + 1 := by
  have q := lay_all h
  exact ⟨q.1, by show PyData.depthAll ds + 1 ≤ n + 1; omega⟩
theorem shaped_of {d : PyData} {n : Nat} (h : d.canLay0 = true ∧ d.depth ≤ n) (hn : n ≤ 64) : SeqAt.shaped d = true := by
  unfold SeqAt.shaped
  rw [h.1, decide_eq_true (Nat.le_trans h.2 hn)]
  rfl
def dTok (v : List V) : PyData := .tuple (v.map dV)
theorem lay_tok {v : List V} (h : v.all okF = true) : (dTok v).canLay0 = true ∧ (dTok v).depth ≤ 2 := lay_tup fun d hd => by
  obtain ⟨x, hx, rfl⟩ := List.mem_map.mp hd
  exact lay_flat (List.all_eq_true.mp h x hx)
theorem dp_toks {K : PySem.W.Frag} {H : Hp} : ∀ {xs : List V} {ts : List (List V)}, ToksAt H xs ts → (∀ v ∈ ts, v.all okF = true) → DpAll K H xs (ts.map dTok)
  | _, _, .nil, _ => .nil
  | _, _, .cons ⟨b, e1, e2⟩ t, h => by
    subst e1
    exact .cons (.tup (SqT.of e2) (dp_flats (h _ List.mem_cons_self))) (dp_toks t fun v hv => h v (List.mem_cons_of_mem _ hv))
theorem lay_toks {ts : List (List V)} (h : ∀ v ∈ ts, v.all okF = true) : (PyData.list (ts.map dTok)).canLay0 = true ∧ (PyData.list (ts.map dTok)).depth ≤ 3 := lay_lst fun d hd => by
  obtain ⟨x, hx, rfl⟩ := List.mem_map.mp hd
  exact lay_tok (h x hx)
/-- x != y of equal data -/
theorem ne_same {K : PySem.W.Frag} {H : Hp} {x y : V} {d : PyData} {Q : VK} (hx : Dp K H x d) (hy : Dp K H y d) (hs : SeqAt.shaped d = true) (q : Q (.bl false) H) : rNeD K x y H Q :=
  ⟨d, d, hx, hy, hs, hs, by rw [SeqAt.eqv_refl d (SeqAt.canLay_of_shaped hs)]; exact q⟩
theorem eq_same {K : PySem.W.Frag} {H : Hp} {x y : V} {d : PyData} {Q : VK} (hx : Dp K H x d) (hy : Dp K H y d) (hs : SeqAt.shaped d = true) (q : Q (.bl true) H) : rEqD K x y H Q :=
  ⟨d, d, hx, hy, hs, hs, by rw [SeqAt.eqv_refl d (SeqAt.canLay_of_shaped hs)]; exact q⟩
/-! ### what scan tells can be compared -/
theorem ok_codes {l : List Nat} (h : ∀ c ∈ l, c < 1114112) : PyData.strOk (S l) = true := by
  unfold PyData.strOk
  rw [Array.all_eq_true']
  intro c hc
  exact decide_eq_true (h c (by simpa using hc))
theorem aln_lt {c : Nat} (h : alnB c = true) : c < 1114112 := by
  unfold alnB lowB digB at h
  simp at h
  omega
theorem tw_all {p : Nat → Bool} {l : List Nat} {c : Nat} (h : c ∈ l.takeWhile p) : p c = true := List.all_eq_true.mp (List.all_takeWhile (p := p) (l := l)) c h
theorem sgs_ok : ∀ s ∈ sgs, PyData.strOk (S s) = true := by decide +kernel
theorem kind_ok (t : Tk) : PyData.strOk t.kind = true := by
  cases t with
  | word w => show PyData.strOk ("word" : Str) = true; decide +kernel
  | name w => show PyData.strOk ("name" : Str) = true; decide +kernel
  | num w => show PyData.strOk ("number" : Str) = true; decide +kernel
  | sign w => show PyData.strOk ("sign" : Str) = true; decide +kernel
theorem tok1_ok {r : Cs} {t : Tk} {l : Nat} (h : tok1 r = .ok (t, l)) : okF t.val = true := by
  unfold tok1 at h
  have hw : PyData.strOk (S (r.takeWhile alnB)) = true := ok_codes fun c hc => aln_lt (tw_all hc)
  by_cases h1 : lowB (r.headD 0) = true
  · rw [if_pos h1] at h
    split at h
    · cases h
    · by_cases h2 : kws.contains (r.takeWhile alnB) = true
      · rw [if_pos h2] at h
        cases h
        exact hw
      · rw [if_neg h2] at h
        cases h
        exact hw
  · rw [if_neg h1] at h
    split at h
    · split at h
      · cases h
      · cases h
        rfl
    · split at h
      · rename_i s hs
        cases h
        exact sgs_ok s (List.mem_of_find?_eq_some hs)
      · cases h
theorem tok1_err {r : Cs} {w : Str} (h : tok1 r = .error w) : PyData.strOk w = true := by
  unfold tok1 at h
  split at h
  · split at h
    · cases h; decide +kernel
    · cases h
  · split at h
    · split at h
      · cases h; decide +kernel
      · cases h
    · split at h
      · cases h
      · cases h; decide +kernel
def TokV (v : List V) : Prop := ∃ (kind : Str) (x : V) (n : Int), v = [.str kind, x, .int n] ∧ (kind = "number" → ∃ j, x = .int j)
theorem tokV_t (t : Tk) (i : Nat) : TokV (t.v i) := by
  refine ⟨t.kind, t.val, i, rfl, fun h => ?_⟩
  cases t with
  | word w => exact absurd h (by show ¬ ("word" : Str) = "number"; decide +kernel)
  | name w => exact absurd h (by show ¬ ("name" : Str) = "number"; decide +kernel)
  | num w => exact ⟨_, rfl⟩
  | sign w => exact absurd h (by show ¬ ("sign" : Str) = "number"; decide +kernel)
theorem tokV_e (cs : Cs) : TokV (endV cs) := ⟨"end", .str "", cs.length, rfl, fun h => absurd h (by decide +kernel)⟩
def okT (v : List V) : Prop := v.all okF = true ∧ TokV v
def resOk : Except (Nat × Str) (List (List V)) → Prop
  | .ok ts => ∀ v ∈ ts, okT v
  | .error e => PyData.strOk e.2 = true
theorem resOk.pre {v : List V} {r : Except (Nat × Str) (List (List V))} (hv : okT v) (h : resOk r) : resOk (pre [v] r) := by
  cases r with
  | error e => exact h
  | ok ts =>
    intro x hx
    rcases List.mem_cons.mp hx with rfl | hx
    · exact hv
    · exact h x hx
theorem scan_ok (cs : Cs) : ∀ (n i b : Nat), cs.length - i ≤ n → resOk (scan cs i b) := by
  intro n
  induction n with
  | zero =>
    intro i b hn
    rw [scan_end (by omega)]
    intro v hv
    rw [List.mem_singleton] at hv
    subst hv
    exact ⟨by show (PyData.strOk ("end" : Str) && (PyData.strOk ("" : Str) && true)) = true; decide +kernel, tokV_e cs⟩
  | succ n ih =>
    intro i b hn
    by_cases hi : i < cs.length
    · by_cases hb : blB cs[i] = true
      · rw [scan_bl hi hb]
        exact ih _ _ (by omega)
      · have hb' : blB cs[i] = false := Bool.eq_false_iff.mpr hb
        cases ht : tok1 (cs.drop i) with
        | error w =>
          rw [scan_err hi hb' ht]
          exact tok1_err ht
        | ok tl =>
          obtain ⟨t, l⟩ := tl
          have hl := tok1_len (by rw [drop_at hi]; exact List.cons_ne_nil _ _) ht
          cases hk : brk t b with
          | none =>
            rw [scan_deep hi hb' ht hk]
            show PyData.strOk ("deep" : Str) = true
            decide +kernel
          | some b' =>
            rw [scan_tok hi hb' ht hk hl]
            refine resOk.pre ⟨?_, tokV_t t i⟩ (ih _ _ (by omega))
            show (PyData.strOk t.kind && (okF t.val && true)) = true
            rw [kind_ok, tok1_ok ht]
            rfl
    · rw [scan_end hi]
      intro v hv
      rw [List.mem_singleton] at hv
      subst hv
      exact ⟨by show (PyData.strOk ("end" : Str) && (PyData.strOk ("" : Str) && true)) = true; decide +kernel, tokV_e cs⟩
theorem tv_okT (cs : Cs) (m : Int) : ∀ v ∈ (tv cs m).2, okT v := by
  unfold tv
  split
  · intro v hv; cases hv
  · have q := scan_ok cs _ 0 0 (Nat.le_refl _)
    cases hs : scan cs 0 0 with
    | error e => intro v hv; cases hv
    | ok ts => rw [hs] at q; exact q
theorem tv_okF (cs : Cs) (m : Int) : ∀ i w, (tv cs m).1 = some (i, w) → PyData.strOk w = true := by
  unfold tv
  split
  · intro i w h
    cases h
    decide +kernel
  · have q := scan_ok cs _ 0 0 (Nat.le_refl _)
    cases hs : scan cs 0 0 with
    | error e => intro i w h; cases h; rw [hs] at q; exact q
    | ok ts => intro i w h; cases h
def dF : Option (Int × Str) → PyData
  | none => .none
  | some (i, w) => .tuple [.int i, .str w]
theorem dp_fault {K : PySem.W.Frag} {H : Hp} {v : V} {o : Option (Int × Str)} (h : FaultAt H v o) : Dp K H v (dF o) := by
  cases o with
  | none =>
    have e : v = .non := h
    rw [e]; exact .non
  | some q =>
    obtain ⟨f, e1, e2⟩ := h
    rw [e1]
    exact .tup (SqT.of e2) (.cons (.int _) (.cons (.str _) .nil))
theorem shaped_fault {o : Option (Int × Str)} (h : ∀ i w, o = some (i, w) → PyData.strOk w = true) : SeqAt.shaped (dF o) = true := by
  cases o with
  | none => decide
  | some q =>
    obtain ⟨i, w⟩ := q
    have hw := h i w rfl
    refine shaped_of (n := 2) (lay_tup (n := 1) fun d hd => ?_) (by decide)
    rcases List.mem_cons.mp hd with rfl | hd
    · exact ⟨rfl, by show 0 ≤ 1; omega⟩
    · rw [List.mem_singleton] at hd
      subst hd
      exact ⟨hw, by show 0 ≤ 1; omega⟩


theorem scan_len1 (cs : Cs) : ∀ (n i b : Nat), cs.length - i ≤ n → ∀ ts, scan cs i b = .ok ts → 1 ≤ ts.length := by
  intro n
  induction n with
  | zero =>
    intro i b hn ts h
    rw [scan_end (by omega)] at h
    cases h
    exact Nat.le_refl _
  | succ n ih =>
    intro i b hn ts h
    by_cases hi : i < cs.length
    · by_cases hb : blB cs[i] = true
      · rw [scan_bl hi hb] at h
        exact ih _ _ (by omega) ts h
      · have hb' : blB cs[i] = false := Bool.eq_false_iff.mpr hb
        cases ht : tok1 (cs.drop i) with
        | error w => rw [scan_err hi hb' ht] at h; cases h
        | ok tl =>
          obtain ⟨t, l⟩ := tl
          have hl := tok1_len (by rw [drop_at hi]; exact List.cons_ne_nil _ _) ht
          cases hk : brk t b with
          | none => rw [scan_deep hi hb' ht hk] at h; cases h
          | some b' =>
            rw [scan_tok hi hb' ht hk hl] at h
            cases hs : scan cs (i + l) b' with
            | error e => rw [hs] at h; cases h
            | ok us =>
              rw [hs] at h
              cases h
              show 1 ≤ us.length + 1
              omega
    · rw [scan_end hi] at h
      cases h
      exact Nat.le_refl _
theorem scan_len2 {cs : Cs} {i b : Nat} (hi : i < cs.length) (hb : blB cs[i] = false) {ts : List (List V)} (h : scan cs i b = .ok ts) : 2 ≤ ts.length := by
  cases ht : tok1 (cs.drop i) with
  | error w => rw [scan_err hi hb ht] at h; cases h
  | ok tl =>
    obtain ⟨t, l⟩ := tl
    have hl := tok1_len (by rw [drop_at hi]; exact List.cons_ne_nil _ _) ht
    cases hk : brk t b with
    | none => rw [scan_deep hi hb ht hk] at h; cases h
    | some b' =>
      rw [scan_tok hi hb ht hk hl] at h
      cases hs : scan cs (i + l) b' with
      | error e => rw [hs] at h; cases h
      | ok us =>
        rw [hs] at h
        have q := scan_len1 cs _ _ _ (Nat.le_refl _) us hs
        cases h
        show 2 ≤ us.length + 1
        omega
theorem kind_name {t : Tk} (h : t.kind = ("name" : Str)) : ∃ w, t = .name w := by
  cases t with
  | word w => exact absurd h (by show ¬ ("word" : Str) = "name"; decide +kernel)
  | name w => exact ⟨w, rfl⟩
  | num w => exact absurd h (by show ¬ ("number" : Str) = "name"; decide +kernel)
  | sign w => exact absurd h (by show ¬ ("sign" : Str) = "name"; decide +kernel)
theorem tok1_name {r w : Cs} {l : Nat} (h : tok1 r = .ok (.name w, l)) : lowB (r.headD 0) = true ∧ w = r.takeWhile alnB ∧ l = (r.takeWhile alnB).length ∧ (r.takeWhile alnB).length ≤ 8 ∧ kws.contains (r.takeWhile alnB) = false := by
  unfold tok1 at h
  by_cases h1 : lowB (r.headD 0) = true
  · rw [if_pos h1] at h
    split at h
    · cases h
    · rename_i h8
      by_cases h2 : kws.contains (r.takeWhile alnB) = true
      · rw [if_pos h2] at h; cases h
      · rw [if_neg h2] at h
        cases h
        exact ⟨h1, rfl, rfl, by omega, Bool.eq_false_iff.mpr h2⟩
  · rw [if_neg h1] at h
    split at h
    · split at h <;> cases h
    · split at h <;> cases h
theorem scan_name {cs : Cs} (hn : isNameB cs = true) (hb : ∀ c ∈ cs, blB c = false) : scan cs 0 0 = .ok [(Tk.name cs).v 0, endV cs] := by
  unfold isNameB at hn
  simp only [Bool.and_eq_true, decide_eq_true_eq, Bool.not_eq_true'] at hn
  obtain ⟨⟨⟨⟨h1, h8⟩, hk⟩, hl⟩, htw⟩ := hn
  have hi : 0 < cs.length := by omega
  have ht : tok1 (cs.drop 0) = .ok (.name cs, cs.length) := by
    rw [List.drop_zero]
    unfold tok1
    rw [if_pos hl, htw, if_neg (by omega), if_neg (by rw [hk]; decide)]
  rw [scan_tok hi (hb _ (List.getElem_mem hi)) ht (rfl : brk (.name cs) 0 = some 0) h1, Nat.zero_add, scan_end (Nat.lt_irrefl _)]
  rfl
theorem name_due {cs : Cs} (hb : ∀ c ∈ cs, blB c = false) (hl : cs.length ≤ 12) : ((tv cs 3000).2.length ≠ 2 → isNameB cs = false) ∧
    ∀ k x n r, (tv cs 3000).2 = [V.str k, x, n] :: r → (tv cs 3000).2.length = 2 → isNameB cs = decide (k = ("name" : Str)) := by
  have hm : ¬ (3000 : Int) < (cs.length : Int) := by omega
  constructor
  · intro h2
    refine Bool.eq_false_iff.mpr fun hn => h2 ?_
    rw [tv_ok hm (scan_name hn hb)]
    rfl
  · intro k x n r e h2
    cases hn : isNameB cs with
    | true =>
      rw [tv_ok hm (scan_name hn hb)] at e
      have e1 := (List.cons.inj e).1
      have e2 : V.str ("name" : Str) = V.str k := (List.cons.inj e1).1
      rw [← V.str.inj e2]
      exact (decide_eq_true rfl).symm
    | false =>
      refine (decide_eq_false fun hk => ?_).symm
      subst hk
      refine absurd hn ?_
      cases hs : scan cs 0 0 with
      | error q =>
        obtain ⟨i, w⟩ := q
        rw [tv_err hm hs] at e; cases e
      | ok ts =>
        rw [tv_ok hm hs] at e h2
        have e' : ts = [V.str "name", x, n] :: r := e
        have h2' : ts.length = 2 := h2
        by_cases hi : 0 < cs.length
        · have hb0 := hb _ (List.getElem_mem hi)
          cases ht : tok1 (cs.drop 0) with
          | error w => rw [scan_err hi hb0 ht] at hs; cases hs
          | ok tl =>
            obtain ⟨t, l⟩ := tl
            have hl1 := tok1_len (by rw [drop_at hi]; exact List.cons_ne_nil _ _) ht
            cases hk : brk t 0 with
            | none => rw [scan_deep hi hb0 ht hk] at hs; cases hs
            | some b' =>
              rw [scan_tok hi hb0 ht hk hl1, Nat.zero_add] at hs
              cases hu : scan cs l b' with
              | error q => rw [hu] at hs; cases hs
              | ok us =>
                rw [hu] at hs
                have q : t.v 0 :: us = ts := Except.ok.inj hs
                rw [e'] at q
                have q1 := (List.cons.inj q).1
                have q2 : V.str t.kind = V.str "name" := (List.cons.inj q1).1
                obtain ⟨w, rfl⟩ := kind_name (V.str.inj q2)
                rw [List.drop_zero] at ht
                obtain ⟨n1, n2, n3, n4, n5⟩ := tok1_name ht
                have q3 : us = r := (List.cons.inj q).2
                have lu : us.length = 1 := by rw [e'] at h2'; rw [q3]; have : r.length + 1 = 2 := h2'; omega
                have hge : ¬ l < cs.length := fun hlt => by
                  have := scan_len2 hlt (hb _ (List.getElem_mem hlt)) hu
                  omega
                have tl := tw_len_le alnB cs
                have htw : cs.takeWhile alnB = cs := by
                  have e5 := take_tw alnB cs
                  rw [← e5, List.take_of_length_le (by omega)]
                have hT : isNameB cs = true := by
                  unfold isNameB
                  rw [htw] at n4 n5
                  rw [decide_eq_true (show 1 ≤ cs.length by omega), decide_eq_true n4, n5, n1, decide_eq_true htw]
                  rfl
                rw [hT]
                decide
        · rw [scan_end hi] at hs
          cases hs
          have : (1 : Nat) = 2 := h2'
          omega


theorem op_eqD_s {X : Cx} {a : Addr} {pins : List (Addr × Obj)} (hu : (X.suite a pins).A.units + 64 < cLine) : OpR (X.suite a pins) (compareOp .Eq) (rEqD X.K) := op_eqD hu
theorem op_neD_s {X : Cx} {a : Addr} {pins : List (Addr × Obj)} (hu : (X.suite a pins).A.units + 64 < cLine) : OpR (X.suite a pins) (compareOp .NotEq) (rNeD X.K) := op_neD hu
theorem ix_list_b {X : Cx} {s : Shared} {H : Hp} {scope : Scope} {env : Env} {fp : List Addr} : IxR (X.blk s H scope env fp) (rIxL X.K) := ix_list
theorem ix_tup_b {X : Cx} {s : Shared} {H : Hp} {scope : Scope} {env : Env} {fp : List Addr} : IxR (X.blk s H scope env fp) (rIxT X.K) := ix_tup
/-- a list of pieces stands at l -/
def PcsAt (H : Hp) (l : Addr) (n : Nat) : Prop := ∃ ys : List Str, H l = some (.lst (ys.map V.str)) ∧ ys.length ≤ n ∧ ∀ y ∈ ys, P2 y 12
def ivP (H5 : Hp) (p c : Addr) (k : Nat) (D : Addr) (i : Nat) (H' : Hp) : Prop := ∃ ys : List Str, H' D = some (.lst (ys.map V.str)) ∧ ys.length = i ∧ (∀ y ∈ ys, P2 y k) ∧ Fr p H5 H' ∧ HandAt H' p c
def ivT (H5 : Hp) (p c : Addr) (k : Nat) (D : Addr) (i : Nat) (H' : Hp) : Prop := ∃ ys : List Str, H' D = some (.lst (ys.map V.str)) ∧ ys.length = i ∧ (∀ y ∈ ys, y.length ≤ k) ∧ Fr p H5 H' ∧ HandAt H' p c
def midL1 (sa p c : Addr) : L2.St → Hp → Prop := fun σ H => ∃ lp, σ = [some (.ref sa), some (.ref p), some (.ref lp), none, none, none, none, none, none, none, none, none, none, none, none, none] ∧ PcsAt H lp 60 ∧ lp ≠ p ∧ HandAt H p c
def midL2 (sa p c : Addr) : L2.St → Hp → Prop := fun σ H => ∃ lp cs, σ = [some (.ref sa), some (.ref p), some (.ref lp), some (.str (S cs)), none, none, none, none, none, none, none, none, none, none, none, none] ∧ cs.length ≤ 2000 ∧ PcsAt H lp 60 ∧ lp ≠ p ∧ HandAt H p c
def midL3 (sa p : Addr) : L2.St → Hp → Prop := fun σ H => ∃ (lp lt : Addr) (cs : Cs) (m : Int) (xs : List V) (v5 v7 v8 : V), σ = [some (.ref sa), some (.ref p), some (.ref lp), some (.str (S cs)), some (.int m), some v5, some (.ref lt), some v7, some v8, none, none, none, none, none, none, none] ∧
  PcsAt H lp 60 ∧ FaultAt H v5 (tv cs m).1 ∧ FaultAt H v7 (tv cs m).1 ∧ H lt = some (.lst xs) ∧ ToksAt H xs (tv cs m).2 ∧
  ∃ (tk : Addr) (ys : List V), v8 = .ref tk ∧ H tk = some (.tup ys) ∧ ((tv cs m).1 = none → ToksAt H ys (tv cs m).2) ∧ ((tv cs m).1 ≠ none → ys = [])
def brL : List Nat := ("([{" : Str).cps.toList
theorem br_P2 : ∀ d ∈ brL, blB d = false := by decide +kernel
def midL4 (sa p : Addr) : L2.St → Hp → Prop := fun σ H => ∃ (lp tk : Addr) (cs : Cs) (m : Int) (v5 v6 v7 : V) (zs : List V) (ts : List (List V)), σ = [some (.ref sa), some (.ref p), some (.ref lp), some (.str (S cs)), some (.int m), some v5, some v6, some v7, some (.ref tk), none, none, none, none, none, none, none] ∧
  PcsAt H lp 60 ∧ H tk = some (.tup zs) ∧ ToksAt H zs ts ∧ ∀ v ∈ ts, TokV v
def ivTk (σ0 : L2.St) (HX : Hp) : Nat → L2.St → Hp → Prop := fun _ σ H => ∃ v, σ = σ0.set 10 v ∧ H = HX
def ivPc (σ0 : L2.St) (HX : Hp) : Nat → L2.St → Hp → Prop := fun _ σ H => ∃ v11 v12 v13 v14, σ = (((σ0.set 11 v11).set 12 v12).set 13 v13).set 14 v14 ∧ Evl.Ex HX H
theorem toks_at : ∀ {H : Hp} {xs : List V} {ts : List (List V)} {i : Nat} {x : V}, ToksAt H xs ts → xs[i]? = some x → ∃ b v, x = .ref b ∧ v ∈ ts ∧ H b = some (.tup v)
  | _, _, _, _, _, .nil, h => by cases h
  | _, _, _, 0, x, .cons ⟨b, e1, e2⟩ _, h => ⟨b, _, by rw [← Option.some.inj h]; exact e1, List.mem_cons_self, e2⟩
  | _, _, _, i + 1, x, .cons _ t, h => by
    obtain ⟨b, v, e1, e2, e3⟩ := toks_at (i := i) t h
    exact ⟨b, v, e1, List.mem_cons_of_mem _ e2, e3⟩
theorem ixt {K : PySem.W.Frag} {H : Hp} {p : Addr} {xs : List V} {i : Int} {v : V} {Q : VK} (h : H p = some (.tup xs)) (e : atI xs i = some v) (q : Q v H) : rIxT K (.ref p) (.int i) H Q := ⟨p, xs, i, v, rfl, rfl, SqT.of h, e, q⟩
theorem was_true {K : PySem.W.Frag} {C : Addr} {i : Nat} {ts : Addr → Value → Option Addr → TS} {Wout : WX} {D : Ends} {d : Option Addr} {σ : L2.St} {H : Hp} (he : PySem.W.exmOne K (.ref C) (.ref C) = some true)
    (h : ∀ a, H a = none → ts a (.ref C) d { nx := fun σ' H' => D.nx (σ'.set i none) H', rt := D.rt, bk := fun σ' H' => D.bk (σ'.set i none) H', ct := fun σ' H' => D.ct (σ'.set i none) H' } (σ.set i (some (.ref a))) H) :
    wAs K (.ref C) i ts Wout D (.ref C) d σ H := ⟨true, he, fun _ => h, fun q => nomatch q⟩
section
variable {P : Program} {w : World} {K : PySem.W.Frag} {mg : Str → Option Value} {base : Heap} {a : Ad}
def spLaw (K : PySem.W.Frag) : Sp := fun vs H Q _ => ∃ (s : Addr) (ns : List Int), vs = [.ref s] ∧ SqL K H s (ns.map V.int) ∧ ns.length ≤ 63 ∧ ∀ H', Q (.bl true) H'
theorem ok_law (T : Txt K mg a) : FnOk P w K mg base CX0 7 a.f_law a.d_law ["_law_script"] (spLaw K) := by
  refine T.F_law.ok sc_law (fun vs H Q E h => ?_) (fun cdv A outer s H vs Q E hr h => ?_)
  · obtain ⟨_, _, rfl, _⟩ := h
    rfl
  · obtain ⟨sa, ns, rfl, hS, hl, k⟩ := h
    refine ⟨_, (pss_cons (ps_set (i := 1) sc_law.nd rfl (by first | exact Or.inl rfl | exact Or.inr rfl) (pe_call (ok_law_hand T) (hr.mono (by decide)) rfl T.m_law_hand T.F_law_hand.kp T.b_law_hand .nil pass0 (pa_cons (pv 0) pa_nil)))
  (pss_cons (ps_setLc (i := 2) (own := [("_law_k", 15)]) (g := gName 15) (tt := tYes) rfl sc_law.nd rfl rfl (sw_true rfl rfl rfl (by decide +kernel)) (pi_range1 (by rfl) T.z_range (pa_cons (pe_call (ok_law_take T) (hr.mono (by decide)) rfl T.m_law_take T.F_law_take.kp T.b_law_take .nil pass0 (pa_cons (pv 1) (pa_cons pe_int pa_nil))) pa_nil)) (blkOk_by (own := [("_law_k", 15)]) (N := ["_law_script", "_law_hand_here", "_law_pieces", "_law_text", "_law_most", "_law_fault", "_law_told", "_law_found", "_law_tokens", "e", "_law_token", "_law_piece_here", "_law_alone", "_law_due", "_law_good", "_law_k"]) (sc := defScope s_law) (by decide +kernel)) (fun _ _ _ _ _ => pg_name (i := 15) sc_law.nd rfl (Or.inl rfl)) (fun _ _ _ _ _ => pts_nil) (fun _ _ _ _ _ => (pe_call (ok_law_piece T) (hr.mono (by decide)) rfl T.m_law_piece T.F_law_piece.kp T.b_law_piece .nil pass0 (pa_cons (pv 1) pa_nil))))
  (Evl.pss_cut (ps_if (pt_cmpR op_eq (pe_call (ok_law_take T) (hr.mono (by decide)) rfl T.m_law_take T.F_law_take.kp T.b_law_take .nil pass0 (pa_cons (pv 1) (pa_cons pe_int pa_nil))) pe_int (nomark _)) (pss_one (ps_set (i := 2) sc_law.nd rfl (by first | exact Or.inl rfl | exact Or.inr rfl) (pe_op op_cat (pe_op op_cat (pv 2) (pe_lc (own := [("_law_k", 15)]) (g := gName 15) (tt := tYes) rfl sc_law.nd (pi_range1 (by rfl) T.z_range (pa_cons (pe_op op_add pe_int (pe_call (ok_law_take T) (hr.mono (by decide)) rfl T.m_law_take T.F_law_take.kp T.b_law_take .nil pass0 (pa_cons (pv 1) (pa_cons pe_int pa_nil)))) pa_nil)) (blkOk_by (own := [("_law_k", 15)]) (N := ["_law_script", "_law_hand_here", "_law_pieces", "_law_text", "_law_most", "_law_fault", "_law_told", "_law_found", "_law_tokens", "e", "_law_token", "_law_piece_here", "_law_alone", "_law_due", "_law_good", "_law_k"]) (sc := defScope s_law) (by decide +kernel)) (fun _ _ _ _ _ => pg_name (i := 15) sc_law.nd rfl (Or.inl rfl)) (fun _ _ _ _ _ => pts_nil) (fun _ _ _ _ _ => (pe_ix ix_str pe_str (pe_call (ok_law_take T) (hr.mono (by decide)) rfl T.m_law_take T.F_law_take.kp T.b_law_take .nil pass0 (pa_cons (pv 1) (pa_cons pe_int pa_nil))) (fun _ _ => rfl))))) (pe_lst (pa_cons (pe_call (ok_law_piece T) (hr.mono (by decide)) rfl T.m_law_piece T.F_law_piece.kp T.b_law_piece .nil pass0 (pa_cons (pv 1) pa_nil)) pa_nil)))))
    pss_nil)
  (pss_cons (ps_set (i := 3) sc_law.nd rfl (by first | exact Or.inl rfl | exact Or.inr rfl) (pe_join pe_str (pe_lc (own := [("_law_piece_here", 11)]) (g := gName 11) (tt := tYes) rfl sc_law.nd (pi_list (pv 2)) (blkOk_by (own := [("_law_piece_here", 11)]) (N := ["_law_script", "_law_hand_here", "_law_pieces", "_law_text", "_law_most", "_law_fault", "_law_told", "_law_found", "_law_tokens", "e", "_law_token", "_law_piece_here", "_law_alone", "_law_due", "_law_good", "_law_k"]) (sc := defScope s_law) (by decide +kernel)) (fun _ _ _ _ _ => pg_name (i := 11) sc_law.nd rfl (Or.inl rfl)) (fun _ _ _ _ _ => pts_nil) (fun _ _ _ _ _ => (pe_op op_add_str (pv 11) (pe_ix ix_list_b (pe_lst (pa_cons pe_str (pa_cons pe_str (pa_cons pe_str (pa_cons pe_str pa_nil))))) (pe_call (ok_law_take T) (hr.mono (by decide)) rfl T.m_law_take T.F_law_take.kp T.b_law_take .nil pass0 (pa_cons (pv 1) (pa_cons pe_int pa_nil))) (fun _ _ => rfl)))))))
  (Evl.pss_cut (ps_if (pt_cmpR op_eq (pe_call (ok_law_take T) (hr.mono (by decide)) rfl T.m_law_take T.F_law_take.kp T.b_law_take .nil pass0 (pa_cons (pv 1) (pa_cons pe_int pa_nil))) pe_int (nomark _)) (pss_one (ps_set (i := 3) sc_law.nd rfl (by first | exact Or.inl rfl | exact Or.inr rfl) (pe_op op_add_str (pe_op op_add_str (pv 3) (pe_ix ix_str pe_str (pe_call (ok_law_take T) (hr.mono (by decide)) rfl T.m_law_take T.F_law_take.kp T.b_law_take .nil pass0 (pa_cons (pv 1) (pa_cons pe_int pa_nil))) (fun _ _ => rfl))) pe_str)))
    pss_nil)
  (pss_cons (ps_set (i := 4) sc_law.nd rfl (by first | exact Or.inl rfl | exact Or.inr rfl) (pe_ix ix_list (pe_lst (pa_cons pe_int (pa_cons (pe_callB call_len_str (by rfl) T.z_len (by decide +kernel) (pa_cons (pv 3) pa_nil)) (pa_cons (pe_op op_add (pe_callB call_len_str (by rfl) T.z_len (by decide +kernel) (pa_cons (pv 3) pa_nil)) pe_int) (pa_cons (pe_callB (call_max2 rfl) (by rfl) T.z_max (by decide +kernel) (pa_cons pe_int (pa_cons (pe_op op_sub (pe_callB call_len_str (by rfl) T.z_len (by decide +kernel) (pa_cons (pv 3) pa_nil)) pe_int) pa_nil))) pa_nil))))) (pe_call (ok_law_take T) (hr.mono (by decide)) rfl T.m_law_take T.F_law_take.kp T.b_law_take .nil pass0 (pa_cons (pv 1) (pa_cons pe_int pa_nil))) (fun _ _ => rfl)))
  (pss_cons (ps_asg (pe_call (ok_law_cut_told T) (hr.mono (by decide)) rfl T.m_law_cut_told T.F_law_cut_told.kp T.b_law_cut_told .nil pass0 (pa_cons (pv 3) (pa_cons (pv 4) pa_nil))) (pg_tup rfl (pgs_cons (pg_name (i := 5) sc_law.nd rfl (by first | exact Or.inl rfl | exact Or.inr rfl)) (pgs_cons (pg_name (i := 6) sc_law.nd rfl (by first | exact Or.inl rfl | exact Or.inr rfl)) pgs_nil))))
  (pss_cons (ps_set (i := 7) sc_law.nd rfl (by first | exact Or.inl rfl | exact Or.inr rfl) pe_non)
  (pss_cons (ps_set (i := 8) sc_law.nd rfl (by first | exact Or.inl rfl | exact Or.inr rfl) (pe_tup pa_nil))
  (Evl.pss_cut (ps_try_as (i := 9) (Wout := fun _ _ _ _ => False) rfl rfl sc_law.nd rfl rfl ⟨rfl, by decide, Or.inl T.m_BadText⟩ takes0 (fun W pn xe tk _ => (pss_one (ps_set (i := 8) sc_law.nd rfl (by first | exact Or.inl rfl | exact Or.inr rfl) (pe_callS (ok_cut_text T) (hr.mono (by decide)) rfl T.m_cut_text T.F_cut_text.kp T.b_cut_text (fun σ => passAt tk σ) (pa_cons (pv 3) (pa_cons (pv 4) pa_nil)))))) (fun a oe cls d pn hz hf => (pss_one (ps_set (i := 7) sc_law.nd rfl (by first | exact Or.inl rfl | exact Or.inr rfl) (pe_tup (pa_cons (pe_xf T.xf_BadText T.xn_BadText_spot hz hf (pv 9)) (pa_cons (pe_xf T.xf_BadText T.xn_BadText_what hz hf (pv 9)) pa_nil)))))))
  (Evl.pss_cut (ps_if (PW.pt (pw_or (pt_cmpR (op_neD hr.units) (pv 7) (pv 5) (nomark _)) (pw_or1 (PW.pt (pw_and (pt_cmpR op_isN (pv 5) pe_non (nomark _)) (pw_and1 (PW.pt (pw_or (pt_not (pt_val (pe_callB call_isi (by rfl) T.z_isinstance (by decide +kernel) (pa_cons (pv 8) (pa_cons (pe_bltn (v := .ty "tuple") (by rfl) T.z_tuple (by decide +kernel) rfl) pa_nil))))) (pw_or1 (pt_cmpR (op_neD hr.units) (pe_callTy call_list_of (by rfl) T.z_list (by decide +kernel) (pa_cons (pv 8) pa_nil)) (pv 6) (nomark _))))))))))) (pss_one (ps_ret pe_bl))
    pss_nil)
  (pss_cons (ps_for PassesOwn.never rfl (pi_tup (pv 8)) (pg_name (i := 10) sc_law.nd rfl (by first | exact Or.inl rfl | exact Or.inr rfl)) (pss_one (ps_if (PW.pt (pw_or (pt_not (pt_val (pe_callB call_isi (by rfl) T.z_isinstance (by decide +kernel) (pa_cons (pv 10) (pa_cons (pe_bltn (v := .ty "tuple") (by rfl) T.z_tuple (by decide +kernel) rfl) pa_nil))))) (pw_or (PW.pt (pw_and (pt_cmpR op_eq (pe_ix ix_tup (pv 10) pe_int (fun _ _ => rfl)) pe_str (nomark _)) (pw_and1 (pt_not (pt_val (pe_call (ok_law_whole T) (hr.mono (by decide)) rfl T.m_law_whole T.F_law_whole.kp T.b_law_whole .nil pass0 (pa_cons (pe_ix ix_tup (pv 10) pe_int (fun _ _ => rfl)) pa_nil))))))) (pw_or1 (pt_not (pt_val (pe_call (ok_law_whole T) (hr.mono (by decide)) rfl T.m_law_whole T.F_law_whole.kp T.b_law_whole .nil pass0 (pa_cons (pe_ix ix_tup (pv 10) pe_int (fun _ _ => rfl)) pa_nil)))))))) (pss_one (ps_ret pe_bl))
    pss_nil)))
  (pss_cons (ps_for PassesOwn.never rfl (pi_list (pv 2)) (pg_name (i := 11) sc_law.nd rfl (by first | exact Or.inl rfl | exact Or.inr rfl)) (pss_cons (ps_set (i := 12) sc_law.nd rfl (by first | exact Or.inl rfl | exact Or.inr rfl) (pe_ix ix_tup (pe_call (ok_law_cut_told T) (hr.mono (by decide)) rfl T.m_law_cut_told T.F_law_cut_told.kp T.b_law_cut_told .nil pass0 (pa_cons (pv 11) (pa_cons pe_int pa_nil))) pe_int (fun _ _ => rfl)))
  (pss_cons (ps_set (i := 13) sc_law.nd rfl (by first | exact Or.inl rfl | exact Or.inr rfl) (pe_and (pe_cmpR op_eq (pe_callB call_len_seq (by rfl) T.z_len (by decide +kernel) (pa_cons (pv 12) pa_nil)) pe_int (nomark _)) (pe_one (pe_cmpR op_eq (pe_ix ix_tup (pe_ix ix_list (pv 12) pe_int (fun _ _ => rfl)) pe_int (fun _ _ => rfl)) pe_str (nomark _)))))
  (pss_cons (ps_set (i := 14) sc_law.nd rfl (by first | exact Or.inl rfl | exact Or.inr rfl) (pe_call (ok_is_name T) (hr.mono (by decide)) rfl T.m_is_name T.F_is_name.kp T.b_is_name .nil pass0 (pa_cons (pv 11) pa_nil)))
  (pss_one (ps_if (PW.pt (pw_or (pt_cmpR op_ne (pv 14) (pv 13) (nomark _)) (pw_or1 (pt_not (pt_val (pe_callB call_isi (by rfl) T.z_isinstance (by decide +kernel) (pa_cons (pv 14) (pa_cons (pe_bltn (v := .ty "bool") (by rfl) T.z_bool (by decide +kernel) rfl) pa_nil)))))))) (pss_one (ps_ret pe_bl))
    pss_nil))))))
  (pss_cons (ps_if (PW.pt (pw_or (pt_val (pe_call (ok_is_name T) (hr.mono (by decide)) rfl T.m_is_name T.F_is_name.kp T.b_is_name .nil pass0 (pa_cons pe_str pa_nil))) (pw_or (pt_val (pe_call (ok_is_name T) (hr.mono (by decide)) rfl T.m_is_name T.F_is_name.kp T.b_is_name .nil pass0 (pa_cons pe_str pa_nil))) (pw_or (pt_val (pe_call (ok_is_name T) (hr.mono (by decide)) rfl T.m_is_name T.F_is_name.kp T.b_is_name .nil pass0 (pa_cons pe_int pa_nil))) (pw_or1 (pt_not (pt_val (pe_call (ok_is_name T) (hr.mono (by decide)) rfl T.m_is_name T.F_is_name.kp T.b_is_name .nil pass0 (pa_cons pe_str pa_nil))))))))) (pss_one (ps_ret pe_bl))
    pss_nil)
  (Evl.pss_cut (ps_try_as (i := 9) (Wout := fun _ _ _ _ => False) rfl rfl sc_law.nd rfl rfl ⟨rfl, by decide, Or.inl T.m_BadText⟩ takes0 (fun W pn xe tk _ => (pss_one (ps_expr (pe_callS (ok_cut_text T) (hr.mono (by decide)) rfl T.m_cut_text T.F_cut_text.kp T.b_cut_text (fun σ => passAt tk σ) (pa_cons (pv 4) (pa_cons (pv 4) pa_nil)))))) (fun a oe cls d pn hz hf => (pss_one (ps_ret (pe_cmpR (op_eqD_s hr.units) (pe_tup (pa_cons (pe_xf T.xf_BadText T.xn_BadText_spot hz hf (pv 9)) (pa_cons (pe_xf T.xf_BadText T.xn_BadText_what hz hf (pv 9)) pa_nil))) (pe_tup (pa_cons (pe_un un_neg pe_int) (pa_cons pe_str pa_nil))) (nomark _))))))
  (pss_one (ps_ret pe_bl))))))))))))))))), ?_⟩
    walk_at "sm"
    refine ⟨sa, ns, rfl, hS, hl, fun p c H1 hp0 e1 hh1 => ?_⟩
    walk_at "sm"
    refine tk hh1 (by decide) (by decide) fun r H2 r0 r1 f2 hh2 => ?_
    walk_at "sm"
    refine ⟨by omega, by omega, ?_⟩
    refine lcg_range (ivP H2 p c 12) (fun D hD => ⟨[], upd_same, rfl, (by intro y hy; cases hy), (Fr.refl H2).mut hD, hh2.upd (hh2.lt hD) (hh2.lc hD)⟩) (fun D i H6 hD hi ⟨ys, h1, h2, h3, f6, hh6⟩ => ?_) (fun lp H6 hlp ⟨ys, h1, h2, h3, f6, hh6⟩ => ?_)
    · walk_at "sm"
      refine ⟨p, c, rfl, hh6, fun cs H7 pk f7 hh7 => ?_⟩
      have nDp := hh2.lt hD
      refine ⟨_, f7 _ _ nDp h1, Nat.lt_of_le_of_lt (show (ys.map V.str).length ≤ 100 by rw [List.length_map]; omega) (by decide), ys ++ [S cs], by rw [upd_same, List.map_append]; rfl, by rw [List.length_append, h2]; rfl, ?_, (f6.trans f7).mut hD, hh7.upd nDp (hh2.lc hD)⟩
      intro y hy
      rcases List.mem_append.mp hy with q | q
      · exact h3 y q
      · rw [List.mem_singleton] at q
        rw [q]
        exact ⟨by rw [SX.S_len]; exact pk.1, pk.2⟩
    · have nlp := hh2.lt hlp
      refine ⟨midL1 sa p c, ?_, ?_⟩
      · walk_at "sm"
        refine tk hh6 (by decide) (by decide) fun r H7 r0 r1 f7 hh7 => ?_
        walk_at "sm"
        refine ite2 (fun _ => ?_) (fun _ => ⟨lp, rfl, ⟨ys, f7 _ _ nlp h1, by omega, h3⟩, nlp, hh7⟩)
        refine tk hh7 (by decide) (by decide) fun r H8 r0 r1 f8 hh8 => ?_
        walk_at "sm"
        refine ⟨by omega, by omega, ?_⟩
        refine lcg_range (ivP H8 p c 12) (fun D hD => ⟨[], upd_same, rfl, (by intro y hy; cases hy), (Fr.refl H8).mut hD, hh8.upd (hh8.lt hD) (hh8.lc hD)⟩) (fun D i H9 hD hi ⟨zs, z1, z2, z3, f9, hh9⟩ => ?_) (fun lq H9 hlq ⟨zs, z1, z2, z3, f9, hh9⟩ => ?_)
        · walk_at "sm"
          refine tk (m := 3) hh9 (by decide) (by decide) fun r H10 r0 r1 f10 hh10 => ?_
          walk_at "sm"
          obtain ⟨d, hd, ed⟩ := atI_code (l := brL) r0 (by exact r1)
          have nDp := hh8.lt hD
          refine ⟨sz (by decide), d, ed, _, f10 _ _ nDp z1, Nat.lt_of_le_of_lt (show (zs.map V.str).length ≤ 100 by rw [List.length_map]; omega) (by decide), zs ++ [⟨#[d]⟩], by rw [upd_same, List.map_append]; rfl, by rw [List.length_append, z2]; rfl, ?_, (f9.trans f10).mut hD, hh10.upd nDp (hh8.lc hD)⟩
          intro y hy
          rcases List.mem_append.mp hy with q | q
          · exact z3 y q
          · rw [List.mem_singleton] at q
            rw [q]
            exact (one_P2 (br_P2 d hd)).mono (by decide)
        · have hlp9 : H9 lp = some (.lst (ys.map V.str)) := f9 _ _ nlp (f8 _ _ nlp (f7 _ _ nlp h1))
          refine ⟨lp, lq, _, _, rfl, rfl, hlp9, z1, Nat.le_trans (show (ys.map V.str).length + (zs.map V.str).length ≤ 100 by rw [List.length_map, List.length_map]; omega) (by decide), fun l3 hl3 => ?_⟩
          have hl33 : (upd H9 l3 (.lst (ys.map V.str ++ zs.map V.str))) l3 = some (.lst ((ys ++ zs).map V.str)) := by rw [upd_same, List.map_append]
          have hhA := hh9.go (Evl.Ex.new hl3 (o := .lst (ys.map V.str ++ zs.map V.str)))
          have nl3 := hh9.lt hl3
          generalize upd H9 l3 (.lst (ys.map V.str ++ zs.map V.str)) = HA at *
          refine ⟨p, c, rfl, hhA, fun cs HB pk fB hhB => ⟨sz (by decide), fun l4 hl4 => ?_⟩⟩
          have hl3B := fB _ _ nl3 hl33
          refine ⟨l3, l4, _, _, rfl, rfl, by rw [upd_ne (ne_of_none hl3B hl4)]; exact hl3B, upd_same, Nat.le_trans (show ((ys ++ zs).map V.str).length + 1 ≤ 100 by rw [List.length_map, List.length_append]; omega) (by decide), fun l5 hl5 => ?_⟩
          have hhC := hhB.go (Evl.Ex.new hl4 (o := .lst [.str (S cs)]))
          refine ⟨l5, rfl, ⟨(ys ++ zs) ++ [S cs], by rw [upd_same]; simp only [List.map_append, List.map_cons, List.map_nil], by rw [List.length_append, List.length_append, List.length_singleton]; omega, ?_⟩, hhC.lt hl5, hhC.go (Evl.Ex.new hl5)⟩
          intro y hy
          rcases List.mem_append.mp hy with q | q
          · rcases List.mem_append.mp q with q | q
            · exact h3 y q
            · exact z3 y q
          · rw [List.mem_singleton] at q
            rw [q]
            exact ⟨by rw [SX.S_len]; exact pk.1, pk.2⟩
      · rintro σ H' ⟨lp, rfl, ⟨ys, y1, y2, y3⟩, nlp, hh⟩
        walk_at "sm"
        refine ⟨⟨_, rfl⟩, ⟨_, SqL.of y1⟩, ?_⟩
        refine lcg_list (K := K) (a := lp) (xs := ys.map V.str) (ivT H' p c 13) (fun D hD => ⟨[], upd_same, rfl, (by intro y hy; cases hy), (Fr.refl H').mut hD, hh.upd (hh.lt hD) (hh.lc hD)⟩) (fun D i H6 hD hi ⟨_, _, _, _, f6, _⟩ => SqL.of (f6 _ _ nlp y1)) (fun D i x H6 hD hx ⟨zs, z1, z2, z3, f6, hh6⟩ => ?_) (fun lq H6 hlq ⟨zs, z1, z2, z3, f6, hh6⟩ => ?_)
        · obtain ⟨y, hy, rfl⟩ := str_at_map hx
          have hy1 : i < ys.length := (List.getElem?_eq_some_iff.mp hy).1
          have py := y3 y (List.mem_of_getElem? hy)
          walk_at "sm"
          refine ⟨sz (by decide), fun l hl => ?_⟩
          refine tk (m := 4) (hh6.go (Evl.Ex.new hl)) (by decide) (by decide) fun r H7 r0 r1 f7 hh7 => ?_
          refine pick (L := ["", " ", " ", "\n"]) f7 (hh6.lt hl) upd_same r0 (by exact r1) fun z hz => ?_
          walk_at "sm"
          have lz : z.length ≤ 1 := (show ∀ z ∈ (["", " ", " ", "\n"] : List Str), z.length ≤ 1 by decide +kernel) z hz
          have nDp := hh.lt hD
          have zD : H7 D = some (.lst (zs.map V.str)) := f7 _ _ nDp (by rw [upd_ne (ne_of_none z1 hl)]; exact z1)
          have lc : (y ++ z).length ≤ 13 := by
            rw [len_tl, cat_tl, List.length_append, ← len_tl, ← len_tl]
            have := py.1
            omega
          refine ⟨sz (by have := py.1; omega), _, zD, Nat.lt_of_le_of_lt (show (zs.map V.str).length ≤ 100 by rw [List.length_map]; omega) (by decide), zs ++ [y ++ z], by rw [upd_same, List.map_append]; rfl, by rw [List.length_append, z2]; rfl, ?_, ?_, hh7.upd nDp (hh.lc hD)⟩
          · intro w' hw'
            rcases List.mem_append.mp hw' with q | q
            · exact z3 w' q
            · rw [List.mem_singleton] at q
              rw [q]; exact lc
          · exact ((f6.trans (Fr.of (Evl.Ex.new hl))).trans f7).mut hD
        · rw [List.length_map] at z2
          have sl := sum_len (k := 13) zs z3
          have jl := join_len (k := 13) zs z3
          refine ⟨lq, rfl, zs, .inl (SqL.of z1), by show _ + zs.length * 0 ≤ _; omega, ?_⟩
          refine ⟨midL2 sa p c, ?_, ?_⟩
          · walk_at "sm"
            have fr6 : ∀ HX, Fr p H6 HX → PcsAt HX lp 60 := fun HX fX => ⟨ys, fX _ _ nlp (f6 _ _ nlp y1), y2, y3⟩
            refine tk hh6 (by decide) (by decide) fun r H7 r0 r1 f7 hh7 => ?_
            walk_at "sm"
            refine ite2 (fun _ => ?_) (fun _ => ⟨lp, (Txt.join ("" : Str) zs).cps.toList, by rw [SX.S_tl], by rw [← len_tl]; omega, fr6 _ f7, nlp, hh7⟩)
            refine tk hh7 (by decide) (by decide) fun r H8 r0 r1 f8 hh8 => ?_
            walk_at "sm"
            obtain ⟨d, hd, ed⟩ := atI_code (l := (" !#$'./:>?@A_`~\t" : Str).cps.toList) r0 (by exact r1)
            have e1 : (Txt.join ("" : Str) zs ++ (⟨#[d]⟩ : Str)).length = (Txt.join ("" : Str) zs).length + 1 := by rw [len_tl, cat_tl, List.length_append, ← len_tl]; rfl
            have e2 : ((Txt.join ("" : Str) zs ++ (⟨#[d]⟩ : Str)) ++ ("a" : Str)).length = (Txt.join ("" : Str) zs).length + 2 := by rw [len_tl, cat_tl, List.length_append, ← len_tl, e1]; rfl
            refine ⟨sz (by decide), d, ed, sz (by show _ + 1 ≤ _; omega), sz (by rw [e1]; show _ + 1 ≤ _; omega), ?_⟩
            exact ⟨lp, (Txt.join ("" : Str) zs ++ (⟨#[d]⟩ : Str) ++ ("a" : Str)).cps.toList, by rw [SX.S_tl], by rw [← len_tl, e2]; omega, fr6 _ (f7.trans f8), nlp, hh8⟩
          · rintro σ HX ⟨lp, cs, rfl, hcs, ⟨ys, y1, y2, y3⟩, nlp, hh⟩
            walk_at "sm"
            have hz : (S cs).length ≤ sizeLine := szS (by omega)
            refine ⟨hz, hz, hz, sz (by decide), fun l hl => ?_⟩
            refine tk (hh.go (Evl.Ex.new hl)) (by decide) (by decide) fun r HY r0 r1 f7 hh7 => ?_
            have nl := hh.lt hl
            obtain ⟨m, -, em⟩ := atI_int (ns := [3000, ((S cs).length : Int), ((S cs).length : Int) + 1, if ((S cs).length : Int) - 1 > 0 then ((S cs).length : Int) - 1 else 0]) r0 (by exact r1)
            refine ixl (SqL.of (f7 _ _ nl upd_same)) em ?_
            have y1' : HY lp = some (.lst (ys.map V.str)) := f7 _ _ nlp (by rw [upd_ne (ne_of_none y1 hl)]; exact y1)
            refine ⟨cs, m, rfl, by omega, fun q HZ e3 ⟨v5, lt, xs, hq, fv, hlt, tkx⟩ => ?_⟩
            refine ⟨q, rfl, _, SqT.of hq, rfl, _, _, rfl, _, _, rfl, rfl, sz (by decide), fun p2 hp2 => ?_⟩
            refine ⟨midL3 sa p, ?_, ?_⟩
            · walk_at "sm"
              have y1Z : HZ lp = some (.lst (ys.map V.str)) := e3 _ _ y1'
              have eE : Evl.Ex HZ (upd HZ p2 (.tup [])) := Evl.Ex.new hp2
              have hp22 : (upd HZ p2 (.tup [])) p2 = some (.tup []) := upd_same
              have fvX : ∀ {HA HB : Hp} {o : Option (Int × Str)} {v : V}, Evl.Ex HA HB → FaultAt HA v o → FaultAt HB v o := fun {HA HB o v} e h => by
                cases o with
                | none => exact h
                | some q => obtain ⟨f, h1, h2⟩ := h; exact ⟨f, h1, e _ _ h2⟩
              refine .inl ⟨cs, m, rfl, by omega, ?_⟩
              have hlen := SX.S_len cs
              have err : ∀ i w, (tv cs m).1 = some (i, w) → (tv cs m).2 = [] → Rz a.c_BadText (upd HZ p2 (.tup [])) (WE (wAs K (Value.ref a.c_BadText) 9 (fun a_1 cls d => tAsg (tTup (tCons (tXf a_1 cls d a.c_BadText "spot" (tVar 9)) (tCons (tXf a_1 cls d a.c_BadText "what" (tVar 9)) tNil))) (gName 7)) (fun _ _ _ _ => False) { nx := midL3 sa p, rt := Q })
                  [some (V.ref sa), some (V.ref p), some (V.ref lp), some (V.str (S cs)), some (V.int m), some v5, some (V.ref lt), some V.non, some (V.ref p2), none, none, none, none, none, none, none]) i w := by
                intro i w ho hts d HW eW hd
                refine was_true T.xe_BadText fun e he => ?_
                walk_at "sm"
                refine ⟨_, hd, _, rfl, _, hd, _, rfl, sz (by decide), fun f hf => ?_⟩
                have eF : Evl.Ex HZ (upd HW f (.tup [.int i, .str w])) := eE.trans (eW.trans (Evl.Ex.new hf))
                refine ⟨lp, lt, cs, m, xs, v5, .ref f, .ref p2, rfl, ⟨ys, eF _ _ y1Z, y2, y3⟩, fvX eF fv, by rw [ho]; exact ⟨f, rfl, upd_same⟩, eF _ _ hlt, tkx.go eF, p2, [], rfl, (eW.trans (Evl.Ex.new hf)) _ _ hp22, ⟨fun q => absurd (ho.symm.trans q) (by simp), fun _ => rfl⟩⟩
              refine ⟨fun hm => err _ _ (by unfold tv; rw [if_pos hm]) (by unfold tv; rw [if_pos hm]), fun hm => ⟨fun i w hs => err _ _ (by rw [tv_err hm hs]) (by rw [tv_err hm hs]), fun ts hs b xs' HW eW hb tkb => ?_⟩⟩
              have eF : Evl.Ex HZ HW := eE.trans eW
              have et := tv_ok hm hs
              refine ⟨lp, lt, cs, m, xs, v5, .non, .ref b, rfl, ⟨ys, eF _ _ y1Z, y2, y3⟩, fvX eF fv, by rw [et]; rfl, eF _ _ hlt, tkx.go eF, b, xs', rfl, hb, fun _ => by rw [et]; exact tkb, fun q => absurd (by rw [et]) q⟩
            · rintro σ HX ⟨lp, lt, cs, m, xs, v5, v7, v8, rfl, ⟨ys, y1, y2, y3⟩, f5, f7, hlt, tkx, tk, zs, rfl, htk, tkA, tkB⟩
              walk_at "sm"
              refine ⟨midL4 sa p, ?_, ?_⟩
              · walk_at "sm"
                refine ne_same (dp_fault f7) (dp_fault f5) (shaped_fault (tv_okF cs m)) ⟨_, rfl, iteF ?_⟩
                have okt := tv_okT cs m
                refine ite2 (fun hv => ?_) (fun hv => ?_)
                · have hn : (tv cs m).1 = none := by
                    cases ho : (tv cs m).1 with
                    | none => rfl
                    | some q =>
                      rw [ho] at f5
                      obtain ⟨f, e1, _⟩ := f5
                      rw [hv] at e1
                      cases e1
                  have tz := tkA hn
                  refine isi_ty (t := "tuple") (b := true) (.base (.tup htk)) (by decide +kernel) ⟨_, rfl, iteF ⟨zs, .inr (SqT.of htk), fun l hl => ?_⟩⟩
                  have eL : Evl.Ex HX (upd HX l (.lst zs)) := Evl.Ex.new hl
                  refine ne_same (.lst (SqL.of upd_same) (dp_toks (tz.go eL) fun v h => (okt v h).1)) (.lst (SqL.of (eL _ _ hlt)) (dp_toks (tkx.go eL) fun v h => (okt v h).1)) (shaped_of (lay_toks fun v h => (okt v h).1) (by decide)) ⟨_, rfl, iteF ?_⟩
                  exact ⟨lp, tk, cs, m, v5, .ref lt, v7, zs, _, rfl, ⟨ys, eL _ _ y1, y2, y3⟩, eL _ _ htk, tz.go eL, fun v h => (okt v h).2⟩
                · have hn : (tv cs m).1 ≠ none := fun ho => hv (by rw [ho] at f5; exact f5)
                  exact ⟨lp, tk, cs, m, v5, .ref lt, v7, zs, [], rfl, ⟨ys, y1, y2, y3⟩, htk, by rw [tkB hn]; exact .nil, fun v h => by cases h⟩
              · rintro σ HX ⟨lp, tk, cs, m, v5, v6, v7, zs, ts, rfl, ⟨ys, y1, y2, y3⟩, htk, tkz, htv⟩
                walk_at "sm"
                refine ⟨_, rfl, tk, rfl, ⟨_, SqT.of htk⟩, for_tup (K := K) (a := tk) (xs := zs) (ivTk [some (.ref sa), some (.ref p), some (.ref lp), some (.str (S cs)), some (.int m), some v5, some v6, some v7, some (.ref tk), none, none, none, none, none, none, none] HX) ⟨none, rfl, rfl⟩ (fun _ _ _ _ ⟨_, _, e⟩ => by rw [e]; exact SqT.of htk) ?_ ?_⟩
                · rintro j x σ HY hj ⟨v, rfl, rfl⟩
                  obtain ⟨b, u, rfl, hu, hb⟩ := toks_at tkz hj
                  obtain ⟨kind, y, n, rfl, hkn⟩ := htv u hu
                  walk_at "sm"
                  refine isi_ty (t := "tuple") (b := true) (.base (.tup hb)) (by decide +kernel) ⟨_, rfl, iteF ?_⟩
                  refine ixt hb (atI_nat (j := 0) rfl) ?_
                  have whole : ∀ z HZ (Q2 : VK) (E2 : XK), (∃ q : Int, z = V.int q) → Q2 (.bl true) HZ → spWhole [z] HZ Q2 E2 := fun z HZ Q2 E2 ⟨q, hq⟩ h2 => ⟨q, by rw [hq], h2⟩
                  have last : rIxT K (V.ref b) (V.int 2) HY (fun x H1 => spWhole [x] H1 (fun x H1 => ∃ c, x = V.bl c ∧ if (!c) = true then Q (V.bl false) H1 else ivTk [some (.ref sa), some (.ref p), some (.ref lp), some (.str (S cs)), some (.int m), some v5, some v6, some v7, some (.ref tk), none, none, none, none, none, none, none] HY (j + 1)
                      [some (.ref sa), some (.ref p), some (.ref lp), some (.str (S cs)), some (.int m), some v5, some v6, some v7, some (.ref tk), none, some (.ref b), none, none, none, none, none] H1) E0) :=
                    ixt hb (atI_nat (j := 2) rfl) (whole _ _ _ _ ⟨_, rfl⟩ ⟨_, rfl, iteF ⟨some (.ref b), rfl, rfl⟩⟩)
                  walk_at "sm"
                  refine ite2 (fun hk => ixt hb (atI_nat (j := 1) rfl) (whole _ _ _ _ (hkn hk) ⟨_, rfl, iteF last⟩)) (fun _ => last)
                · rintro σ HY ⟨v, rfl, rfl⟩
                  walk_at "sm"
                  refine ⟨_, rfl, lp, rfl, ⟨_, SqL.of y1⟩, for_list (K := K) (a := lp) (xs := ys.map V.str) (ivPc [some (.ref sa), some (.ref p), some (.ref lp), some (.str (S cs)), some (.int m), some v5, some v6, some v7, some (.ref tk), none, v, none, none, none, none, none] HY) ⟨none, none, none, none, rfl, Evl.Ex.refl _⟩ (fun _ _ _ _ ⟨_, _, _, _, _, e⟩ => SqL.of (e _ _ y1)) ?_ ?_⟩
                  · rintro j x σ H1 hj ⟨v11, v12, v13, v14, rfl, e1⟩
                    obtain ⟨y, hy, rfl⟩ := str_at_map hj
                    have py := y3 y (List.mem_of_getElem? hy)
                    walk_at "sm"
                    have hb12 : ∀ c ∈ y.cps.toList, blB c = false := py.2
                    have hl12 : y.cps.toList.length ≤ 12 := by rw [← len_tl]; exact py.1
                    obtain ⟨d1, d2⟩ := name_due hb12 hl12
                    refine ⟨y.cps.toList, 3000, by rw [SX.S_tl], by omega, fun q HA e2 ⟨vf, l, xs, hq, fv, hl, tkx⟩ => ?_⟩
                    refine ixt hq (atI_nat (j := 1) rfl) ⟨l, rfl, xs, .inl (SqL.of hl), ?_⟩
                    have lx := Paired.length tkx
                    have fin : ∀ (b c : Bool) v12' v13' HB, b = c → Evl.Ex HA HB → if (!decide (V.bl b = V.bl c)) = true then Q (V.bl false) HB
                        else rIsi K [V.bl b, V.ty "bool"] HB fun x_5 H1 => ∃ c1, x_5 = V.bl c1 ∧ if (!c1) = true then Q (V.bl false) H1
                          else ivPc [some (V.ref sa), some (V.ref p), some (V.ref lp), some (V.str (S cs)), some (V.int m), some v5, some v6, some v7, some (V.ref tk), none, v, none, none, none, none, none] HY (j + 1)
                            [some (V.ref sa), some (V.ref p), some (V.ref lp), some (V.str (S cs)), some (V.int m), some v5, some v6, some v7, some (V.ref tk), none, v, some (V.str y), some v12', some v13', some (V.bl b), none] H1 := by
                      intro b c v12' v13' HB e eB
                      rw [e, decide_eq_true rfl]
                      exact iteF (isi_ty (t := "bool") (b := true) (.base (.bl _)) (by decide +kernel) ⟨_, rfl, iteF ⟨some (V.str y), some v12', some v13', some (V.bl c), rfl, e1.trans (e2.trans eB)⟩⟩)
                    refine ite2 (fun h2 => ?_) (fun h2 => ?_)
                    · have okt := tv_okT y.cps.toList 3000
                      have h3 : (tv y.cps.toList 3000).2.length = 2 := by omega
                      cases et : (tv y.cps.toList 3000).2 with
                      | nil => rw [et] at h3; cases h3
                      | cons u r =>
                        obtain ⟨kind, z, n, rfl, -⟩ := (okt u (by rw [et]; exact List.mem_cons_self)).2
                        have dd := d2 _ _ _ _ et h3
                        rw [et] at tkx
                        cases tkx with
                        | cons hb t =>
                          obtain ⟨b, rfl, hb⟩ := hb
                          refine ixl (SqL.of hl) (atI_nat (j := 0) rfl) (ixt hb (atI_nat (j := 0) rfl) ⟨rfl, ?_⟩)
                          refine .inl ⟨y.cps.toList, by rw [SX.S_tl], by omega, rfl, ?_⟩
                          exact fin _ _ _ _ _ (by rw [dd]; simp only [V.str.injEq]) (Evl.Ex.refl _)
                    · have dd := d1 (by omega)
                      exact .inl ⟨y.cps.toList, by rw [SX.S_tl], by omega, rfl, fin _ _ _ _ _ dd (Evl.Ex.refl _)⟩
                  · rintro σ HZ ⟨v11, v12, v13, v14, rfl, e1⟩
                    walk_at "sm"
                    have nm : ∀ (z : Str) (b : Bool) (HQ : Hp) (Q2 : VK) (E2 : XK), isNameB z.cps.toList = b → z.cps.toList.length ≤ 90000 → Q2 (.bl b) HQ → spIsName [.str z] HQ Q2 E2 := fun z b HQ Q2 E2 e hz h => .inl ⟨z.cps.toList, by rw [SX.S_tl], hz, by rw [e]; exact h⟩
                    refine nm _ false _ _ _ (by decide +kernel) (by decide +kernel) ⟨_, rfl, iteF ?_⟩
                    refine nm _ false _ _ _ (by decide +kernel) (by decide +kernel) ⟨_, rfl, iteF ?_⟩
                    refine .inr ⟨7, rfl, ⟨_, rfl, iteF ?_⟩⟩
                    refine nm _ true _ _ _ (by decide +kernel) (by decide +kernel) ⟨_, rfl, iteF ?_⟩
                    refine ⟨fun _ _ => False, ?_, fun _ _ h => h.elim⟩
                    walk_at "sm"
                    refine .inr ⟨m, m, rfl, fun d HW eW hd => was_true T.xe_BadText fun e he => ?_⟩
                    walk_at "sm"
                    refine ⟨_, hd, _, rfl, _, hd, _, rfl, sz (by decide), fun f hf => ⟨sz (by decide), fun g hg => ?_⟩⟩
                    have hf2 : (upd (upd HW f (.tup [.int (-1), .str "text"])) g (.tup [.int (-1), .str "text"])) f = some (.tup [.int (-1), .str "text"]) := by rw [upd_ne (ne_of_none upd_same hg)]; exact upd_same
                    exact eq_same (d := .tuple [.int (-1), .str "text"]) (.tup (SqT.of hf2) (.cons (.int _) (.cons (.str _) .nil))) (.tup (SqT.of upd_same) (.cons (.int _) (.cons (.str _) .nil))) (by decide +kernel) (k _)
end


theorem exm_self {K : PySem.W.Frag} {S : Addr} (h1 : PySem.W.subIn K (.ref S) (.type "BaseException") = some true) (h2 : PySem.W.isClsIn K S = true) (h3 : PySem.W.typeIn K (.ref S) = some (.type "type")) (h4 : PySem.W.subIn K (.ref S) (.ref S) = some true) :
    PySem.W.exmOne K (.ref S) (.ref S) = some true := by
  have e1 : (PySem.W.subIn K (.ref S) (.type "BaseException") == some true) = true := by rw [h1] <;> rfl
  have e2 : ((PySem.W.clsIn K S).isSome && PySem.W.typeIn K (.ref S) == some (.type "type")) = true := by
    have h5 : (PySem.W.clsIn K S).isSome = true := h2
    rw [h5, h3] <;> rfl
  unfold PySem.W.exmOne
  rw [if_pos e1]
  show (if ((PySem.W.clsIn K S).isSome && PySem.W.typeIn K (.ref S) == some (.type "type")) = true then PySem.W.subIn K (.ref S) (.ref S) else none) = some true
  rw [if_pos e2]
  exact h4
/-- the items of a constant tuple, held against what they should be -/
def valB : V → Value → Bool
  | .int i, .int j _ => decide (i = j)
  | .str x, .str y _ => decide (x = y)
  | _, _ => false
theorem valB_ok : ∀ {x : V} {u : Value}, valB x u = true → RelV x u := by
  intro x u h
  unfold valB at h
  split at h
  · exact ⟨_, by rw [of_decide_eq_true h]⟩
  · exact ⟨_, by rw [of_decide_eq_true h]⟩
  · cases h
def valsB : List V → List Value → Bool
  | [], [] => true
  | x :: xs, u :: us => valB x u && valsB xs us
  | _, _ => false
theorem valsB_ok : ∀ {xs : List V} {us : List Value}, valsB xs us = true → Vals xs us
  | [], [], _ => .nil
  | [], _ :: _, h => by cases h
  | _ :: _, [], h => by cases h
  | x :: xs, u :: us, h => by
    have h' : (valB x u && valsB xs us) = true := h
    rw [Bool.and_eq_true] at h'
    exact .cons (valB_ok h'.1) (valsB_ok h'.2)
theorem sqT_mk {K : PySem.W.Frag} {H : Hp} {p : Addr} {d : Option Addr} {its : Array Value} {n : Nat} {sl : Array (Option Value)} {xs : List V} (l : K.lookup p = some ⟨.type "tuple", d, .seq its n, sl⟩) (v : valsB xs its.toList = true) (z : decide (its.size ≤ 1000) = true) : SqT K H p xs :=
  .inr ⟨_, its, n, l, rfl, rfl, Nat.le_trans (of_decide_eq_true z) (by decide), valsB_ok v⟩

theorem all_mk {P : Program} {w : World} {K : PySem.W.Frag} {h : Heap} {mg : Str → Option Value} {fa : Addr} (X : K.In h) (G : h.Ns mainGlobals mg) (hfa : mg "law" = some (.ref fa))
    {v_cut_text : Addr} {oc_cut_text kV_cut_text dc_cut_text pm_cut_text cd_cut_text ct_cut_text : Value} {od_cut_text an_cut_text : Option Addr} {sl_cut_text : Array (Option Value)}
    {v_cut_token : Addr} {oc_cut_token kV_cut_token dc_cut_token pm_cut_token cd_cut_token ct_cut_token : Value} {od_cut_token an_cut_token : Option Addr} {sl_cut_token : Array (Option Value)}
    {v_row_of : Addr} {oc_row_of kV_row_of dc_row_of pm_row_of cd_row_of ct_row_of : Value} {od_row_of an_row_of : Option Addr} {sl_row_of : Array (Option Value)}
    {v_cut_word : Addr} {oc_cut_word kV_cut_word dc_cut_word pm_cut_word cd_cut_word ct_cut_word : Value} {od_cut_word an_cut_word : Option Addr} {sl_cut_word : Array (Option Value)}
    {v_cut_number : Addr} {oc_cut_number kV_cut_number dc_cut_number pm_cut_number cd_cut_number ct_cut_number : Value} {od_cut_number an_cut_number : Option Addr} {sl_cut_number : Array (Option Value)}
    {v_brackets_behind : Addr} {oc_brackets_behind kV_brackets_behind dc_brackets_behind pm_brackets_behind cd_brackets_behind ct_brackets_behind : Value} {od_brackets_behind an_brackets_behind : Option Addr} {sl_brackets_behind : Array (Option Value)}
    {v_is_name : Addr} {oc_is_name kV_is_name dc_is_name pm_is_name cd_is_name ct_is_name : Value} {od_is_name an_is_name : Option Addr} {sl_is_name : Array (Option Value)}
    {v_law_hand : Addr} {oc_law_hand kV_law_hand dc_law_hand pm_law_hand cd_law_hand ct_law_hand : Value} {od_law_hand an_law_hand : Option Addr} {sl_law_hand : Array (Option Value)}
    {v_law_mixed : Addr} {oc_law_mixed kV_law_mixed dc_law_mixed pm_law_mixed cd_law_mixed ct_law_mixed : Value} {od_law_mixed an_law_mixed : Option Addr} {sl_law_mixed : Array (Option Value)}
    {v_law_take : Addr} {oc_law_take kV_law_take dc_law_take pm_law_take cd_law_take ct_law_take : Value} {od_law_take an_law_take : Option Addr} {sl_law_take : Array (Option Value)}
    {v_law_whole : Addr} {oc_law_whole kV_law_whole dc_law_whole pm_law_whole cd_law_whole ct_law_whole : Value} {od_law_whole an_law_whole : Option Addr} {sl_law_whole : Array (Option Value)}
    {v_law_piece : Addr} {oc_law_piece kV_law_piece dc_law_piece pm_law_piece cd_law_piece ct_law_piece : Value} {od_law_piece an_law_piece : Option Addr} {sl_law_piece : Array (Option Value)}
    {v_law_end_of : Addr} {oc_law_end_of kV_law_end_of dc_law_end_of pm_law_end_of cd_law_end_of ct_law_end_of : Value} {od_law_end_of an_law_end_of : Option Addr} {sl_law_end_of : Array (Option Value)}
    {v_law_sign_at : Addr} {oc_law_sign_at kV_law_sign_at dc_law_sign_at pm_law_sign_at cd_law_sign_at ct_law_sign_at : Value} {od_law_sign_at an_law_sign_at : Option Addr} {sl_law_sign_at : Array (Option Value)}
    {v_law_cut_told : Addr} {oc_law_cut_told kV_law_cut_told dc_law_cut_told pm_law_cut_told cd_law_cut_told ct_law_cut_told : Value} {od_law_cut_told an_law_cut_told : Option Addr} {sl_law_cut_told : Array (Option Value)}
    {v_law : Addr} {oc_law kV_law dc_law pm_law cd_law ct_law : Value} {od_law an_law : Option Addr} {sl_law : Array (Option Value)}
    {v_BadText___init__ : Addr} {oc_BadText___init__ kV_BadText___init__ dc_BadText___init__ pm_BadText___init__ cd_BadText___init__ ct_BadText___init__ : Value} {od_BadText___init__ an_BadText___init__ : Option Addr} {sl_BadText___init__ : Array (Option Value)}
    {w_BadText N_BadText : Addr} {nm_BadText q_BadText : Str} {bs_BadText bm_BadText sub_BadText : List Value} {sn_BadText : List Str} {ab_BadText : Bool} {col_BadText : Option Bool} {dd_BadText : Option Addr} {m0_BadText m1_BadText m2_BadText m3_BadText m5_BadText : Option Value}
    {t_MOST_NUMBER : Tok}
    {t_LETTERS : Tok}
    {t_FIGURES : Tok}
    {p_KEYWORDS : Addr}
    {d_KEYWORDS : Option Addr} {i_KEYWORDS : Array Value} {n_KEYWORDS : Nat} {s_KEYWORDS : Array (Option Value)}
    {p_SIGNS : Addr}
    {d_SIGNS : Option Addr} {i_SIGNS : Array Value} {n_SIGNS : Nat} {s_SIGNS : Array (Option Value)}
    {t_MOST_NAME : Tok}
    {t_MOST_BRACKETS : Tok}
    {u_c_UndoError : Addr}
    (hm_BadText : PySem.W.nsIn K mainGlobals "BadText" = some (some (.ref w_BadText)))
    (xl_BadText : K.lookup w_BadText = some (excClassObj nm_BadText q_BadText w_BadText N_BadText bs_BadText bm_BadText true sn_BadText sub_BadText ab_BadText col_BadText dd_BadText m0_BadText m1_BadText m2_BadText m3_BadText m5_BadText "ValueError.__new__"))
    (xv_BadText : PySem.HandSPX.refsVE bm_BadText = true)
    (xs_BadText : PySem.W.findIn K (.ref w_BadText) "__setattr__" = some (some (.builtin "object.__setattr__")))
    (xg_BadText : PySem.W.findIn K (.ref w_BadText) "__getattribute__" = some (some (.builtin "BaseException.__getattribute__")))
    (xh_BadText : PySem.W.findIn K (.ref w_BadText) "__getattr__" = some none)
    (xk_BadText : PySem.W.keepIn K (.ref w_BadText) = true)
    (xb_BadText : PySem.W.subIn K (.ref w_BadText) (.type "BaseException") = some true)
    (xy_BadText : PySem.W.typeIn K (.ref w_BadText) = some (.type "type"))
    (xd_BadText : PySem.W.hasDictIn K w_BadText = true)
    (xc_BadText : PySem.W.isClsIn K w_BadText = true)
    (xz_BadText : PySem.W.subIn K (.ref w_BadText) (.ref w_BadText) = some true)
    (hxi_BadText : PySem.W.findIn K (.ref w_BadText) "__init__" = some (some (.ref v_BadText___init__)))
    (hxt_BadText : PySem.W.typeIn K (.ref v_BadText___init__) = some (.type "function"))
    (hxn_BadText_spot : PySem.W.findIn K (.ref w_BadText) "spot" = some none)
    (hxn_BadText_what : PySem.W.findIn K (.ref w_BadText) "what" = some none)
    (hm_cut_text : PySem.W.nsIn K mainGlobals "cut_text" = some (some (.ref v_cut_text)))
    (hl_cut_text : K.lookup v_cut_text = some ⟨oc_cut_text, od_cut_text, .func (PySem.W.fnOf "cut_text" "cut_text" (defArgs s_cut_text) (defBody s_cut_text) (defScope s_cut_text) .none kV_cut_text dc_cut_text pm_cut_text an_cut_text cd_cut_text ct_cut_text), sl_cut_text⟩)
    (hc_cut_text : PySem.W.codeIn K cd_cut_text "cut_text" = true)
    (hk_cut_text : PySem.W.keepIn K (.ref v_cut_text) = true)
    (hm_cut_token : PySem.W.nsIn K mainGlobals "cut_token" = some (some (.ref v_cut_token)))
    (hl_cut_token : K.lookup v_cut_token = some ⟨oc_cut_token, od_cut_token, .func (PySem.W.fnOf "cut_token" "cut_token" (defArgs s_cut_token) (defBody s_cut_token) (defScope s_cut_token) .none kV_cut_token dc_cut_token pm_cut_token an_cut_token cd_cut_token ct_cut_token), sl_cut_token⟩)
    (hc_cut_token : PySem.W.codeIn K cd_cut_token "cut_token" = true)
    (hk_cut_token : PySem.W.keepIn K (.ref v_cut_token) = true)
    (hm_row_of : PySem.W.nsIn K mainGlobals "row_of" = some (some (.ref v_row_of)))
    (hl_row_of : K.lookup v_row_of = some ⟨oc_row_of, od_row_of, .func (PySem.W.fnOf "row_of" "row_of" (defArgs s_row_of) (defBody s_row_of) (defScope s_row_of) .none kV_row_of dc_row_of pm_row_of an_row_of cd_row_of ct_row_of), sl_row_of⟩)
    (hc_row_of : PySem.W.codeIn K cd_row_of "row_of" = true)
    (hk_row_of : PySem.W.keepIn K (.ref v_row_of) = true)
    (hm_cut_word : PySem.W.nsIn K mainGlobals "cut_word" = some (some (.ref v_cut_word)))
    (hl_cut_word : K.lookup v_cut_word = some ⟨oc_cut_word, od_cut_word, .func (PySem.W.fnOf "cut_word" "cut_word" (defArgs s_cut_word) (defBody s_cut_word) (defScope s_cut_word) .none kV_cut_word dc_cut_word pm_cut_word an_cut_word cd_cut_word ct_cut_word), sl_cut_word⟩)
    (hc_cut_word : PySem.W.codeIn K cd_cut_word "cut_word" = true)
    (hk_cut_word : PySem.W.keepIn K (.ref v_cut_word) = true)
    (hm_cut_number : PySem.W.nsIn K mainGlobals "cut_number" = some (some (.ref v_cut_number)))
    (hl_cut_number : K.lookup v_cut_number = some ⟨oc_cut_number, od_cut_number, .func (PySem.W.fnOf "cut_number" "cut_number" (defArgs s_cut_number) (defBody s_cut_number) (defScope s_cut_number) .none kV_cut_number dc_cut_number pm_cut_number an_cut_number cd_cut_number ct_cut_number), sl_cut_number⟩)
    (hc_cut_number : PySem.W.codeIn K cd_cut_number "cut_number" = true)
    (hk_cut_number : PySem.W.keepIn K (.ref v_cut_number) = true)
    (hm_brackets_behind : PySem.W.nsIn K mainGlobals "brackets_behind" = some (some (.ref v_brackets_behind)))
    (hl_brackets_behind : K.lookup v_brackets_behind = some ⟨oc_brackets_behind, od_brackets_behind, .func (PySem.W.fnOf "brackets_behind" "brackets_behind" (defArgs s_brackets_behind) (defBody s_brackets_behind) (defScope s_brackets_behind) .none kV_brackets_behind dc_brackets_behind pm_brackets_behind an_brackets_behind cd_brackets_behind ct_brackets_behind), sl_brackets_behind⟩)
    (hc_brackets_behind : PySem.W.codeIn K cd_brackets_behind "brackets_behind" = true)
    (hk_brackets_behind : PySem.W.keepIn K (.ref v_brackets_behind) = true)
    (hm_is_name : PySem.W.nsIn K mainGlobals "is_name" = some (some (.ref v_is_name)))
    (hl_is_name : K.lookup v_is_name = some ⟨oc_is_name, od_is_name, .func (PySem.W.fnOf "is_name" "is_name" (defArgs s_is_name) (defBody s_is_name) (defScope s_is_name) .none kV_is_name dc_is_name pm_is_name an_is_name cd_is_name ct_is_name), sl_is_name⟩)
    (hc_is_name : PySem.W.codeIn K cd_is_name "is_name" = true)
    (hk_is_name : PySem.W.keepIn K (.ref v_is_name) = true)
    (hm_law_hand : PySem.W.nsIn K mainGlobals "_law_hand" = some (some (.ref v_law_hand)))
    (hl_law_hand : K.lookup v_law_hand = some ⟨oc_law_hand, od_law_hand, .func (PySem.W.fnOf "_law_hand" "_law_hand" (defArgs s_law_hand) (defBody s_law_hand) (defScope s_law_hand) .none kV_law_hand dc_law_hand pm_law_hand an_law_hand cd_law_hand ct_law_hand), sl_law_hand⟩)
    (hc_law_hand : PySem.W.codeIn K cd_law_hand "_law_hand" = true)
    (hk_law_hand : PySem.W.keepIn K (.ref v_law_hand) = true)
    (hm_law_mixed : PySem.W.nsIn K mainGlobals "_law_mixed" = some (some (.ref v_law_mixed)))
    (hl_law_mixed : K.lookup v_law_mixed = some ⟨oc_law_mixed, od_law_mixed, .func (PySem.W.fnOf "_law_mixed" "_law_mixed" (defArgs s_law_mixed) (defBody s_law_mixed) (defScope s_law_mixed) .none kV_law_mixed dc_law_mixed pm_law_mixed an_law_mixed cd_law_mixed ct_law_mixed), sl_law_mixed⟩)
    (hc_law_mixed : PySem.W.codeIn K cd_law_mixed "_law_mixed" = true)
    (hk_law_mixed : PySem.W.keepIn K (.ref v_law_mixed) = true)
    (hm_law_take : PySem.W.nsIn K mainGlobals "_law_take" = some (some (.ref v_law_take)))
    (hl_law_take : K.lookup v_law_take = some ⟨oc_law_take, od_law_take, .func (PySem.W.fnOf "_law_take" "_law_take" (defArgs s_law_take) (defBody s_law_take) (defScope s_law_take) .none kV_law_take dc_law_take pm_law_take an_law_take cd_law_take ct_law_take), sl_law_take⟩)
    (hc_law_take : PySem.W.codeIn K cd_law_take "_law_take" = true)
    (hk_law_take : PySem.W.keepIn K (.ref v_law_take) = true)
    (hm_law_whole : PySem.W.nsIn K mainGlobals "_law_whole" = some (some (.ref v_law_whole)))
    (hl_law_whole : K.lookup v_law_whole = some ⟨oc_law_whole, od_law_whole, .func (PySem.W.fnOf "_law_whole" "_law_whole" (defArgs s_law_whole) (defBody s_law_whole) (defScope s_law_whole) .none kV_law_whole dc_law_whole pm_law_whole an_law_whole cd_law_whole ct_law_whole), sl_law_whole⟩)
    (hc_law_whole : PySem.W.codeIn K cd_law_whole "_law_whole" = true)
    (hk_law_whole : PySem.W.keepIn K (.ref v_law_whole) = true)
    (hm_law_piece : PySem.W.nsIn K mainGlobals "_law_piece" = some (some (.ref v_law_piece)))
    (hl_law_piece : K.lookup v_law_piece = some ⟨oc_law_piece, od_law_piece, .func (PySem.W.fnOf "_law_piece" "_law_piece" (defArgs s_law_piece) (defBody s_law_piece) (defScope s_law_piece) .none kV_law_piece dc_law_piece pm_law_piece an_law_piece cd_law_piece ct_law_piece), sl_law_piece⟩)
    (hc_law_piece : PySem.W.codeIn K cd_law_piece "_law_piece" = true)
    (hk_law_piece : PySem.W.keepIn K (.ref v_law_piece) = true)
    (hm_law_end_of : PySem.W.nsIn K mainGlobals "_law_end_of" = some (some (.ref v_law_end_of)))
    (hl_law_end_of : K.lookup v_law_end_of = some ⟨oc_law_end_of, od_law_end_of, .func (PySem.W.fnOf "_law_end_of" "_law_end_of" (defArgs s_law_end_of) (defBody s_law_end_of) (defScope s_law_end_of) .none kV_law_end_of dc_law_end_of pm_law_end_of an_law_end_of cd_law_end_of ct_law_end_of), sl_law_end_of⟩)
    (hc_law_end_of : PySem.W.codeIn K cd_law_end_of "_law_end_of" = true)
    (hk_law_end_of : PySem.W.keepIn K (.ref v_law_end_of) = true)
    (hm_law_sign_at : PySem.W.nsIn K mainGlobals "_law_sign_at" = some (some (.ref v_law_sign_at)))
    (hl_law_sign_at : K.lookup v_law_sign_at = some ⟨oc_law_sign_at, od_law_sign_at, .func (PySem.W.fnOf "_law_sign_at" "_law_sign_at" (defArgs s_law_sign_at) (defBody s_law_sign_at) (defScope s_law_sign_at) .none kV_law_sign_at dc_law_sign_at pm_law_sign_at an_law_sign_at cd_law_sign_at ct_law_sign_at), sl_law_sign_at⟩)
    (hc_law_sign_at : PySem.W.codeIn K cd_law_sign_at "_law_sign_at" = true)
    (hk_law_sign_at : PySem.W.keepIn K (.ref v_law_sign_at) = true)
    (hm_law_cut_told : PySem.W.nsIn K mainGlobals "_law_cut_told" = some (some (.ref v_law_cut_told)))
    (hl_law_cut_told : K.lookup v_law_cut_told = some ⟨oc_law_cut_told, od_law_cut_told, .func (PySem.W.fnOf "_law_cut_told" "_law_cut_told" (defArgs s_law_cut_told) (defBody s_law_cut_told) (defScope s_law_cut_told) .none kV_law_cut_told dc_law_cut_told pm_law_cut_told an_law_cut_told cd_law_cut_told ct_law_cut_told), sl_law_cut_told⟩)
    (hc_law_cut_told : PySem.W.codeIn K cd_law_cut_told "_law_cut_told" = true)
    (hk_law_cut_told : PySem.W.keepIn K (.ref v_law_cut_told) = true)
    (hm_law : PySem.W.nsIn K mainGlobals "law" = some (some (.ref v_law)))
    (hl_law : K.lookup v_law = some ⟨oc_law, od_law, .func (PySem.W.fnOf "law" "law" (defArgs s_law) (defBody s_law) (defScope s_law) .none kV_law dc_law pm_law an_law cd_law ct_law), sl_law⟩)
    (hc_law : PySem.W.codeIn K cd_law "law" = true)
    (hk_law : PySem.W.keepIn K (.ref v_law) = true)
    (hl_BadText___init__ : K.lookup v_BadText___init__ = some ⟨oc_BadText___init__, od_BadText___init__, .func (PySem.W.fnOf "__init__" "BadText.__init__" (defArgs s_BadText___init__) (defBody s_BadText___init__) (defScope s_BadText___init__) .none kV_BadText___init__ dc_BadText___init__ pm_BadText___init__ an_BadText___init__ cd_BadText___init__ ct_BadText___init__), sl_BadText___init__⟩)
    (hc_BadText___init__ : PySem.W.codeIn K cd_BadText___init__ "BadText.__init__" = true)
    (hk_BadText___init__ : PySem.W.keepIn K (.ref v_BadText___init__) = true)
    (hm_MOST_NUMBER : PySem.W.nsIn K mainGlobals "MOST_NUMBER" = some (some (.int 4095 t_MOST_NUMBER)))
    (hm_LETTERS : PySem.W.nsIn K mainGlobals "LETTERS" = some (some (.str "abcdefghijklmnopqrstuvwxyz" t_LETTERS)))
    (hm_FIGURES : PySem.W.nsIn K mainGlobals "FIGURES" = some (some (.str "0123456789" t_FIGURES)))
    (hm_KEYWORDS : PySem.W.nsIn K mainGlobals "KEYWORDS" = some (some (.ref p_KEYWORDS)))
    (tl_KEYWORDS : K.lookup p_KEYWORDS = some ⟨.type "tuple", d_KEYWORDS, .seq i_KEYWORDS n_KEYWORDS, s_KEYWORDS⟩)
    (ti_KEYWORDS : valsB [.str "fun", .str "let", .str "repeat", .str "if", .str "else", .str "give", .str "pick", .str "table", .str "routine", .str "from", .str "loop", .str "until", .str "fi", .str "local", .str "end", .str "call", .str "back"] i_KEYWORDS.toList = true)
    (tz_KEYWORDS : decide (i_KEYWORDS.size ≤ 1000) = true)
    (hm_SIGNS : PySem.W.nsIn K mainGlobals "SIGNS" = some (some (.ref p_SIGNS)))
    (tl_SIGNS : K.lookup p_SIGNS = some ⟨.type "tuple", d_SIGNS, .seq i_SIGNS n_SIGNS, s_SIGNS⟩)
    (ti_SIGNS : valsB [.str "<=>", .str "==", .str "<<", .str ">>", .str "+=", .str "-=", .str "^=", .str "{", .str "}", .str "(", .str ")", .str "[", .str "]", .str ",", .str ";", .str "=", .str "+", .str "-", .str "*", .str "&", .str "|", .str "^", .str "<"] i_SIGNS.toList = true)
    (tz_SIGNS : decide (i_SIGNS.size ≤ 1000) = true)
    (hm_MOST_NAME : PySem.W.nsIn K mainGlobals "MOST_NAME" = some (some (.int 8 t_MOST_NAME)))
    (hm_MOST_BRACKETS : PySem.W.nsIn K mainGlobals "MOST_BRACKETS" = some (some (.int 20 t_MOST_BRACKETS)))
    (hz_abs : PySem.W.nsIn K mainGlobals "abs" = some none)
    (hz_bool : PySem.W.nsIn K mainGlobals "bool" = some none)
    (hz_int : PySem.W.nsIn K mainGlobals "int" = some none)
    (hz_isinstance : PySem.W.nsIn K mainGlobals "isinstance" = some none)
    (hz_len : PySem.W.nsIn K mainGlobals "len" = some none)
    (hz_list : PySem.W.nsIn K mainGlobals "list" = some none)
    (hz_max : PySem.W.nsIn K mainGlobals "max" = some none)
    (hz_range : PySem.W.nsIn K mainGlobals "range" = some none)
    (hz_str : PySem.W.nsIn K mainGlobals "str" = some none)
    (hz_tuple : PySem.W.nsIn K mainGlobals "tuple" = some none)
    (hm_UndoError : PySem.W.nsIn K mainGlobals "UndoError" = some (some (.ref u_c_UndoError))) :
    ∃ fd : FuncData, (∀ (s : Shared) (u : Value), BindsTo s fd ⟨[u], []⟩ [("_law_script", u)]) ∧ ∀ base : Heap, K.In base → base.Ns mainGlobals mg → FnOk P w K mg base CX0 7 fa fd ["_law_script"] (spLaw K) := by
  have e := hfa.symm.trans (PySem.W.mg_of X G hm_law)
  cases e
  have F_cut_text := fun_mk (st := s_cut_text) hl_cut_text hc_cut_text hk_cut_text
  have b_cut_text := F_cut_text.binds (ps := ["text", "most"]) fun _ _ _ _ _ _ us hl => match us, hl with | [_, _], _ => rfl
  have F_cut_token := fun_mk (st := s_cut_token) hl_cut_token hc_cut_token hk_cut_token
  have b_cut_token := F_cut_token.binds (ps := ["text", "spot"]) fun _ _ _ _ _ _ us hl => match us, hl with | [_, _], _ => rfl
  have F_row_of := fun_mk (st := s_row_of) hl_row_of hc_row_of hk_row_of
  have b_row_of := F_row_of.binds (ps := ["text", "spot", "letters"]) fun _ _ _ _ _ _ us hl => match us, hl with | [_, _, _], _ => rfl
  have F_cut_word := fun_mk (st := s_cut_word) hl_cut_word hc_cut_word hk_cut_word
  have b_cut_word := F_cut_word.binds (ps := ["text", "spot"]) fun _ _ _ _ _ _ us hl => match us, hl with | [_, _], _ => rfl
  have F_cut_number := fun_mk (st := s_cut_number) hl_cut_number hc_cut_number hk_cut_number
  have b_cut_number := F_cut_number.binds (ps := ["text", "spot"]) fun _ _ _ _ _ _ us hl => match us, hl with | [_, _], _ => rfl
  have F_brackets_behind := fun_mk (st := s_brackets_behind) hl_brackets_behind hc_brackets_behind hk_brackets_behind
  have b_brackets_behind := F_brackets_behind.binds (ps := ["token", "brackets"]) fun _ _ _ _ _ _ us hl => match us, hl with | [_, _], _ => rfl
  have F_is_name := fun_mk (st := s_is_name) hl_is_name hc_is_name hk_is_name
  have b_is_name := F_is_name.binds (ps := ["text"]) fun _ _ _ _ _ _ us hl => match us, hl with | [_], _ => rfl
  have F_law_hand := fun_mk (st := s_law_hand) hl_law_hand hc_law_hand hk_law_hand
  have b_law_hand := F_law_hand.binds (ps := ["_law_script"]) fun _ _ _ _ _ _ us hl => match us, hl with | [_], _ => rfl
  have F_law_mixed := fun_mk (st := s_law_mixed) hl_law_mixed hc_law_mixed hk_law_mixed
  have b_law_mixed := F_law_mixed.binds (ps := ["_law_number", "_law_turn"]) fun _ _ _ _ _ _ us hl => match us, hl with | [_, _], _ => rfl
  have F_law_take := fun_mk (st := s_law_take) hl_law_take hc_law_take hk_law_take
  have b_law_take := F_law_take.binds (ps := ["_law_hand_here", "_law_many"]) fun _ _ _ _ _ _ us hl => match us, hl with | [_, _], _ => rfl
  have F_law_whole := fun_mk (st := s_law_whole) hl_law_whole hc_law_whole hk_law_whole
  have b_law_whole := F_law_whole.binds (ps := ["_law_thing"]) fun _ _ _ _ _ _ us hl => match us, hl with | [_], _ => rfl
  have F_law_piece := fun_mk (st := s_law_piece) hl_law_piece hc_law_piece hk_law_piece
  have b_law_piece := F_law_piece.binds (ps := ["_law_hand_here"]) fun _ _ _ _ _ _ us hl => match us, hl with | [_], _ => rfl
  have F_law_end_of := fun_mk (st := s_law_end_of) hl_law_end_of hc_law_end_of hk_law_end_of
  have b_law_end_of := F_law_end_of.binds (ps := ["_law_text", "_law_at", "_law_signs"]) fun _ _ _ _ _ _ us hl => match us, hl with | [_, _, _], _ => rfl
  have F_law_sign_at := fun_mk (st := s_law_sign_at) hl_law_sign_at hc_law_sign_at hk_law_sign_at
  have b_law_sign_at := F_law_sign_at.binds (ps := ["_law_text", "_law_at"]) fun _ _ _ _ _ _ us hl => match us, hl with | [_, _], _ => rfl
  have F_law_cut_told := fun_mk (st := s_law_cut_told) hl_law_cut_told hc_law_cut_told hk_law_cut_told
  have b_law_cut_told := F_law_cut_told.binds (ps := ["_law_text", "_law_most"]) fun _ _ _ _ _ _ us hl => match us, hl with | [_, _], _ => rfl
  have F_law := fun_mk (st := s_law) hl_law hc_law hk_law
  have b_law := F_law.binds (ps := ["_law_script"]) fun _ _ _ _ _ _ us hl => match us, hl with | [_], _ => rfl
  have F_BadText___init__ := fun_mk (st := s_BadText___init__) hl_BadText___init__ hc_BadText___init__ hk_BadText___init__
  have b_BadText___init__ := F_BadText___init__.binds (ps := ["self", "spot", "what"]) fun _ _ _ _ _ _ us hl => match us, hl with | [_, _, _], _ => rfl
  have T : Txt K mg ⟨v_cut_text, (PySem.W.fnOf "cut_text" "cut_text" (defArgs s_cut_text) (defBody s_cut_text) (defScope s_cut_text) .none kV_cut_text dc_cut_text pm_cut_text an_cut_text cd_cut_text ct_cut_text), v_cut_token, (PySem.W.fnOf "cut_token" "cut_token" (defArgs s_cut_token) (defBody s_cut_token) (defScope s_cut_token) .none kV_cut_token dc_cut_token pm_cut_token an_cut_token cd_cut_token ct_cut_token), v_row_of, (PySem.W.fnOf "row_of" "row_of" (defArgs s_row_of) (defBody s_row_of) (defScope s_row_of) .none kV_row_of dc_row_of pm_row_of an_row_of cd_row_of ct_row_of), v_cut_word, (PySem.W.fnOf "cut_word" "cut_word" (defArgs s_cut_word) (defBody s_cut_word) (defScope s_cut_word) .none kV_cut_word dc_cut_word pm_cut_word an_cut_word cd_cut_word ct_cut_word), v_cut_number, (PySem.W.fnOf "cut_number" "cut_number" (defArgs s_cut_number) (defBody s_cut_number) (defScope s_cut_number) .none kV_cut_number dc_cut_number pm_cut_number an_cut_number cd_cut_number ct_cut_number), v_brackets_behind, (PySem.W.fnOf "brackets_behind" "brackets_behind" (defArgs s_brackets_behind) (defBody s_brackets_behind) (defScope s_brackets_behind) .none kV_brackets_behind dc_brackets_behind pm_brackets_behind an_brackets_behind cd_brackets_behind ct_brackets_behind), v_is_name, (PySem.W.fnOf "is_name" "is_name" (defArgs s_is_name) (defBody s_is_name) (defScope s_is_name) .none kV_is_name dc_is_name pm_is_name an_is_name cd_is_name ct_is_name), v_law_hand, (PySem.W.fnOf "_law_hand" "_law_hand" (defArgs s_law_hand) (defBody s_law_hand) (defScope s_law_hand) .none kV_law_hand dc_law_hand pm_law_hand an_law_hand cd_law_hand ct_law_hand), v_law_mixed, (PySem.W.fnOf "_law_mixed" "_law_mixed" (defArgs s_law_mixed) (defBody s_law_mixed) (defScope s_law_mixed) .none kV_law_mixed dc_law_mixed pm_law_mixed an_law_mixed cd_law_mixed ct_law_mixed), v_law_take, (PySem.W.fnOf "_law_take" "_law_take" (defArgs s_law_take) (defBody s_law_take) (defScope s_law_take) .none kV_law_take dc_law_take pm_law_take an_law_take cd_law_take ct_law_take), v_law_whole, (PySem.W.fnOf "_law_whole" "_law_whole" (defArgs s_law_whole) (defBody s_law_whole) (defScope s_law_whole) .none kV_law_whole dc_law_whole pm_law_whole an_law_whole cd_law_whole ct_law_whole), v_law_piece, (PySem.W.fnOf "_law_piece" "_law_piece" (defArgs s_law_piece) (defBody s_law_piece) (defScope s_law_piece) .none kV_law_piece dc_law_piece pm_law_piece an_law_piece cd_law_piece ct_law_piece), v_law_end_of, (PySem.W.fnOf "_law_end_of" "_law_end_of" (defArgs s_law_end_of) (defBody s_law_end_of) (defScope s_law_end_of) .none kV_law_end_of dc_law_end_of pm_law_end_of an_law_end_of cd_law_end_of ct_law_end_of), v_law_sign_at, (PySem.W.fnOf "_law_sign_at" "_law_sign_at" (defArgs s_law_sign_at) (defBody s_law_sign_at) (defScope s_law_sign_at) .none kV_law_sign_at dc_law_sign_at pm_law_sign_at an_law_sign_at cd_law_sign_at ct_law_sign_at), v_law_cut_told, (PySem.W.fnOf "_law_cut_told" "_law_cut_told" (defArgs s_law_cut_told) (defBody s_law_cut_told) (defScope s_law_cut_told) .none kV_law_cut_told dc_law_cut_told pm_law_cut_told an_law_cut_told cd_law_cut_told ct_law_cut_told), fa, (PySem.W.fnOf "law" "law" (defArgs s_law) (defBody s_law) (defScope s_law) .none kV_law dc_law pm_law an_law cd_law ct_law), u_c_UndoError, w_BadText, v_BadText___init__, (PySem.W.fnOf "__init__" "BadText.__init__" (defArgs s_BadText___init__) (defBody s_BadText___init__) (defScope s_BadText___init__) .none kV_BadText___init__ dc_BadText___init__ pm_BadText___init__ an_BadText___init__ cd_BadText___init__ ct_BadText___init__), p_KEYWORDS, p_SIGNS⟩ := ⟨PySem.W.mg_of X G hm_cut_text, F_cut_text, b_cut_text, PySem.W.mg_of X G hm_cut_token, F_cut_token, b_cut_token, PySem.W.mg_of X G hm_row_of, F_row_of, b_row_of, PySem.W.mg_of X G hm_cut_word, F_cut_word, b_cut_word, PySem.W.mg_of X G hm_cut_number, F_cut_number, b_cut_number, PySem.W.mg_of X G hm_brackets_behind, F_brackets_behind, b_brackets_behind, PySem.W.mg_of X G hm_is_name, F_is_name, b_is_name, PySem.W.mg_of X G hm_law_hand, F_law_hand, b_law_hand, PySem.W.mg_of X G hm_law_mixed, F_law_mixed, b_law_mixed, PySem.W.mg_of X G hm_law_take, F_law_take, b_law_take, PySem.W.mg_of X G hm_law_whole, F_law_whole, b_law_whole, PySem.W.mg_of X G hm_law_piece, F_law_piece, b_law_piece, PySem.W.mg_of X G hm_law_end_of, F_law_end_of, b_law_end_of, PySem.W.mg_of X G hm_law_sign_at, F_law_sign_at, b_law_sign_at, PySem.W.mg_of X G hm_law_cut_told, F_law_cut_told, b_law_cut_told, PySem.W.mg_of X G hm_law, F_law, b_law, PySem.W.mg_of X G hm_BadText, ⟨⟨_, _, _, _, _, _, _, _, _, _, _, _, _, _, _, xl_BadText, xv_BadText⟩, xs_BadText, xb_BadText, xy_BadText, xk_BadText⟩, ⟨xg_BadText, xh_BadText, xb_BadText, xd_BadText⟩, hxi_BadText, hxt_BadText, exm_self xb_BadText xc_BadText xy_BadText xz_BadText, hxn_BadText_spot, hxn_BadText_what, F_BadText___init__, b_BadText___init__, ⟨_, PySem.W.mg_of X G hm_MOST_NUMBER, ⟨_, rfl⟩⟩, ⟨_, PySem.W.mg_of X G hm_LETTERS, ⟨_, rfl⟩⟩, ⟨_, PySem.W.mg_of X G hm_FIGURES, ⟨_, rfl⟩⟩, ⟨_, PySem.W.mg_of X G hm_KEYWORDS, rfl⟩, fun H => sqT_mk tl_KEYWORDS ti_KEYWORDS tz_KEYWORDS, ⟨_, PySem.W.mg_of X G hm_SIGNS, rfl⟩, fun H => sqT_mk tl_SIGNS ti_SIGNS tz_SIGNS, ⟨_, PySem.W.mg_of X G hm_MOST_NAME, ⟨_, rfl⟩⟩, ⟨_, PySem.W.mg_of X G hm_MOST_BRACKETS, ⟨_, rfl⟩⟩, PySem.W.mg_none_of X G hz_abs, PySem.W.mg_none_of X G hz_bool, PySem.W.mg_none_of X G hz_int, PySem.W.mg_none_of X G hz_isinstance, PySem.W.mg_none_of X G hz_len, PySem.W.mg_none_of X G hz_list, PySem.W.mg_none_of X G hz_max, PySem.W.mg_none_of X G hz_range, PySem.W.mg_none_of X G hz_str, PySem.W.mg_none_of X G hz_tuple⟩
  exact ⟨(PySem.W.fnOf "law" "law" (defArgs s_law) (defBody s_law) (defScope s_law) .none kV_law dc_law pm_law an_law cd_law ct_law), fun s u => .of_eq rfl, fun base _ _ => ok_law T⟩
theorem walk {l : PySem.W.OpenLaw} {q : Program} {loose : List Str} {XP : (Str → Option Value) → Heap → Prop} {YP : World → Heap → Prop} {d : DefRec} {K : Params → PySem.W.Frag} (hn : l.most = some 63) (hdf : d.params.defaults = [])
    (hY : ∀ (w : World) (h : Heap), YP w h → (K w.params).In h)
    (F : ∀ (w : World) (mg : Str → Option Value) (fa : Addr) (h : Heap), (K w.params).In h → h.Ns mainGlobals mg → mg d.name = some (.ref fa) →
      ∃ fd : FuncData, (∀ (s : Shared) (u : Value), BindsTo s fd ⟨[u], []⟩ [("_law_script", u)]) ∧ ∀ base : Heap, (K w.params).In base → base.Ns mainGlobals mg → FnOk l.prog w (K w.params) mg base CX0 7 fa fd ["_law_script"] (spLaw (K w.params))) :
    PySem.W.WalkO q loose XP YP l.row.toRowW d [] (fun f vs => PySem.call f vs) :=
  L2.walk_of (n := 63) (k := 7) (x := "_law_script") (CX := fun _ => CX0) (sp := fun w => spLaw (K w.params)) hn (by decide) hdf ⟨rfl, by decide, by decide⟩ hY F (fun _ _ a ns hl _ hS => ⟨a, ns, rfl, hS, hl, fun _ => rfl⟩) fun _ _ _ _ _ z => z
end My
open PySem PySem.W PyProof.Rows in
set_option maxRecDepth 100000 in
set_option maxHeartbeats 0 in
theorem PySem.Challenge.cw_undocells_k01_tokens_of_any_text_holds : PySem.Challenge.rw_undocells_k01_tokens_of_any_text.Holds := by
  w_on; o_law; k_head; (case hw => w_witness2)
  k_fill
  refine My.walk (l := PySem.Challenge.rw_undocells_k01_tokens_of_any_text) rfl rfl (fun w h Y => PySem.W.kIn_of Y) ?F
  case F =>
    intro w mg fa h KX G hmg
    refine' My.all_mk KX G hmg ?hm_BadText ?xl_BadText ?xv_BadText ?xs_BadText ?xg_BadText ?xh_BadText ?xk_BadText ?xb_BadText ?xy_BadText ?xd_BadText ?xc_BadText ?xz_BadText ?hxi_BadText ?hxt_BadText ?hxn_BadText_spot ?hxn_BadText_what ?hm_cut_text ?hl_cut_text ?hc_cut_text ?hk_cut_text ?hm_cut_token ?hl_cut_token ?hc_cut_token ?hk_cut_token ?hm_row_of ?hl_row_of ?hc_row_of ?hk_row_of ?hm_cut_word ?hl_cut_word ?hc_cut_word ?hk_cut_word ?hm_cut_number ?hl_cut_number ?hc_cut_number ?hk_cut_number ?hm_brackets_behind ?hl_brackets_behind ?hc_brackets_behind ?hk_brackets_behind ?hm_is_name ?hl_is_name ?hc_is_name ?hk_is_name ?hm_law_hand ?hl_law_hand ?hc_law_hand ?hk_law_hand ?hm_law_mixed ?hl_law_mixed ?hc_law_mixed ?hk_law_mixed ?hm_law_take ?hl_law_take ?hc_law_take ?hk_law_take ?hm_law_whole ?hl_law_whole ?hc_law_whole ?hk_law_whole ?hm_law_piece ?hl_law_piece ?hc_law_piece ?hk_law_piece ?hm_law_end_of ?hl_law_end_of ?hc_law_end_of ?hk_law_end_of ?hm_law_sign_at ?hl_law_sign_at ?hc_law_sign_at ?hk_law_sign_at ?hm_law_cut_told ?hl_law_cut_told ?hc_law_cut_told ?hk_law_cut_told ?hm_law ?hl_law ?hc_law ?hk_law ?hl_BadText___init__ ?hc_BadText___init__ ?hk_BadText___init__ ?hm_MOST_NUMBER ?hm_LETTERS ?hm_FIGURES ?hm_KEYWORDS ?tl_KEYWORDS ?ti_KEYWORDS ?tz_KEYWORDS ?hm_SIGNS ?tl_SIGNS ?ti_SIGNS ?tz_SIGNS ?hm_MOST_NAME ?hm_MOST_BRACKETS ?hz_abs ?hz_bool ?hz_int ?hz_isinstance ?hz_len ?hz_list ?hz_max ?hz_range ?hz_str ?hz_tuple ?hm_UndoError
    (case hm_BadText => k_is)
    (case xl_BadText => k_is)
    (case xv_BadText => decide +kernel)
    (case xs_BadText => k_is)
    (case xg_BadText => k_is)
    (case xh_BadText => k_is)
    (case xk_BadText => k_is)
    (case xb_BadText => k_is)
    (case xy_BadText => k_is)
    (case xd_BadText => k_is)
    (case xc_BadText => k_is)
    (case xz_BadText => first | rfl | k_is)
    (case hxi_BadText => k_is)
    (case hxt_BadText => k_is)
    (case hxn_BadText_spot => k_is)
    (case hxn_BadText_what => k_is)
    (case hm_cut_text => k_is)
    (case hl_cut_text => k_is)
    (case hc_cut_text => k_is)
    (case hk_cut_text => k_is)
    (case hm_cut_token => k_is)
    (case hl_cut_token => k_is)
    (case hc_cut_token => k_is)
    (case hk_cut_token => k_is)
    (case hm_row_of => k_is)
    (case hl_row_of => k_is)
    (case hc_row_of => k_is)
    (case hk_row_of => k_is)
    (case hm_cut_word => k_is)
    (case hl_cut_word => k_is)
    (case hc_cut_word => k_is)
    (case hk_cut_word => k_is)
    (case hm_cut_number => k_is)
    (case hl_cut_number => k_is)
    (case hc_cut_number => k_is)
    (case hk_cut_number => k_is)
    (case hm_brackets_behind => k_is)
    (case hl_brackets_behind => k_is)
    (case hc_brackets_behind => k_is)
    (case hk_brackets_behind => k_is)
    (case hm_is_name => k_is)
    (case hl_is_name => k_is)
    (case hc_is_name => k_is)
    (case hk_is_name => k_is)
    (case hm_law_hand => k_is)
    (case hl_law_hand => k_is)
    (case hc_law_hand => k_is)
    (case hk_law_hand => k_is)
    (case hm_law_mixed => k_is)
    (case hl_law_mixed => k_is)
    (case hc_law_mixed => k_is)
    (case hk_law_mixed => k_is)
    (case hm_law_take => k_is)
    (case hl_law_take => k_is)
    (case hc_law_take => k_is)
    (case hk_law_take => k_is)
    (case hm_law_whole => k_is)
    (case hl_law_whole => k_is)
    (case hc_law_whole => k_is)
    (case hk_law_whole => k_is)
    (case hm_law_piece => k_is)
    (case hl_law_piece => k_is)
    (case hc_law_piece => k_is)
    (case hk_law_piece => k_is)
    (case hm_law_end_of => k_is)
    (case hl_law_end_of => k_is)
    (case hc_law_end_of => k_is)
    (case hk_law_end_of => k_is)
    (case hm_law_sign_at => k_is)
    (case hl_law_sign_at => k_is)
    (case hc_law_sign_at => k_is)
    (case hk_law_sign_at => k_is)
    (case hm_law_cut_told => k_is)
    (case hl_law_cut_told => k_is)
    (case hc_law_cut_told => k_is)
    (case hk_law_cut_told => k_is)
    (case hm_law => k_is)
    (case hl_law => k_is)
    (case hc_law => k_is)
    (case hk_law => k_is)
    (case hl_BadText___init__ => k_is)
    (case hc_BadText___init__ => k_is)
    (case hk_BadText___init__ => k_is)
    (case hm_MOST_NUMBER => k_is)
    (case hm_LETTERS => k_is)
    (case hm_FIGURES => k_is)
    (case hm_KEYWORDS => k_is)
    (case tl_KEYWORDS => k_is)
    (case ti_KEYWORDS => decide +kernel)
    (case tz_KEYWORDS => decide +kernel)
    (case hm_SIGNS => k_is)
    (case tl_SIGNS => k_is)
    (case ti_SIGNS => decide +kernel)
    (case tz_SIGNS => decide +kernel)
    (case hm_MOST_NAME => k_is)
    (case hm_MOST_BRACKETS => k_is)
    (case hz_abs => k_is)
    (case hz_bool => k_is)
    (case hz_int => k_is)
    (case hz_isinstance => k_is)
    (case hz_len => k_is)
    (case hz_list => k_is)
    (case hz_max => k_is)
    (case hz_range => k_is)
    (case hz_str => k_is)
    (case hz_tuple => k_is)
    (case hm_UndoError => k_is)
#print axioms PySem.Challenge.cw_undocells_k01_tokens_of_any_text_holds
