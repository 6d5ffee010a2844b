import PyProof.Rows.All
import Wide.All
import OpenK.AllK
import Wide.FinOn
import HandS.ForMost
import HandS.Flow
import HandS.Wide
import HandS.Small
import HandS.Style
import HandS.IsInst
import HandS.RaiseMore
import HandS.Codes
import HandS.SetBool
import HandS.Strs
import HandS.SetFor
import HandS.Walk
import HandS.TupAny
import HandS.Conv
import HandS.TupMul
import PyProof.ReprBulk
import PyProof.ReprRoads
import PyProof.Rows.ReprShort
import PySem.Challenge.RW_mostclauses_k75_clauses_as_texts
set_option Elab.async false
set_option linter.all false
set_option maxRecDepth 100000
set_option maxHeartbeats 4000000
namespace Mc
open PySem PySem.Spec PyProof.Rows L2
/-! ### the text by places -/
def top (i : Nat) : Stmt := PySem.Challenge.pw_mostclauses_k75_clauses_as_texts.main.body.getD i (.Pass ⟨0, 0, 0, 0⟩)

abbrev s_is_whole : Stmt := top 5
abbrev nm_is_whole : List Str := ["thing"]
theorem sc_is_whole : FnScope nm_is_whole ["thing"] (defScope s_is_whole) := ⟨rfl, rfl, rfl, by decide +kernel, rfl, by decide +kernel, by decide +kernel⟩
abbrev s_is_mark : Stmt := top 6
abbrev nm_is_mark : List Str := ["thing"]
theorem sc_is_mark : FnScope nm_is_mark ["thing"] (defScope s_is_mark) := ⟨rfl, rfl, rfl, by decide +kernel, rfl, by decide +kernel, by decide +kernel⟩
abbrev s_is_clause : Stmt := top 7
abbrev nm_is_clause : List Str := ["thing", "mark"]
theorem sc_is_clause : FnScope nm_is_clause ["thing"] (defScope s_is_clause) := ⟨rfl, rfl, rfl, by decide +kernel, rfl, by decide +kernel, by decide +kernel⟩
abbrev s_show_marks : Stmt := top 9
abbrev nm_show_marks : List Str := ["marks", "mark"]
theorem sc_show_marks : FnScope nm_show_marks ["marks"] (defScope s_show_marks) := ⟨rfl, rfl, rfl, by decide +kernel, rfl, by decide +kernel, by decide +kernel⟩
abbrev s_show_clauses : Stmt := top 13
abbrev nm_show_clauses : List Str := ["clauses", "clause"]
theorem sc_show_clauses : FnScope nm_show_clauses ["clauses"] (defScope s_show_clauses) := ⟨rfl, rfl, rfl, by decide +kernel, rfl, by decide +kernel, by decide +kernel⟩
abbrev s_read_clauses : Stmt := top 14
abbrev nm_read_clauses : List Str := ["text", "clauses", "row", "clause"]
theorem sc_read_clauses : FnScope nm_read_clauses ["text"] (defScope s_read_clauses) := ⟨rfl, rfl, rfl, by decide +kernel, rfl, by decide +kernel, by decide +kernel⟩
abbrev s__rows_in : Stmt := top 15
abbrev nm__rows_in : List Str := ["text"]
theorem sc__rows_in : FnScope nm__rows_in ["text"] (defScope s__rows_in) := ⟨rfl, rfl, rfl, by decide +kernel, rfl, by decide +kernel, by decide +kernel⟩
abbrev s__clause_in : Stmt := top 16
abbrev nm__clause_in : List Str := ["row", "word"]
theorem sc__clause_in : FnScope nm__clause_in ["row"] (defScope s__clause_in) := ⟨rfl, rfl, rfl, by decide +kernel, rfl, by decide +kernel, by decide +kernel⟩
abbrev s__number_in : Stmt := top 17
abbrev nm__number_in : List Str := ["word", "figures", "figure"]
theorem sc__number_in : FnScope nm__number_in ["word"] (defScope s__number_in) := ⟨rfl, rfl, rfl, by decide +kernel, rfl, by decide +kernel, by decide +kernel⟩
abbrev s__law_begun : Stmt := top 19
abbrev nm__law_begun : List Str := ["_law_script"]
theorem sc__law_begun : FnScope nm__law_begun ["_law_script"] (defScope s__law_begun) := ⟨rfl, rfl, rfl, by decide +kernel, rfl, by decide +kernel, by decide +kernel⟩
abbrev s__law_draw : Stmt := top 20
abbrev nm__law_draw : List Str := ["_law_tape", "_law_many", "_law_spot", "_law_most", "_law_cell", "_law_found"]
theorem sc__law_draw : FnScope nm__law_draw ["_law_tape", "_law_many"] (defScope s__law_draw) := ⟨rfl, rfl, rfl, by decide +kernel, rfl, by decide +kernel, by decide +kernel⟩
abbrev s__law_pick : Stmt := top 21
abbrev nm__law_pick : List Str := ["_law_tape", "_law_some"]
theorem sc__law_pick : FnScope nm__law_pick ["_law_tape", "_law_some"] (defScope s__law_pick) := ⟨rfl, rfl, rfl, by decide +kernel, rfl, by decide +kernel, by decide +kernel⟩
abbrev s__law_far_marks : Stmt := top 22
abbrev nm__law_far_marks : List Str := ["_law_tape", "_law_many", "_law_by", "_law_leap", "_law_first", "_law_names", "_law_signs", "_law_name", "_law_k"]
theorem sc__law_far_marks : FnScope nm__law_far_marks ["_law_tape", "_law_many"] (defScope s__law_far_marks) := ⟨rfl, rfl, rfl, by decide +kernel, rfl, by decide +kernel, by decide +kernel⟩
abbrev s__law_system : Stmt := top 23
abbrev nm__law_system : List Str := ["_law_tape", "_law_marks", "_law_many", "_law_is_kept", "_law_found", "_law_k", "_law_some", "_law_clause", "_law_wide", "_law_mark"]
theorem sc__law_system : FnScope nm__law_system ["_law_tape", "_law_marks", "_law_many"] (defScope s__law_system) := ⟨rfl, rfl, rfl, by decide +kernel, rfl, by decide +kernel, by decide +kernel⟩
abbrev s_law : Stmt := top 24
abbrev nm_law : List Str := ["_law_script", "_law_tape", "_law_turn", "_law_marks", "_law_clauses", "_law_many", "_law_first", "_law_wide", "_law_rows", "_law_handed", "_law_text", "_law_found", "_law_clause", "_law_k", "_law_mark"]
theorem sc_law : FnScope nm_law ["_law_script"] (defScope s_law) := ⟨rfl, rfl, rfl, by decide +kernel, rfl, by decide +kernel, by decide +kernel⟩
/-! ### a def that stands in the top and keeps a promise -/
structure At (K : PySem.W.Frag) (mg : Str → Option Value) (x : Str) (st : Stmt) : Prop where
  ex : ∃ f fd, mg x = some (.ref f) ∧ Fun K x x st f fd
structure Has (P : Program) (w : World) (K : PySem.W.Frag) (mg : Str → Option Value) (base : Heap) (k : Nat) (x : Str) (ps : List Str) (sp : Sp) : Prop where
  ex : ∃ f fd, mg x = some (.ref f) ∧ PySem.W.keepIn K (.ref f) = true ∧ Binds K fd ps [] ∧ FnOk P w K mg base CX0 k f fd ps sp
theorem pe_has {X : Cx} {k : Nat} {x : Str} {ps : List Str} {sp : Sp} {e : Expr} {es : List Expr} {t : TA} {p pos : Pos} (h : Has X.prog X.w X.K X.mg X.base k x ps sp) (hr : Room k X.A) (hg : Gl X x) (ha : PA X (e :: es) t)
    (hdb : (x == ("__debug__" : Str)) = false := by decide) (he : starEach (e :: es) X.env = (false, eval e X.env) :: starEach es X.env := by rfl) (hpl : (backTo pos (starEach es X.env)).any (·.1) = false := by rfl) :
    PE X (.Call (.Name x p) (e :: es) [] pos) (tCall sp [] E0 t) := by
  obtain ⟨f, fd, hm, hk, hb, F⟩ := h.ex
  exact pe_call F hr hg hm hk hb .nil pass0 ha hdb he hpl
abbrev BindsAll (x : Str) (st : Stmt) (ps : List Str) : Prop :=
  ∀ (kV doc pm : Value) (an : Option Addr) (cdv ct : Value) (us : List Value), us.length = ps.length → bindArgs (PySem.W.fnOf x x (defArgs st) (defBody st) (defScope st) .none kV doc pm an cdv ct) ⟨us, []⟩ = pure (ps.zip us)
section
variable {P : Program} {w : World} {K : PySem.W.Frag} {mg : Str → Option Value} {base : Heap}
theorem has_of {x : Str} {st : Stmt} {N ps : List Str} {k : Nat} {sp : Sp} (A : At K mg x st) (S : FnScope N ps (defScope st)) (B : BindsAll x st ps) (len : ∀ vs H Q E, sp vs H Q E → vs.length = ps.length)
    (hbody : ∀ (f : Addr) (cdv : Value) (A : Around) (outer : List Env) (s : Shared) (H : Hp) (vs : List V) (Q : VK) (E : XK), Room k (A.deeper (envOfC x (defScope st) s.heap.objs.size f cdv)) → sp vs H Q E →
      ∃ t, PSs (cxOf CX0 P w K mg base N x (defScope st) f cdv A outer s H E).nox (defBody st) t ∧ t { nx := fun _ H' => Q .non H', rt := Q } (start N vs) H) : Has P w K mg base (k + 1) x ps sp := by
  obtain ⟨f, fd, hm, F⟩ := A.ex
  exact ⟨f, fd, hm, F.kp, F.binds B, F.ok S len fun cdv A outer s H vs Q E hr h => hbody f cdv A outer s H vs Q E hr h⟩
end
theorem pe_const {X : Cx} {x : Str} {i : Int} {pos : Pos} (hm : ∃ t, X.mg x = some (.int i t)) (hg : Gl X x) (hd : (x == ("__debug__" : Str)) = false := by decide) : PE X (.Name x pos) (tC (.int i)) := by
  obtain ⟨t, hm⟩ := hm
  exact pe_glob hg hm ⟨t, rfl⟩ hd
/-! ### repr of a truth -/
def boolText (b : Bool) : Str := if b then "True" else "False"
theorem boolText_inj {a b : Bool} (h : boolText a = boolText b) : a = b := by
  cases a <;> cases b <;> first | rfl | exact absurd h (by decide +kernel)
theorem call_repr_bool {X : Cx} : CallR X (.builtin "repr") (fun xs H Q => ∃ b, xs = [.bl b] ∧ Q (.str (boolText b)) H) := by
  intro pins s σ H xs us Q I r h
  obtain ⟨b, rfl, q⟩ := h
  obtain ⟨u, rfl, ru⟩ := vals1 r
  cases ru
  cases b with
  | true => exact PySem.P.repr_of_bool ⟨.str (boolText true), H, I.tok _, ⟨_, rfl⟩, q⟩
  | false => exact PySem.P.repr_of_bool ⟨.str (boolText false), H, I.tok _, ⟨_, rfl⟩, q⟩
/-! ### heaps -/
/-- all that is known stays, but for what stands at t -/
def Kp (t : Addr) (H H' : Hp) : Prop := ∀ b o, H b = some o → b ≠ t → H' b = some o
theorem Kp.refl {t : Addr} (H : Hp) : Kp t H H := fun _ _ h _ => h
theorem Kp.trans {t : Addr} {H H1 H2 : Hp} (a : Kp t H H1) (b : Kp t H1 H2) : Kp t H H2 := fun c o h n => b c o (a c o h n) n
theorem Kp.new {t p : Addr} {H : Hp} {o : HO} (h : H p = none) : Kp t H (upd H p o) := fun b u e _ => by
  rw [upd_ne (ne_of_none e h)]
  exact e
theorem Kp.at {t : Addr} {H : Hp} {o : HO} : Kp t H (upd H t o) := fun b u e n => by
  rw [upd_ne n]
  exact e
theorem Kp.same {t : Addr} {H H' : Hp} (s : Same H H') : Kp t H H' := fun b o e _ => s b o e
theorem same_new {H : Hp} {p : Addr} {o : HO} (h : H p = none) : Same H (upd H p o) := fun b u e => by
  rw [upd_ne (ne_of_none e h)]
  exact e
/-! ### the tape -/
def tk (c : Addr) (spot left : Int) : List (Key × V) := [(.inr "cells", .ref c), (.inr "spot", .int spot), (.inr "left", .int left)]
structure TapeC (H : Hp) (t c : Addr) (ns : List Int) (spot left : Int) : Prop where
  d : H t = some (.dK (tk c spot left))
  l : H c = some (.lst (ns.map V.int))
  ne : 0 < ns.length
  lt : ns.length ≤ 63
  s0 : 0 ≤ spot
  l0 : 0 ≤ left
/-- a tape at t, its cells at c, of which at most n draws are taken -/
def Tape (H : Hp) (t c : Addr) (n : Nat) : Prop := ∃ ns spot left, TapeC H t c ns spot left ∧ spot ≤ n
theorem Tape.ne {H : Hp} {t c : Addr} {n : Nat} (h : Tape H t c n) : t ≠ c := by
  obtain ⟨ns, spot, left, h, _⟩ := h
  exact ne_of h.d h.l (by intro z; cases z)
theorem Tape.le {H : Hp} {t c : Addr} {n m : Nat} (h : Tape H t c n) (l : n ≤ m) : Tape H t c m := by
  obtain ⟨ns, spot, left, h, e⟩ := h
  exact ⟨ns, spot, left, h, by omega⟩
theorem Tape.stay {H H' : Hp} {t c : Addr} {n : Nat} (h : Tape H t c n) (k : ∀ b o, H b = some o → b = t ∨ b = c → H' b = some o) : Tape H' t c n := by
  obtain ⟨ns, spot, left, h, e⟩ := h
  exact ⟨ns, spot, left, ⟨k _ _ h.d (.inl rfl), k _ _ h.l (.inr rfl), h.ne, h.lt, h.s0, h.l0⟩, e⟩
theorem Tape.same {H H' : Hp} {t c : Addr} {n : Nat} (h : Tape H t c n) (s : Same H H') : Tape H' t c n := h.stay fun b o e _ => s b o e
theorem Tape.new {H : Hp} {t c p : Addr} {n : Nat} {o : HO} (h : Tape H t c n) (hp : H p = none) : Tape (upd H p o) t c n := h.same (same_new hp)
theorem Tape.at_t {H : Hp} {t c : Addr} {n : Nat} (h : Tape H t c n) : ∃ o, H t = some o := by
  obtain ⟨ns, spot, left, h, _⟩ := h
  exact ⟨_, h.d⟩
theorem Tape.at_c {H : Hp} {t c : Addr} {n : Nat} (h : Tape H t c n) : ∃ o, H c = some o := by
  obtain ⟨ns, spot, left, h, _⟩ := h
  exact ⟨_, h.l⟩
theorem k_cells : ¬ (("cells" : Str) = "spot") := by decide +kernel
theorem k_cells2 : ¬ (("cells" : Str) = "left") := by decide +kernel
theorem k_spot : ¬ (("spot" : Str) = "left") := by decide +kernel
theorem tk_cells (c : Addr) (a b : Int) : valV (tk c a b) (Sum.inr "cells" : Key) = some (.ref c) := valV_pos rfl
theorem tk_spot (c : Addr) (a b : Int) : valV (tk c a b) (Sum.inr "spot" : Key) = some (.int a) := by
  unfold tk
  rw [valV_neg (fun e => k_cells (Sum.inr.inj e)), valV_pos rfl]
theorem tk_left (c : Addr) (a b : Int) : valV (tk c a b) (Sum.inr "left" : Key) = some (.int b) := by
  unfold tk
  rw [valV_neg (fun e => k_cells2 (Sum.inr.inj e)), valV_neg (fun e => k_spot (Sum.inr.inj e)), valV_pos rfl]
theorem tk_put_spot (c : Addr) (a b x : Int) : putK (tk c a b) (Sum.inr "spot" : Key) (.int x) = tk c x b := by
  rfl
theorem tk_put_left (c : Addr) (a b x : Int) : putK (tk c a b) (Sum.inr "left" : Key) (.int x) = tk c a x := by
  rfl
theorem dg_cells {H : Hp} {t c : Addr} {a b : Int} (h : H t = some (.dK (tk c a b))) : DGet H t (.str "cells") (some (.ref c)) := by
  have g := DGet.k (k := (Sum.inr "cells" : Key)) h
  rw [tk_cells] at g
  exact g
theorem dg_spot {H : Hp} {t c : Addr} {a b : Int} (h : H t = some (.dK (tk c a b))) : DGet H t (.str "spot") (some (.int a)) := by
  have g := DGet.k (k := (Sum.inr "spot" : Key)) h
  rw [tk_spot] at g
  exact g
theorem dg_left {H : Hp} {t c : Addr} {a b : Int} (h : H t = some (.dK (tk c a b))) : DGet H t (.str "left") (some (.int b)) := by
  have g := DGet.k (k := (Sum.inr "left" : Key)) h
  rw [tk_left] at g
  exact g
theorem dp_spot {H : Hp} {t c : Addr} {a b : Int} (x : Int) (h : H t = some (.dK (tk c a b))) : DPut H t (.str "spot") (.int x) (upd H t (.dK (tk c x b))) := by
  have g := DPut.k (k := (Sum.inr "spot" : Key)) (v := .int x) h (small1000 (by show 3 ≤ 1000; decide))
  rw [tk_put_spot] at g
  exact g
theorem dp_left {H : Hp} {t c : Addr} {a b : Int} (x : Int) (h : H t = some (.dK (tk c a b))) : DPut H t (.str "left") (.int x) (upd H t (.dK (tk c a x))) := by
  have g := DPut.k (k := (Sum.inr "left" : Key)) (v := .int x) h (small1000 (by show 3 ≤ 1000; decide))
  rw [tk_put_left] at g
  exact g
theorem Tape.fresh {H : Hp} {t c p : Addr} {n : Nat} (h : Tape H t c n) (hp : H p = none) : p ≠ t := by
  obtain ⟨o, e⟩ := h.at_t
  exact (ne_of_none e hp).symm
theorem Tape.fresh_c {H : Hp} {t c p : Addr} {n : Nat} (h : Tape H t c n) (hp : H p = none) : p ≠ c := by
  obtain ⟨o, e⟩ := h.at_c
  exact (ne_of_none e hp).symm
/-! ### a list beside the empty list -/
section
variable {X : Cx}
def rEqNil (K : PySem.W.Frag) (neg : Bool) : R2 := fun x y H Q => ∃ a b xs, x = .ref a ∧ y = .ref b ∧ SqL K H a xs ∧ SqL K H b [] ∧ Q (.bl (if neg = true then !xs.isEmpty else xs.isEmpty)) H
theorem op_eqNil (hu : X.A.units + 1 < cLine) : OpR X (compareOp .Eq) (rEqNil X.K false) := by
  intro pins s σ H x y v u Q I rx ry h
  obtain ⟨a, b, xs, rfl, rfl, ha, hb, q⟩ := h
  cases rx
  cases ry
  obtain ⟨us, vs, pl, _⟩ := I.list ha
  obtain ⟨ws, vs2, pl2, _⟩ := I.list hb
  cases vs2
  have l := vs.length
  cases xs with
  | nil =>
    cases vs
    exact SeqAt.RcAt.lists (e := fun _ => true) pl.isList pl2.isList rfl (by omega) (fun j h1 => absurd h1 (Nat.not_lt_zero _)) _ _ _ _ ⟨.bl true, H, I, rfl, q⟩
  | cons z zs => exact SeqAt.RcAt.lists_lengths pl.isList pl2.isList (by rw [List.size_toArray, ← l]; rfl) (by omega) _ _ _ _ ⟨.bl false, H, I, rfl, q⟩
theorem op_neNil (hu : X.A.units + 1 < cLine) : OpR X (compareOp .NotEq) (rEqNil X.K true) := by
  intro pins s σ H x y v u Q I rx ry h
  obtain ⟨a, b, xs, rfl, rfl, ha, hb, q⟩ := h
  cases rx
  cases ry
  obtain ⟨us, vs, pl, _⟩ := I.list ha
  obtain ⟨ws, vs2, pl2, _⟩ := I.list hb
  cases vs2
  have l := vs.length
  cases xs with
  | nil =>
    cases vs
    exact SeqAt.RcNeAt.lists (e := fun _ => true) pl.isList pl2.isList rfl (by omega) (fun j h1 => absurd h1 (Nat.not_lt_zero _)) _ _ _ _ ⟨.bl false, H, I, rfl, q⟩
  | cons z zs => exact SeqAt.RcNeAt.lists_lengths pl.isList pl2.isList (by rw [List.size_toArray, ← l]; rfl) (by omega) _ _ _ _ ⟨.bl true, H, I, rfl, q⟩
end
/-! ### comprehensions that leave what is known as it is -/
theorem take_sel {α β : Type} (t : α → Bool) (f : α → β) {xs : List α} {i : Nat} {x : α} (h : xs[i]? = some x) :
    ((xs.take (i + 1)).filter t).map f = ((xs.take i).filter t).map f ++ (if t x = true then [f x] else []) := by
  rw [List.take_add_one, h, List.filter_append, List.map_append]
  by_cases ht : t x = true
  · rw [if_pos ht]
    simp [ht]
  · rw [if_neg ht]
    simp [ht]
section
variable {K : PySem.W.Frag} {a : Addr} {xs : List V} {tt : TT} {te : TE} {vs : List Nat} {σ : L2.St} {H : Hp} {D : Addr} {Qd : Hp → Prop} {j : Nat}
/-- what a turn asks: the test, the item -/
structure SelT (H : Hp) (σ : L2.St) (vs : List Nat) (j : Nat) (tt : TT) (te : TE) (x : V) (b : Bool) (y : V) : Prop where
  wip : wipe ((wipe σ vs).set j (some x)) vs = wipe σ vs
  tst : ∀ H', Same H H' → ∀ R : Bool → Hp → Prop, (∀ H'', Same H' H'' → R b H'') → tt ((wipe σ vs).set j (some x)) H' R
  elt : b = true → ∀ H', Same H H' → ∀ R : VK, (∀ H'', Same H' H'' → R y H'') → te ((wipe σ vs).set j (some x)) H' R
theorem sel_turn {x y : V} {b : Bool} {acc : List V} {H' : Hp} {P : Hp → Prop} (hD : H D = none) (s : SelT H σ vs j tt te x b y) (hs : Same H H') (ha : H' D = some (.lst acc)) (hz : acc.length < sizeLine)
    (k : ∀ H'', Same H H'' → H'' D = some (.lst (acc ++ (if b = true then [y] else []))) → P H'') :
    gName j x (wipe σ vs) H' fun σ2 H2 => wipe σ2 vs = wipe σ vs ∧ tt σ2 H2 fun c H3 => if c = true then te σ2 H3 fun y H4 => ∃ acc, H4 D = some (.lst acc) ∧ acc.length < sizeLine ∧ P (upd H4 D (.lst (acc ++ [y]))) else P H3 := by
  refine ⟨s.wip, s.tst H' hs _ fun H3 s3 => ?_⟩
  have h3 := s3 D _ ha
  cases b with
  | false =>
    refine iteF (k H3 (hs.trans s3) ?_)
    rw [h3, if_neg Bool.false_ne_true, List.append_nil]
  | true =>
    refine iteT (s.elt rfl H3 (hs.trans s3) _ fun H4 s4 => ⟨acc, s4 D _ h3, hz, k _ (fun c o e => ?_) ?_⟩)
    · rw [upd_ne (ne_of_none e hD)]
      exact s4 c o (s3 c o (hs c o e))
    · rw [upd_same, if_pos rfl]
theorem lc_sel_list (t : V → Bool) (f : V → V) (hx : SqL K H a xs) (hD : H D = none) (hz : xs.length ≤ 1000000) (hs : ∀ x ∈ xs, SelT H σ vs j tt te x (t x) (f x)) (k : ∀ H', Same H H' → H' D = some (.lst ((xs.filter t).map f)) → Qd H') :
    ∃ W : Nat → Nat → Hp → Prop, (∃ m, W 0 m (upd H D (.lst []))) ∧ ∀ i m H, W i m H →
      ((Itl K a).stop i H ∧ Qd H) ∨ ((Itl K a).go i H ∧ ∃ Nx : Hp → Prop, (∀ H', Nx H' → ∃ m', m' < m ∧ W (i + 1) m' H') ∧ ∀ x H', (Itl K a).yld i H x H' → gName j x (wipe σ vs) H' fun σ2 H2 => wipe σ2 vs = wipe σ vs ∧ tt σ2 H2 fun b H3 =>
        if b = true then te σ2 H3 fun y H4 => ∃ acc, H4 D = some (.lst acc) ∧ acc.length < sizeLine ∧ Nx (upd H4 D (.lst (acc ++ [y]))) else Nx H3) := by
  have line : 1000000 < sizeLine := by decide
  refine lc_list (xs := xs) (fun i H' => Same H H' ∧ H' D = some (.lst (((xs.take i).filter t).map f))) ⟨same_new hD, upd_same⟩ (fun i H' _ p => p.1.seq hx) (fun i x H' hi p => ?_) fun H' p => k H' p.1 (by rw [p.2, List.take_length])
  refine sel_turn hD (hs x (List.mem_of_getElem? hi)) p.1 p.2 ?_ fun H'' s'' e => ⟨s'', by rw [e, take_sel t f hi]⟩
  have l1 := List.length_filter_le t (xs.take i)
  have l2 := List.length_take_le i xs
  have l3 : (xs.take i).length ≤ xs.length := by rw [List.length_take]; omega
  rw [List.length_map]
  omega
theorem Same.seqT {H H' : Hp} (e : Same H H') (h : SqT K H a xs) : SqT K H' a xs := by
  rcases h with (h | ⟨o, h⟩) | h
  · exact .inl (.inl (e _ _ h))
  · exact .inl (.inr ⟨o, e _ _ h⟩)
  · exact .inr h
theorem lc_sel_tup (t : V → Bool) (f : V → V) (hx : SqT K H a xs) (hD : H D = none) (hz : xs.length ≤ 1000000) (hs : ∀ x ∈ xs, SelT H σ vs j tt te x (t x) (f x)) (k : ∀ H', Same H H' → H' D = some (.lst ((xs.filter t).map f)) → Qd H') :
    ∃ W : Nat → Nat → Hp → Prop, (∃ m, W 0 m (upd H D (.lst []))) ∧ ∀ i m H, W i m H →
      ((Itt K a).stop i H ∧ Qd H) ∨ ((Itt K a).go i H ∧ ∃ Nx : Hp → Prop, (∀ H', Nx H' → ∃ m', m' < m ∧ W (i + 1) m' H') ∧ ∀ x H', (Itt K a).yld i H x H' → gName j x (wipe σ vs) H' fun σ2 H2 => wipe σ2 vs = wipe σ vs ∧ tt σ2 H2 fun b H3 =>
        if b = true then te σ2 H3 fun y H4 => ∃ acc, H4 D = some (.lst acc) ∧ acc.length < sizeLine ∧ Nx (upd H4 D (.lst (acc ++ [y]))) else Nx H3) := by
  have line : 1000000 < sizeLine := by decide
  refine lc_tup (xs := xs) (fun i H' => Same H H' ∧ H' D = some (.lst (((xs.take i).filter t).map f))) ⟨same_new hD, upd_same⟩ (fun i H' _ p => Same.seqT p.1 hx) (fun i x H' hi p => ?_) fun H' p => k H' p.1 (by rw [p.2, List.take_length])
  refine sel_turn hD (hs x (List.mem_of_getElem? hi)) p.1 p.2 ?_ fun H'' s'' e => ⟨s'', by rw [e, take_sel t f hi]⟩
  have l1 := List.length_filter_le t (xs.take i)
  have l3 : (xs.take i).length ≤ xs.length := by rw [List.length_take]; omega
  rw [List.length_map]
  omega
theorem take_range {n i : Nat} (h : i < n) : (List.range n)[i]? = some i := by
  rw [List.getElem?_range h]
theorem lc_sel_range {lo : Int} {n : Nat} (t : Nat → Bool) (f : Nat → V) (hD : H D = none) (hz : n ≤ 1000000) (hs : ∀ i, i < n → SelT H σ vs j tt te (.int (lo + i)) (t i) (f i)) (k : ∀ H', Same H H' → H' D = some (.lst (((List.range n).filter t).map f)) → Qd H') :
    ∃ W : Nat → Nat → Hp → Prop, (∃ m, W 0 m (upd H D (.lst []))) ∧ ∀ i m H, W i m H →
      ((Itr lo n).stop i H ∧ Qd H) ∨ ((Itr lo n).go i H ∧ ∃ Nx : Hp → Prop, (∀ H', Nx H' → ∃ m', m' < m ∧ W (i + 1) m' H') ∧ ∀ x H', (Itr lo n).yld i H x H' → gName j x (wipe σ vs) H' fun σ2 H2 => wipe σ2 vs = wipe σ vs ∧ tt σ2 H2 fun b H3 =>
        if b = true then te σ2 H3 fun y H4 => ∃ acc, H4 D = some (.lst acc) ∧ acc.length < sizeLine ∧ Nx (upd H4 D (.lst (acc ++ [y]))) else Nx H3) := by
  have line : 1000000 < sizeLine := by decide
  refine lc_range (fun i H' => Same H H' ∧ H' D = some (.lst ((((List.range n).take i).filter t).map f))) ⟨same_new hD, upd_same⟩ (fun i H' hi p => ?_) fun H' p => k H' p.1 (by rw [p.2, List.take_of_length_le (by rw [List.length_range]; omega)])
  refine sel_turn hD (hs i hi) p.1 p.2 ?_ fun H'' s'' e => ⟨s'', by rw [e, take_sel t f (take_range hi)]⟩
  have l1 := List.length_filter_le t ((List.range n).take i)
  have l3 : ((List.range n).take i).length ≤ n := by rw [List.length_take, List.length_range]; omega
  rw [List.length_map]
  omega
end
theorem filter_all {α : Type} (xs : List α) : xs.filter (fun _ => true) = xs := List.filter_eq_self.mpr fun _ _ => rfl
theorem Kp.free {t D : Addr} {H H' : Hp} (k : Kp t H H') (h : H' D = none) (n : D ≠ t) : H D = none := by
  cases e : H D with
  | none => rfl
  | some o =>
    rw [k D o e n] at h
    cases h
theorem Kp.mut {t p : Addr} {H H' : Hp} {o : HO} (k : Kp t H H') (h : H p = none) : Kp t H (upd H' p o) := fun b u e n => by
  rw [upd_ne (ne_of_none e h)]
  exact k b u e n
theorem Tape.mut {H : Hp} {t c p : Addr} {n : Nat} {o : HO} (h : Tape H t c n) (n1 : p ≠ t) (n2 : p ≠ c) : Tape (upd H p o) t c n := h.stay fun b u e z => by
  rw [upd_ne]
  · exact e
  · rcases z with rfl | rfl
    · exact n1.symm
    · exact n2.symm
theorem yes_go {σ : L2.St} {H : Hp} {A B : Hp → Prop} (h : A H) : tYes σ H (fun b H' => if b = true then A H' else B H') := by
  show (if true = true then A H else B H)
  rw [if_pos rfl]
  exact h
/-! ### d.update(e) of two dicts -/
theorem mt_update {X : Cx} : MtR X "dict.update" (fun x xs H Q => ∃ (a b : Addr) (ks ms : List (Key × V)), x = .ref a ∧ xs = [.ref b] ∧ H a = some (.dK ks) ∧ H b = some (.dK ms) ∧ a ≠ b ∧ ks.length + ms.length ≤ sizeLine ∧
    Q .non (upd H a (.dK (mergeK ks ms)))) := by
  intro pins s σ H x xs v us Q I rx rxs h
  obtain ⟨a, b, ks, ms, rfl, rfl, ha, hb, ne, few, q⟩ := h
  cases rx
  obtain ⟨u, rfl, ru⟩ := vals1 rxs
  cases ru
  obtain ⟨za, da, va, ra, dda⟩ := dk_of I.hok ha
  obtain ⟨zb, db, vb, rb, ddb⟩ := dk_of I.hok hb
  refine call_meetsIn PySem.F.slot_dict_update dda.typeIs PySem.F.entry_dict_update (PySem.F.args_dict_update_2 _ _) (meets_dict_update (mixKind X.prog X.w) a b ne db) ⟨va, vb, dda, ddb, by rw [← ra.length, ← rb.length]; exact few, fun h' d1 d2 same => ?_⟩
  have there : ∃ o, h'.get? a = some o := by
    obtain ⟨o, _, _, ho, _⟩ := id d1
    exact ⟨o, ho⟩
  have small : (mergeK ks ms).length ≤ sizeLine := Nat.le_trans (length_mergeK ms ks) few
  exact ⟨.non, _, d_write (t' := s.toks) I (by rw [ha]; exact True.intro) same there (dk_new small da (rb.merge ra) d1), rfl, q⟩
/-! ### rules whose reading names the written part, for use within a comprehension -/
section
variable {X : Cx} {K : PySem.W.Frag}
theorem op_inK (h : X.K = K) : OpR X (compareOp .In) (rIn K false) := h ▸ op_in_seq
theorem op_notInK (h : X.K = K) : OpR X (compareOp .NotIn) (rIn K true) := h ▸ op_notIn_seq
theorem op_eqNilK (h : X.K = K) (hu : X.A.units + 1 < cLine) : OpR X (compareOp .Eq) (rEqNil K false) := h ▸ op_eqNil hu
theorem op_neNilK (h : X.K = K) (hu : X.A.units + 1 < cLine) : OpR X (compareOp .NotEq) (rEqNil K true) := h ▸ op_neNil hu
theorem ix_listK (h : X.K = K) : IxR X (rIxL K) := h ▸ ix_list
theorem ix_tupK (h : X.K = K) : IxR X (rIxT K) := h ▸ ix_tup
theorem ix_seqK (h : X.K = K) : IxR X (rIx K) := h ▸ ix_seq
theorem len_seqK (h : X.K = K) : CallR X (.builtin "len") (fun xs H Q => ∃ p ys, xs = [.ref p] ∧ (SqL K H p ys ∨ SqT K H p ys) ∧ Q (.int (ys.length : Nat)) H) := h ▸ call_len_seq
theorem pi_listK {tg l : Expr} {tl : TE} (h : X.K = K) (hl : PE X l tl) : PI X tg l (iList K tl) := h ▸ pi_list hl
theorem pi_tupK {tg l : Expr} {tl : TE} (h : X.K = K) (hl : PE X l tl) : PI X tg l (iTup K tl) := h ▸ pi_tup hl
theorem sl_listK (h : X.K = K) : SlR X (rSlL K) := h ▸ sl_list
theorem sl_tupK (h : X.K = K) : SlR X (rSlT K) := h ▸ sl_tup
theorem cr_sumK (h : X.K = K) (hc : X.calm = true) : CallR X (.builtin "sum") (rSum K) := h ▸ cr_sum hc
theorem cr_maxL (h : X.K = K) (hc : X.calm = true) : CallR X (.builtin "max") (rMax K) := h ▸ cr_max hc
theorem cr_minL (h : X.K = K) (hc : X.calm = true) : CallR X (.builtin "min") (rMin K) := h ▸ cr_min hc
theorem cr_allK (h : X.K = K) (hc : X.calm = true) : CallR X (.builtin "all") (rAll K) := h ▸ cr_all hc
theorem cr_anyK (h : X.K = K) (hc : X.calm = true) : CallR X (.builtin "any") (rAny K) := h ▸ cr_any hc
theorem call_list_ofK (h : X.K = K) : CallR X (.type "list") (fun xs H Q => ∃ p ys, xs = [.ref p] ∧ (SqL K H p ys ∨ SqT K H p ys) ∧ ∀ l, H l = none → Q (.ref l) (upd H l (.lst ys))) := h ▸ call_list_of
theorem call_tuple_ofK (h : X.K = K) : CallR X (.type "tuple") (fun xs H Q => ∃ p ys, xs = [.ref p] ∧ ((SqL K H p ys ∧ ∀ l, H l = none → Q (.ref l) (upd H l (.tup ys))) ∨ (SqT K H p ys ∧ Q (.ref p) H))) := h ▸ call_tuple_of
theorem op_catTK (h : X.K = K) : OpR X (binaryOp .Add) (rCatT K) := h ▸ op_catT
end
theorem bd_is_whole : BindsAll "is_whole" s_is_whole ["thing"] := fun _ _ _ _ _ _ us hl => match us, hl with | [_], _ => rfl
theorem bd_is_mark : BindsAll "is_mark" s_is_mark ["thing"] := fun _ _ _ _ _ _ us hl => match us, hl with | [_], _ => rfl
theorem bd_is_clause : BindsAll "is_clause" s_is_clause ["thing"] := fun _ _ _ _ _ _ us hl => match us, hl with | [_], _ => rfl
theorem bd_show_marks : BindsAll "show_marks" s_show_marks ["marks"] := fun _ _ _ _ _ _ us hl => match us, hl with | [_], _ => rfl
theorem bd_show_clauses : BindsAll "show_clauses" s_show_clauses ["clauses"] := fun _ _ _ _ _ _ us hl => match us, hl with | [_], _ => rfl
theorem bd_read_clauses : BindsAll "read_clauses" s_read_clauses ["text"] := fun _ _ _ _ _ _ us hl => match us, hl with | [_], _ => rfl
theorem bd__rows_in : BindsAll "_rows_in" s__rows_in ["text"] := fun _ _ _ _ _ _ us hl => match us, hl with | [_], _ => rfl
theorem bd__clause_in : BindsAll "_clause_in" s__clause_in ["row"] := fun _ _ _ _ _ _ us hl => match us, hl with | [_], _ => rfl
theorem bd__number_in : BindsAll "_number_in" s__number_in ["word"] := fun _ _ _ _ _ _ us hl => match us, hl with | [_], _ => rfl
theorem bd__law_begun : BindsAll "_law_begun" s__law_begun ["_law_script"] := fun _ _ _ _ _ _ us hl => match us, hl with | [_], _ => rfl
theorem bd__law_draw : BindsAll "_law_draw" s__law_draw ["_law_tape", "_law_many"] := fun _ _ _ _ _ _ us hl => match us, hl with | [_, _], _ => rfl
theorem bd__law_pick : BindsAll "_law_pick" s__law_pick ["_law_tape", "_law_some"] := fun _ _ _ _ _ _ us hl => match us, hl with | [_, _], _ => rfl
theorem bd__law_far_marks : BindsAll "_law_far_marks" s__law_far_marks ["_law_tape", "_law_many"] := fun _ _ _ _ _ _ us hl => match us, hl with | [_, _], _ => rfl
theorem bd__law_system : BindsAll "_law_system" s__law_system ["_law_tape", "_law_marks", "_law_many"] := fun _ _ _ _ _ _ us hl => match us, hl with | [_, _, _], _ => rfl
theorem bd_law : BindsAll "law" s_law ["_law_script"] := fun _ _ _ _ _ _ us hl => match us, hl with | [_], _ => rfl
structure Top (K : PySem.W.Frag) (mg : Str → Option Value) : Prop where
  d_is_whole : At K mg "is_whole" s_is_whole
  d_is_mark : At K mg "is_mark" s_is_mark
  d_is_clause : At K mg "is_clause" s_is_clause
  d_show_marks : At K mg "show_marks" s_show_marks
  d_show_clauses : At K mg "show_clauses" s_show_clauses
  d_read_clauses : At K mg "read_clauses" s_read_clauses
  d__rows_in : At K mg "_rows_in" s__rows_in
  d__clause_in : At K mg "_clause_in" s__clause_in
  d__number_in : At K mg "_number_in" s__number_in
  d__law_begun : At K mg "_law_begun" s__law_begun
  d__law_draw : At K mg "_law_draw" s__law_draw
  d__law_pick : At K mg "_law_pick" s__law_pick
  d__law_far_marks : At K mg "_law_far_marks" s__law_far_marks
  d__law_system : At K mg "_law_system" s__law_system
  d_law : At K mg "law" s_law
  c_GREATEST_NAME : ∃ t, mg "GREATEST_NAME" = some (.int 1000000000000 t)
  c_MOST_MARKS : ∃ t, mg "MOST_MARKS" = some (.int 64 t)
  c_FIGURES : ∃ t, mg "FIGURES" = some (.str "0123456789" t)
  c_MOST_FIGURES : ∃ t, mg "MOST_FIGURES" = some (.int 13 t)
  b_isinstance : mg "isinstance" = none
  b_bool : mg "bool" = none
  b_int : mg "int" = none
  b_abs : mg "abs" = none
  b_len : mg "len" = none
  b_tuple : mg "tuple" = none
  b_all : mg "all" = none
  b_str : mg "str" = none
  b_range : mg "range" = none
  b_list : mg "list" = none
  b_min : mg "min" = none
  b_repr : mg "repr" = none
/-! ### the draws -/
def spDraw : Sp := fun vs H Q _ => ∃ (t c : Addr) (m : Int) (n : Nat), vs = [.ref t, .int m] ∧ Tape H t c n ∧ n < 2 ^ 40 ∧ 0 < m ∧ m < 2 ^ 8000 ∧
  ∀ (H' : Hp) (r : Int), 0 ≤ r → r < m → Tape H' t c (n + 1) → Kp t H H' → Q (.int r) H'
theorem cell_at {ns : List Int} {spot : Int} (h0 : 0 < ns.length) (hs : 0 ≤ spot) : ∃ x, atI (ns.map V.int) (spot % ((ns.map V.int).length : Int)) = some (.int x) := by
  rw [List.length_map]
  have hp : (0 : Int) < (ns.length : Int) := by omega
  have h1 := Int.emod_nonneg spot (show (ns.length : Int) ≠ 0 by omega)
  have h2 := Int.emod_lt_of_pos spot hp
  have h3 : (spot % (ns.length : Int)).toNat < ns.length := by omega
  refine ⟨ns[(spot % (ns.length : Int)).toNat], at_of (j := (spot % (ns.length : Int)).toNat) (by omega) ?_⟩
  rw [List.getElem?_map, List.getElem?_eq_getElem h3]
  rfl
theorem log2_small {m : Int} (h0 : 0 < m) (h : m < 2 ^ 8000) : m.natAbs.log2 < 9000 := by
  have h2 : m.natAbs < 2 ^ 8000 := by
    have e : ((2 ^ 8000 : Nat) : Int) = (2 : Int) ^ 8000 := by rw [Int.natCast_pow]; rfl
    omega
  exact Nat.lt_of_lt_of_le (PySem.Flt.log2_lt_of (by decide) h2) (by decide)
theorem pow_ok {x spot : Int} {n : Nat} (h0 : 0 ≤ spot) (h1 : spot ≤ n) (h2 : n < 2 ^ 40) : CPow (x % 2147483647 + 69621 * spot + 48271) 17 := by
  have a := Int.emod_nonneg x (show (2147483647 : Int) ≠ 0 by decide)
  have b := Int.emod_lt_of_pos x (show (0 : Int) < 2147483647 by decide)
  refine ⟨by decide, by decide, ?_⟩
  have e : (2 : Nat) ^ 64 = 18446744073709551616 := by decide
  rw [e]
  omega
section
variable {P : Program} {w : World} {K : PySem.W.Frag} {mg : Str → Option Value} {base : Heap}
theorem has_draw (T : Top K mg) : Has P w K mg base 1 "_law_draw" ["_law_tape", "_law_many"] spDraw := by
  refine has_of T.d__law_draw sc__law_draw bd__law_draw (fun vs H Q E h => ?_) (fun f cdv A outer s H vs Q E hr h => ?_)
  · obtain ⟨t, c, m, n, rfl, _⟩ := h
    rfl
  · have hu := hu_of hr
    have nd := sc__law_draw.nd
    obtain ⟨t, c, m, n, rfl, ⟨ns, spot, left, tp, hs⟩, hn, hm, hm2, k⟩ := h
    refine ⟨_, (C8.pss_cut (ps_if (pt_cmpR op_lt (pe_dget hu (pv 0) pe_str (fun _ _ => rfl)) (pv 1) (nomark _)) (pss_cons (ps_par (i := 2) (j := 3) (by rfl) nd rfl rfl (by decide) rfl rfl (pa_cons (pe_dget hu (pv 0) pe_str (fun _ _ => rfl)) (pa_cons (pe_callB call_len_seq (by rfl) T.b_len (by decide +kernel) (pa_cons (pe_dget hu (pv 0) pe_str (fun _ _ => rfl)) pa_nil)) pa_nil)) (by rfl))
    (pss_cons (ps_asg (pe_tup (pa_cons (pe_ix ix_list (pe_dget hu (pv 0) pe_str (fun _ _ => rfl)) (pe_op op_mod (pv 2) (pv 3)) (fun _ _ => rfl)) (pa_cons (pe_op op_add (pv 2) pe_int) pa_nil))) (pg_tup (by rfl) (pgs_cons (pg_name (i := 4) nd rfl (.inl rfl)) (pgs_cons (pg_sub (pv 0) pe_str (set_dict hu)) pgs_nil))))
    (pss_cons (ps_dput hu (pv 0) pe_str (pe_op op_mod (pe_op op_pow (pe_op op_add (pe_op op_add (pe_op op_mod (pv 4) pe_int) (pe_op op_mul pe_int (pv 2))) pe_int) pe_int) (pe_op op_add (pe_op op_pow pe_int pe_int) pe_int)) rfl)
    (pss_one (ps_if (PW.pt (pw_and (pt_cmpR op_ge (pv 4) (pe_op op_pow pe_int pe_int) (nomark _)) (pw_and1 (pt_cmpR op_lt (pv 2) (pv 3) (nomark _))))) (pss_one (ps_dput hu (pv 0) pe_str (pe_op op_sub (pv 4) (pe_op op_pow pe_int pe_int)) rfl)) pss_nil))))) pss_nil)
    (pss_cons (ps_asg (pe_tup (pa_cons (pe_op op_mod (pe_dget hu (pv 0) pe_str (fun _ _ => rfl)) (pv 1)) (pa_cons (pe_op op_fdivW (pe_dget hu (pv 0) pe_str (fun _ _ => rfl)) (pv 1)) pa_nil))) (pg_tup (by rfl) (pgs_cons (pg_name (i := 5) nd rfl (.inl rfl)) (pgs_cons (pg_sub (pv 0) pe_str (set_dict hu)) pgs_nil))))
    (pss_one (ps_ret (pv 5))))), ?_⟩
    refine ⟨fun σ' H' => ∃ (v2 v3 v4 v5 : Option V) (spot' left' : Int), σ' = [some (.ref t), some (.int m), v2, v3, v4, v5] ∧ TapeC H' t c ns spot' left' ∧ spot' ≤ ((n + 1 : Nat) : Int) ∧ Kp t H H', ?_, ?_⟩
    · refine ⟨_, rfl, t, _, rfl, dg_left tp.d, _, rfl, _, _, rfl, rfl, _, rfl, ite2 (fun _ => ?_) (fun _ => ?_)⟩
      · obtain ⟨x, hx⟩ := cell_at tp.ne tp.s0
        refine ⟨_, rfl, t, _, rfl, dg_spot tp.d, _, rfl, t, _, rfl, dg_cells tp.d, c, _, rfl, .inl (SqL.of tp.l), _, _, rfl, ?_⟩
        refine ⟨_, rfl, t, _, rfl, dg_cells tp.d, _, rfl, _, rfl, _, _, rfl, rfl, ?_, c, _, _, _, rfl, rfl, SqL.of tp.l, hx, _, rfl, _, _, rfl, rfl, by show 2 ≤ sizeLine; decide, fun p hp => ?_⟩
        · show (0 : Int) < ((ns.map V.int).length : Int)
          rw [List.length_map]
          have := tp.ne
          omega
        have h1 : (upd H p (.tup [.int x, .int (spot + 1)])) t = some (.dK (tk c spot left)) := by
          rw [upd_ne (ne_of_none tp.d hp)]
          exact tp.d
        refine ⟨p, _, rfl, SqT.of upd_same, rfl, _, _, rfl, _, _, rfl, _, rfl, t, _, rfl, dp_spot _ h1, rfl, ?_⟩
        have c1 : (upd (upd H p (.tup [.int x, .int (spot + 1)])) t (.dK (tk c (spot + 1) left))) c = some (.lst (ns.map V.int)) := by
          rw [upd_ne (show c ≠ t from ne_of tp.l tp.d (by intro z; cases z)), upd_ne (ne_of_none tp.l hp)]
          exact tp.l
        refine ⟨_, rfl, _, _, rfl, rfl, by show (0 : Int) < 2147483647; decide, _, rfl, _, _, rfl, rfl, .inl ⟨by decide, by decide⟩, _, _, rfl, rfl, _, _, rfl, rfl, _, _, rfl, rfl, pow_ok tp.s0 hs hn, _, _, rfl, rfl, ⟨by decide, by decide, by decide⟩, _, _, rfl, rfl, _, _, rfl, rfl, ?_, _, rfl, t, _, rfl, dp_left _ upd_same, ?_⟩
        · show (0 : Int) < 10 ^ (50 : Int).toNat + 151
          decide
        have kp : ∀ z, Kp t H (upd (upd (upd H p (.tup [.int x, .int (spot + 1)])) t (.dK (tk c (spot + 1) left))) t (.dK (tk c (spot + 1) z))) := fun z => ((Kp.new hp).trans Kp.at).trans Kp.at
        have tq : ∀ z, 0 ≤ z → TapeC (upd (upd (upd H p (.tup [.int x, .int (spot + 1)])) t (.dK (tk c (spot + 1) left))) t (.dK (tk c (spot + 1) z))) t c ns (spot + 1) z := fun z hz =>
          ⟨upd_same, by rw [upd_ne (show c ≠ t from ne_of tp.l tp.d (by intro z; cases z))]; exact c1, tp.ne, tp.lt, by have := tp.s0; omega, hz⟩
        have h0 : ∀ a : Int, 0 ≤ a % (10 ^ (50 : Int).toNat + 151) := fun a => Int.emod_nonneg _ (by decide)
        refine ⟨_, rfl, _, _, rfl, rfl, ⟨by decide, by decide, by decide⟩, _, _, rfl, rfl, _, rfl, ite2 (fun hc => ?_) (fun _ => iteF ?_)⟩
        · refine ⟨_, rfl, _, rfl, _, _, rfl, rfl, _, rfl, ite2 (fun _ => ?_) (fun _ => ?_)⟩
          · refine ⟨_, rfl, _, _, rfl, rfl, ⟨by decide, by decide, by decide⟩, _, _, rfl, rfl, _, rfl, t, _, rfl, dp_left _ upd_same, ?_⟩
            have hz : (10 : Int) ^ (18 : Int).toNat ≤ x := of_decide_eq_true hc
            exact ⟨_, _, _, _, spot + 1, x - 10 ^ (18 : Int).toNat, rfl, ⟨upd_same, by rw [upd_ne (show c ≠ t from ne_of tp.l tp.d (by intro z; cases z))]; exact (tq _ (h0 _)).l, tp.ne, tp.lt, by have := tp.s0; omega, by omega⟩, by omega, (kp _).trans Kp.at⟩
          · exact ⟨_, _, _, _, _, _, rfl, tq _ (h0 _), by omega, kp _⟩
        · exact ⟨_, _, _, _, _, _, rfl, tq _ (h0 _), by omega, kp _⟩
      · exact ⟨_, _, _, _, _, _, rfl, tp, by omega, Kp.refl _⟩
    · rintro σ' H' ⟨v2, v3, v4, v5, spot', left', rfl, tp', hs', kp⟩
      refine ⟨_, rfl, t, _, rfl, dg_left tp'.d, _, rfl, _, _, rfl, rfl, hm, _, rfl, t, _, rfl, dg_left tp'.d, _, rfl, _, _, rfl, rfl, ⟨hm, ?_⟩, by show 2 ≤ sizeLine; decide, fun p hp => ?_⟩
      · exact log2_small hm hm2
      have h1 : ∀ o, (upd H' p o) t = some (.dK (tk c spot' left')) := fun o => by
          rw [upd_ne (ne_of_none tp'.d hp)]
          exact tp'.d
      refine ⟨p, _, rfl, SqT.of upd_same, rfl, _, _, rfl, _, _, rfl, _, rfl, t, _, rfl, dp_left _ (h1 _), rfl, ?_⟩
      refine ⟨_, rfl, k _ _ (Int.emod_nonneg _ (by omega)) (Int.emod_lt_of_pos _ hm) ?_ ?_⟩
      · exact ⟨ns, spot', _, ⟨upd_same, by rw [upd_ne (show c ≠ t from ne_of tp'.l tp'.d (by intro z; cases z)), upd_ne (ne_of_none tp'.l hp)]; exact tp'.l, tp'.ne, tp'.lt, tp'.s0, Int.ediv_nonneg tp'.l0 (by omega)⟩, hs'⟩
      · exact (kp.trans (Kp.new hp)).trans Kp.at
/-- a pick from a list or a tuple -/
def spPick (K : PySem.W.Frag) : Sp := fun vs H Q _ => ∃ (t c a : Addr) (xs : List V) (n : Nat), vs = [.ref t, .ref a] ∧ Tape H t c n ∧ n < 2 ^ 40 ∧ (∀ H', Kp t H H' → SqL K H' a xs ∨ SqT K H' a xs) ∧ 0 < xs.length ∧ xs.length ≤ 1000000 ∧
  ∀ (H' : Hp) (i : Nat) (v : V), xs[i]? = some v → Tape H' t c (n + 1) → Kp t H H' → Q v H'
theorem has_pick (T : Top K mg) (h__law_draw : Has P w K mg base 1 "_law_draw" ["_law_tape", "_law_many"] spDraw) : Has P w K mg base 2 "_law_pick" ["_law_tape", "_law_some"] (spPick K) := by
  refine has_of T.d__law_pick sc__law_pick bd__law_pick (fun vs H Q E h => ?_) (fun f cdv A outer s H vs Q E hr h => ?_)
  · obtain ⟨t, c, a, xs, n, rfl, _⟩ := h
    rfl
  · have hu := hu_of hr
    have nd := sc__law_pick.nd
    obtain ⟨t, c, a, xs, n, rfl, tp, hn, hs, h0, h1, k⟩ := h
    refine ⟨_, (pss_one (ps_ret (pe_ix ix_seq (pv 1) (pe_has h__law_draw (hr.mono (by omega)) (by rfl) (pa_cons (pv 0) (pa_cons (pe_callB call_len_seq (by rfl) T.b_len (by decide +kernel) (pa_cons (pv 1) pa_nil)) pa_nil))) (fun _ _ => rfl)))), ?_⟩
    refine ⟨_, rfl, _, rfl, _, rfl, a, xs, rfl, hs H (Kp.refl _), t, c, _, n, rfl, tp, hn, by omega, ?_, fun H' r r0 r1 tp' kp => ?_⟩
    · exact Int.lt_of_le_of_lt (Int.ofNat_le.mpr h1) (by decide +kernel)
    have hi : r.toNat < xs.length := by omega
    have g : xs[r.toNat]? = some xs[r.toNat] := List.getElem?_eq_getElem hi
    rcases hs H' kp with z | z
    · exact .inl ⟨a, xs, r, _, rfl, rfl, z, at_of (by omega) g, k H' _ _ g tp' kp⟩
    · exact .inr (.inl ⟨a, xs, r, _, rfl, rfl, z, at_of (by omega) g, k H' _ _ g tp' kp⟩)
/-- the tape's beginning -/
def spBegun (K : PySem.W.Frag) : Sp := fun vs H Q _ => ∃ (a : Addr) (ns : List Int), vs = [.ref a] ∧ SqL K H a (ns.map V.int) ∧ ns.length ≤ 63 ∧
  ∀ (H' : Hp) (t c : Addr), H t = none → H c = none → Same H H' → Tape H' t c 0 → Q (.ref t) H'
theorem has_begun (T : Top K mg) : Has P w K mg base 1 "_law_begun" ["_law_script"] (spBegun K) := by
  refine has_of T.d__law_begun sc__law_begun bd__law_begun (fun vs H Q E h => ?_) (fun f cdv A outer s H vs Q E hr h => ?_)
  · obtain ⟨a, ns, rfl, _⟩ := h
    rfl
  · have hu := hu_of hr
    have nd := sc__law_begun.nd
    obtain ⟨a, ns, rfl, hS, hl, k⟩ := h
    refine ⟨_, (pss_one (ps_ret (pe_disp (pps_cons pe_str (pe_orT (pe_slice sl_list (pv 0) po_none (po_some pe_int)) (pe_one (pe_lst (pa_cons pe_int pa_nil)))) (pps_cons pe_str pe_int (pps_cons pe_str pe_int pps_nil))) (by rfl) (by rfl) (fun z => by cases z) (by decide)))), ?_⟩
    intro t ht
    have s1 := same_new (o := .dK []) ht
    refine ⟨_, rfl, 63, rfl, a, _, rfl, s1.seq hS, fun q hq => ?_⟩
    have ec : cutV (ns.map V.int) none (some 63) = ns.map V.int := by
      unfold cutV
      rw [HT.sIx_none, show HT.sIx (ns.map V.int).length (ns.map V.int).length (some 63) = min 63 (ns.map V.int).length from HT.sIx_nat _ _ 63, List.drop_zero, List.length_map]
      refine List.take_of_length_le ?_
      rw [List.length_map]
      omega
    rw [ec]
    have nqt : q ≠ t := fun e => by
      rw [e, upd_same] at hq
      cases hq
    have nq : H q = none := by
      rw [← hq, upd_ne nqt]
    cases hns : ns with
    | cons z zs =>
      refine ⟨true, .inl ⟨_, SqL.of upd_same, rfl⟩, iteT ?_⟩
      refine ⟨by rw [upd_ne nqt.symm]; exact upd_same, tk q 0 0, rfl, by show 3 ≤ 15; decide, ?_⟩
      refine k _ t q ht nq (fun b o e => ?_) ⟨z :: zs, 0, 0, ⟨upd_same, by rw [upd_ne nqt]; exact upd_same, by rw [List.length_cons]; omega, by rw [← hns]; exact hl, by decide, by decide⟩, by decide⟩
      rw [upd_ne (ne_of_none e ht), upd_ne (ne_of_none e nq), upd_ne (ne_of_none e ht)]
      exact e
    | nil =>
      refine ⟨false, .inl ⟨_, SqL.of upd_same, rfl⟩, iteF ?_⟩
      refine ⟨by show 1 ≤ sizeLine; decide, fun p hp => ?_⟩
      have npq : p ≠ q := fun e => by
        rw [e, upd_same] at hp
        cases hp
      have npt : p ≠ t := fun e => by
        rw [e, upd_ne nqt.symm, upd_same] at hp
        cases hp
      have np : H p = none := by
        rw [← hp, upd_ne npq, upd_ne npt]
      refine ⟨by rw [upd_ne npt.symm, upd_ne nqt.symm]; exact upd_same, tk p 0 0, rfl, by show 3 ≤ 15; decide, ?_⟩
      refine k _ t p ht np (fun b o e => ?_) ⟨[0], 0, 0, ⟨upd_same, by rw [upd_ne npt]; exact upd_same, by decide, by decide, by decide, by decide⟩, by decide⟩
      rw [upd_ne (ne_of_none e ht), upd_ne (ne_of_none e np), upd_ne (ne_of_none e nq), upd_ne (ne_of_none e ht)]
      exact e
end

/-! ### steps by clauses, as plain functions -/
def tru (on : List Int) : List (Key × V) := on.map fun k => ((Sum.inl k : Key), V.bl true)
def ins (on : List Int) (k : Int) : List Int := if k ∈ on then on else on ++ [k]
theorem tru_val (on : List Int) (k : Int) : valV (tru on) (Sum.inl k : Key) = if k ∈ on then some (V.bl true) else none := by
  induction on with
  | nil => rfl
  | cons a r ih =>
    show valV (((Sum.inl a : Key), V.bl true) :: tru r) (Sum.inl k : Key) = _
    by_cases h : a = k
    · rw [valV_pos (by rw [h]), if_pos (by rw [h]; exact List.mem_cons_self)]
    · rw [valV_neg (fun e => h (Sum.inl.inj e)), ih]
      by_cases hm : k ∈ r
      · rw [if_pos hm, if_pos (List.mem_cons_of_mem _ hm)]
      · rw [if_neg hm, if_neg]
        intro z
        rcases List.mem_cons.mp z with e | e
        · exact h e.symm
        · exact hm e
theorem tru_some (on : List Int) (k : Int) : (valV (tru on) (Sum.inl k : Key)).isSome = decide (k ∈ on) := by
  rw [tru_val]
  by_cases h : k ∈ on
  · rw [if_pos h, decide_eq_true h]
    rfl
  · rw [if_neg h, decide_eq_false h]
    rfl
theorem tru_put (on : List Int) (k : Int) : putK (tru on) (Sum.inl k : Key) (V.bl true) = tru (ins on k) := by
  unfold ins
  by_cases h : k ∈ on
  · rw [if_pos h]
    unfold putK
    rw [if_pos (by rw [valV_any, tru_some, decide_eq_true h])]
    unfold tru
    rw [List.map_map]
    refine List.map_congr_left fun a ha => ?_
    show (if ((Sum.inl a : Key), V.bl true).1 = Sum.inl k then _ else _) = _
    by_cases e : (Sum.inl a : Key) = Sum.inl k
    · rw [if_pos e]
    · rw [if_neg e]
  · rw [if_neg h, putK_new _ (by rw [tru_val, if_neg h])]
    unfold tru
    rw [List.map_append]
    rfl
theorem tru_merge : ∀ (b a : List Int), mergeK (tru a) (tru b) = tru (b.foldl ins a)
  | [], a => rfl
  | k :: r, a => by
    show mergeK (putK (tru a) (Sum.inl k : Key) (V.bl true)) (tru r) = _
    rw [tru_put, tru_merge r]
    rfl
theorem ins_len (on : List Int) (k : Int) : (ins on k).length ≤ on.length + 1 := by
  unfold ins
  split
  · omega
  · rw [List.length_append]
    exact Nat.le_refl _
theorem fold_len : ∀ (b a : List Int), (b.foldl ins a).length ≤ a.length + b.length
  | [], a => Nat.le_refl _
  | k :: r, a => by
    have h := fold_len r (ins a k)
    have h2 := ins_len a k
    show (r.foldl ins (ins a k)).length ≤ a.length + (r.length + 1)
    omega
/-- the marks of a clause that aren't off -/
def left (on c : List Int) : List Int := c.filter fun m => !decide (-m ∈ on)
/-- the clause of a number -/
def clAt (cs : List (List Int)) (r : Int) : Option (List Int) := if 0 ≤ r ∧ r < cs.length then cs[r.toNat]? else none
def step (cs : List (List Int)) (on : List Int) (r : Int) : Option (List Int) :=
  match clAt cs r with
  | none => none
  | some c => match left on c with
    | [x] => if x ∈ on then none else some (ins on x)
    | _ => none
def bring (cs : List (List Int)) : List Int → List Int → Option (List Int)
  | [], on => some on
  | r :: rs, on => match step cs on r with
    | none => none
    | some on' => bring cs rs on'
def broken (cs : List (List Int)) (on : List Int) (r : Int) : Bool :=
  match clAt cs r with
  | none => false
  | some c => (left on c).isEmpty
/-- what the program tells -/
def shownP (cs : List (List Int)) (ps rs : List Int) : Option Int → Bool
  | none => match rs.getLast? with
    | none => false
    | some r => match bring cs rs.dropLast (ps.foldl ins []) with
      | none => false
      | some on => broken cs on r
  | some m => match bring cs rs (ps.foldl ins []) with
    | none => false
    | some on => decide (m ∈ on)
/-- the law's own walk -/
def stepL (cs : List (List Int)) (on : List Int) (r : Int) : Option (List Int × Bool) :=
  match clAt cs r with
  | none => none
  | some c => if (left on c).length > 1 ∨ ((left on c).filter fun m => decide (m ∈ on)) ≠ [] then none else some ((left on c).foldl ins on, (left on c).isEmpty)
def walkL (cs : List (List Int)) : List Int → List Int → Bool → Option (List Int × Bool)
  | [], on, e => some (on, e)
  | r :: rs, on, e => if e = true then none else match stepL cs on r with
    | none => none
    | some (on', e') => walkL cs rs on' e'
def shownL (cs : List (List Int)) (ps rs : List Int) (m : Option Int) : Bool :=
  match walkL cs rs (ps.foldl ins []) false with
  | none => false
  | some (on, e) => match m with
    | none => e
    | some k => !e && decide (k ∈ on)
theorem stepL_of (cs : List (List Int)) (on : List Int) (r : Int) : stepL cs on r = match step cs on r with
    | some on' => some (on', false)
    | none => if broken cs on r = true then some (on, true) else none := by
  unfold stepL step broken
  cases clAt cs r with
  | none => rfl
  | some c =>
    show (if (left on c).length > 1 ∨ ((left on c).filter fun m => decide (m ∈ on)) ≠ [] then none else some ((left on c).foldl ins on, (left on c).isEmpty)) = match (match left on c with | [x] => if x ∈ on then none else some (ins on x) | _ => none) with
      | some on' => some (on', false)
      | none => if (left on c).isEmpty = true then some (on, true) else none
    cases left on c with
    | nil => simp
    | cons x r =>
      cases r with
      | nil =>
        by_cases h : x ∈ on
        · simp [h]
        · simp [h, ins]
      | cons y r => simp
theorem walk_ended (cs : List (List Int)) (rs on : List Int) : walkL cs rs on true = if rs = [] then some (on, true) else none := by
  cases rs with
  | nil => rfl
  | cons r rs => simp [walkL]
theorem walk_mark (cs : List (List Int)) (k : Int) : ∀ (rs on : List Int), (match walkL cs rs on false with
    | none => false
    | some (o, e) => !e && decide (k ∈ o)) = match bring cs rs on with
    | none => false
    | some o => decide (k ∈ o)
  | [], on => rfl
  | r :: rs, on => by
    simp only [walkL, bring]
    rw [if_neg Bool.false_ne_true, stepL_of]
    cases step cs on r with
    | some on' => exact walk_mark cs k rs on'
    | none =>
      by_cases hb : broken cs on r = true
      · simp only [hb, if_true]
        rw [walk_ended]
        cases rs with
        | nil => rfl
        | cons a b => rfl
      · simp only [hb]
        rfl
theorem walk_none (cs : List (List Int)) : ∀ (rs on : List Int), (match walkL cs rs on false with
    | none => false
    | some (_, e) => e) = match rs.getLast? with
    | none => false
    | some r => match bring cs rs.dropLast on with
      | none => false
      | some o => broken cs o r
  | [], on => rfl
  | [r], on => by
    simp only [walkL, bring, List.getLast?_singleton, List.dropLast_singleton]
    rw [if_neg Bool.false_ne_true, stepL_of]
    cases hs : step cs on r with
    | some on' =>
      have nb : broken cs on r = false := by
        unfold step at hs
        unfold broken
        cases hc : clAt cs r with
        | none => rfl
        | some c =>
          rw [hc] at hs
          simp only at hs ⊢
          cases hl : left on c with
          | nil =>
            rw [hl] at hs
            cases hs
          | cons x y => rfl
      rw [nb]
    | none =>
      by_cases hb : broken cs on r = true
      · simp only [hb, if_true]
      · simp only [hb]
        simp
  | r :: r2 :: rs, on => by
    have e1 : (r :: r2 :: rs).getLast? = (r2 :: rs).getLast? := by rw [List.getLast?_cons_cons]
    have e2 : (r :: r2 :: rs).dropLast = r :: (r2 :: rs).dropLast := rfl
    rw [e1, e2]
    simp only [bring]
    rw [show walkL cs (r :: r2 :: rs) on false = match stepL cs on r with | none => none | some (on', e') => walkL cs (r2 :: rs) on' e' by
      show (if false = true then none else _) = _
      rw [if_neg Bool.false_ne_true]]
    rw [stepL_of]
    cases step cs on r with
    | some on' => exact walk_none cs (r2 :: rs) on'
    | none =>
      have z : (match (r2 :: rs).getLast? with | none => false | some r => false) = false := by
        cases (r2 :: rs).getLast? <;> rfl
      by_cases hb : broken cs on r = true
      · simp only [hb, if_true]
        rw [walk_ended]
        simp only [reduceCtorEq, if_false]
        exact z.symm
      · simp only [hb]
        exact z.symm
theorem shown_eq (cs : List (List Int)) (ps rs : List Int) (m : Option Int) : shownL cs ps rs m = shownP cs ps rs m := by
  unfold shownL shownP
  cases m with
  | none => exact walk_none cs rs _
  | some k => exact walk_mark cs k rs _

/-! ### clauses as they stand in the heap -/
structure Cs (H : Hp) (a : Addr) (qs : List Addr) (cs : List (List Int)) : Prop where
  l : H a = some (.lst (qs.map V.ref))
  n : qs.length = cs.length
  t : ∀ (i : Nat) q c, qs[i]? = some q → cs[i]? = some c → H q = some (.tup (c.map V.int))
theorem Cs.same {H H' : Hp} {a : Addr} {qs : List Addr} {cs : List (List Int)} (h : Cs H a qs cs) (s : Same H H') : Cs H' a qs cs := ⟨s _ _ h.l, h.n, fun i q c hq hc => s _ _ (h.t i q c hq hc)⟩
theorem Cs.kp {H H' : Hp} {a d : Addr} {qs : List Addr} {cs : List (List Int)} {kvs : List (Key × V)} (h : Cs H a qs cs) (hd : H d = some (.dK kvs)) (k : Kp d H H') : Cs H' a qs cs :=
  ⟨k _ _ h.l (ne_of h.l hd (by intro z; cases z)), h.n, fun i q c hq hc => k _ _ (h.t i q c hq hc) (ne_of (h.t i q c hq hc) hd (by intro z; cases z))⟩
theorem clAt_some {cs : List (List Int)} {r : Int} {c : List Int} (h : clAt cs r = some c) : 0 ≤ r ∧ r < cs.length ∧ cs[r.toNat]? = some c := by
  unfold clAt at h
  split at h
  · rename_i e
    exact ⟨e.1, e.2, h⟩
  · cases h
theorem clAt_in {cs : List (List Int)} {r : Int} (h0 : 0 ≤ r) (h1 : r < cs.length) : ∃ c, clAt cs r = some c := by
  unfold clAt
  rw [if_pos ⟨h0, h1⟩]
  exact ⟨_, List.getElem?_eq_getElem (by omega)⟩
theorem Cs.at {H : Hp} {a : Addr} {qs : List Addr} {cs : List (List Int)} (h : Cs H a qs cs) {r : Int} {c : List Int} (hc : clAt cs r = some c) : ∃ q, atI (qs.map V.ref) r = some (.ref q) ∧ H q = some (.tup (c.map V.int)) := by
  obtain ⟨h0, h1, h2⟩ := clAt_some hc
  have hn := h.n
  have l : r.toNat < qs.length := by omega
  refine ⟨qs[r.toNat], at_of (j := r.toNat) (by omega) ?_, h.t _ _ _ (List.getElem?_eq_getElem l) h2⟩
  rw [List.getElem?_map, List.getElem?_eq_getElem l]
  rfl
theorem len_zero (l : List Int) : decide (V.int ((l.map V.int).length : Nat) = V.int 0) = l.isEmpty := by
  cases l with
  | nil => rfl
  | cons y r =>
    refine decide_eq_false fun z => ?_
    have z2 := V.int.inj z
    rw [List.length_map, List.length_cons] at z2
    omega
theorem drop_at {α : Type} {xs : List α} {i : Nat} {x : α} (h : xs[i]? = some x) : xs.drop i = x :: xs.drop (i + 1) := by
  obtain ⟨l, e⟩ := List.getElem?_eq_some_iff.mp h
  rw [List.drop_eq_getElem_cons l, e]
theorem int_at {rs : List Int} {i : Nat} {x : V} (h : (rs.map V.int)[i]? = some x) : ∃ r, x = .int r ∧ rs[i]? = some r := by
  rw [List.getElem?_map] at h
  cases e : rs[i]? with
  | none =>
    rw [e] at h
    cases h
  | some r =>
    rw [e] at h
    exact ⟨r, (Option.some.inj h).symm, rfl⟩

/-! ### small things -/
theorem pick_int {zs : List Int} {i : Nat} {v : V} (h : (zs.map V.int)[i]? = some v) : ∃ z, v = .int z ∧ z ∈ zs := by
  obtain ⟨r, e, hr⟩ := int_at h
  exact ⟨r, e, List.mem_of_getElem? hr⟩
theorem seq_in {n : Nat} {i : Int} (h0 : 0 ≤ i) (h1 : i < n) : seqIndex? i n = some i.toNat := by
  have e : ixN n i = some i.toNat := by
    unfold ixN
    rw [if_pos h0, if_pos h1]
  exact (ixN_seq e).1
theorem pow8000 {x : Int} (h : x ≤ 1000000) : x < 2 ^ 8000 := Int.lt_of_le_of_lt h (by decide +kernel)
theorem Tape.sq {H : Hp} {t c p : Addr} {n : Nat} {xs : List V} (h : Tape H t c n) (e : H p = some (.lst xs)) {H' : Hp} (k : Kp t H H') : H' p = some (.lst xs) := k p _ e (by
  obtain ⟨ns, spot, left, tc, _⟩ := h
  exact ne_of e tc.d (by intro z; cases z))
theorem Tape.ne_lst' {H : Hp} {t c p : Addr} {n : Nat} {xs : List V} (h : Tape H t c n) (e : H p = some (.lst xs)) : p ≠ t := by
  obtain ⟨ns, spot, left, tc, _⟩ := h
  exact ne_of e tc.d (by intro z; cases z)
theorem getElem_snoc {α : Type} {xs : List α} {x y : α} {i : Nat} (h : (xs ++ [x])[i]? = some y) : (i < xs.length ∧ xs[i]? = some y) ∨ (i = xs.length ∧ x = y) := by
  by_cases c : i < xs.length
  · rw [List.getElem?_append_left c] at h
    exact .inl ⟨c, h⟩
  · rw [List.getElem?_append_right (by omega)] at h
    have l := (List.getElem?_eq_some_iff.mp h).1
    simp only [List.length_cons, List.length_nil] at l
    have e : i - xs.length = 0 := by omega
    rw [e] at h
    exact .inr ⟨by omega, Option.some.inj h⟩
theorem same_mut {H H' : Hp} {D : Addr} {o : HO} (s : Same H H') (h : H D = none) : Same H (upd H' D o) := fun b u e => by
  rw [upd_ne (ne_of_none e h)]
  exact s b u e
theorem take_snoc {xs : List Int} {i : Nat} {x : Int} (h : xs[i]? = some x) : xs.take (i + 1) = xs.take i ++ [x] := by
  rw [List.take_add_one, h]
  rfl

/-! ### {e for x in ..} whose items are whole numbers -/
/-- the reading: the new set stands at Z; a turn adds one whole number -/
def tScI (w : World) (wi : TI) (g : TG) (te : TE) (own : List Nat) : TE := fun σ H0 Q => wi σ H0 fun J Hb => ∀ Z, Hb Z = none →
  ∃ W : Nat → Nat → Hp → Prop, (∃ m, W 0 m (upd Hb Z (SetO w Z (fun _ => false) 0))) ∧ ∀ i m Hc, W i m Hc →
    (J.stop i Hc ∧ Q (.ref Z) Hc) ∨ (J.go i Hc ∧ ∃ Next : Hp → Prop, (∀ Hd, Next Hd → ∃ m', m' < m ∧ W (i + 1) m' Hd) ∧
      ∀ x Hd, J.yld i Hc x Hd → g x (wipe σ own) Hd fun σ' He => wipe σ' own = wipe σ own ∧ te σ' He fun y Hf =>
        ∃ (k : Int) (S : Int → Bool) (n : Nat), y = .int k ∧ Hf Z = some (SetO w Z S n) ∧ n + 1 < scanBound ∧ Next (upd Hf Z (SetO w Z (fun j => S j || decide (j = k)) (if S k = true then n else n + 1))))
section
variable {X : Cx}
theorem add_at_set {pins : List (Addr × Obj)} {σ : L2.St} {H : Hp} {s : Shared} {E : Value → Shared → Prop} {Z : Addr} {S : Int → Bool} {n : Nat} {k : Int} {u : Value} {Q : Value → Shared → Prop} (I : Inv X pins σ H s)
    (hZ : H Z = some (SetO X.w Z S n)) (few : n + 1 < scanBound) (ru : RelV (.int k) u) (q : ∀ s', Inv X pins σ (upd H Z (SetO X.w Z (fun j => S j || decide (j = k)) (if S k = true then n else n + 1))) s' → Q .none s') :
    wpAny (model X.prog X.w) X.A (call (.builtin "set.add") [.ref Z, u]) Q E s := by
  obtain ⟨t, rfl⟩ := ru
  refine setR_add (setO_get I hZ) few fun h2 same now => ?_
  have there : ∃ o, h2.get? Z = some o := by
    obtain ⟨o, _, _, _, ho, _⟩ := id now
    exact ⟨o, ho⟩
  exact q { s with heap := h2, toks := s.toks + 1 } (I.write (t' := s.toks + 1) (by rw [hZ]; trivial) (.inl rfl) (fun b o hb e => (same.2 b hb).trans e) there (setO_new now))
theorem pe_scI {elt tg iter : Expr} {scope : Scope} {own : List (PySem.Str × Nat)} {pos : Pos} {wi : TI} {g : TG} {te : TE} (hc : X.calm = true) (hN : X.N.Nodup) (hi : PI X tg iter wi) (ok : BlkOk X.N X.env.scope scope own)
    (hg : ∀ (s : Shared) (H : Hp) (C : Addr) (cl : List (PySem.Str × Addr)) (fp : List Addr), PG (X.blk s H scope (compEnvC scope cl C X.env) fp) tg g)
    (he : ∀ (s : Shared) (H : Hp) (C : Addr) (cl : List (PySem.Str × Addr)) (fp : List Addr), PE (X.blk s H scope (compEnvC scope cl C X.env) fp) elt te) (hs : ∀ x, foldedSetIterable iter X.env x = pure x := by intro _; rfl) :
    PE X (.SetComp elt [⟨tg, iter, [], 0⟩] scope pos) (tScI X.w wi g te (own.map (·.2))) := by
  refine ⟨fun pins s σ H Q I rd => ?_⟩
  have caught : ∀ p ∈ scope.names, p.2 = .free → ∃ c, X.env.cells.lookup p.1 = some c := by
    intro p hp e
    exact I.ok.has _ ((ok.free p hp e).elim .inl .inr)
  rw [PpSet.eval_SetComp]
  refine wpAny_comprehension_free (use := none) rfl hs (closure_ok caught) ok.kind (fun p hp e => (ok.uniq p hp).trans (congrArg some e)) ?_
  refine thn (hi.run pins s σ H _ I rd) fun xv sa ha => thn ha fun iv sb hb => ?_
  obtain ⟨it, fp, tn, J, Hb, rfl, Ib, T, tn0, free, q⟩ := hb
  refine PpSet.newSet_ok (newEnv_comp ?_)
  -- the new set's place
  generalize eZ : sb.heap.objs.size = Z
  have noZ : Hb Z = none := Ib.hok.fresh (Nat.le_of_eq eZ)
  obtain ⟨W, ⟨m0, W0⟩, turn⟩ := q Z noZ
  generalize eB : upd Hb Z (SetO X.w Z (fun _ => false) 0) = Hs at W0
  generalize ec : ({ sb with heap := sb.heap.push { cls := .type "set", dict := none, data := .set #[] 0 (.fresh 0 0 (!X.w.params.followText "set-order")) } } : Shared) = sc
  have hsc : sc.heap = sb.heap.push { cls := .type "set", dict := none, data := .set #[] 0 (.fresh 0 0 (!X.w.params.followText "set-order")) } := by
    rw [← ec]
  have Ic : Inv X pins σ Hs sc := by
    rw [← ec, ← eB]
    refine Ib.laid (t' := sb.toks) (fun _ _ e => Heap.get?_push_of_some _ e) (Nat.le_of_eq eZ) ?_
    rw [← eZ]
    exact setO_new (setR_fresh X.w)
  have older : ∀ b ∈ fp, b < Z := by
    intro b hb
    obtain ⟨o, e, _⟩ := T.obj 0 _ tn0 b hb
    exact eZ ▸ Heap.lt_size e
  have free2 : ∀ b ∈ fp, FpOk X pins Hs b ∧ b < sc.heap.objs.size := by
    intro b hb
    have l := older b hb
    refine ⟨⟨?_, (free b hb).2⟩, ?_⟩
    · rw [← eB, upd_ne (Nat.ne_of_lt l)]
      exact (free b hb).1
    · rw [hsc, Heap.size_push, eZ]
      exact Nat.lt_succ_of_lt l
  have tnc : tn 0 sc.heap := T.keep 0 _ _ tn0 fun b _ o e => by
    rw [hsc]
    exact Heap.get?_push_of_some _ e
  have Ie := block_start Ic ok hN free2
  show codeAny _ _ (.compStart (.SetComp elt [⟨tg, iter, [], 0⟩] scope pos) 0 (.ref it) (.ref Z) (compEnvC scope (cellsFrom (sc.heap.objs.size + 1) scope.names (cloFrom X.env.cells scope.names [])) sc.heap.objs.size X.env)) (compPost (model X.prog X.w) X.A X.xe none (EP X pins σ Q) (.ref Z) sc.heap.objs.size) _
  generalize ecl : cellsFrom (sc.heap.objs.size + 1) scope.names (cloFrom X.env.cells scope.names []) = cl at Ie
  have rg := hg sc Hs sc.heap.objs.size cl fp
  have re := he sc Hs sc.heap.objs.size cl fp
  generalize eE : compEnvC scope cl sc.heap.objs.size X.env = env at Ie rg re
  generalize ef : ({ sc with heap := pushCells (sc.heap.push { cls := .type "dict", data := .dict #[] }) scope.names } : Shared) = sf at Ie
  have tnf : tn 0 sf.heap := T.keep 0 _ _ tnc fun b _ o e => by
    rw [← ef]
    exact pushCells_keeps _ _ _ _ (Heap.get?_push_of_some _ e)
  have locE : env.locals = sc.heap.objs.size := by
    rw [← eE]
    rfl
  have held : ∀ {τ : L2.St} {G : Hp} {s' : Shared}, Inv (X.blk sc Hs scope env fp) [] τ G s' → (∀ b ∈ fp, G b = none) → ∀ b ∈ fp, FpOk (X.blk sc Hs scope env fp) [] G b := by
    intro τ G s' J' no b hb
    have x := J'.ok.exf b hb
    exact ⟨no b hb, x.1, J'.ok.exfs b hb, .inl hb, x.2, fun p hp => by cases hp⟩
  refine PpSet.codeAny_compStart_set ?_ (T.self X.A 0 _ _ _ tnf ?_)
  all_goals
    refine PpSet.compLoopS_any (fun m s' => ∃ i G, Inv (X.blk sc Hs scope env fp) [] (wipe σ (own.map (·.2))) G s' ∧ tn i s'.heap ∧ (∀ b ∈ fp, G b = none) ∧ W i m G) ?_ m0 ⟨0, Hs, Ie, tnf, fun b hb => (free2 b hb).1.1, W0⟩
    rintro m s1 ⟨i, G, I1, tn1, no1, w1⟩
    rcases turn i m G w1 with ⟨stop, fin⟩ | ⟨go, Next, less, step⟩
    · refine thnF (T.done (X.blk sc Hs scope env fp) rfl rfl rfl hc i [] s1 _ G (fun _ _ => False) I1 (held I1 no1) tn1 stop) fun r s2 ⟨er, I2⟩ => ?_
      subst er
      have out : Inv X pins σ G s2 := Ic.call' (ch := fp) I2.os I2.base I2.hok I2.bare fun b hb => by
        have z := (free2 b hb).1
        exact ⟨z.2.2.2.1, z.2.1, z.2.2.2.2.1, z.2.2.2.2.2⟩
      have nl : G env.locals = none := I2.free
      obtain ⟨mp, ns, _⟩ := I2.loc
      have ns : s2.heap.Ns env.locals mp := ns
      rw [locE] at nl ns
      have fo := Ic.fpOk (Nat.le_refl _) nl
      exact ⟨mp, ns, fun h3 sb3 => ⟨.ref Z, G, out.turned (t' := s2.toks) (fun b o hb e => (sb3.2 b hb).trans e) fo.1 fo.2.1 fo.2.2.2.1 fo.2.2.2.2.1 fo.2.2.2.2.2, rfl, fin⟩⟩
    · refine thnF (T.item (X.blk sc Hs scope env fp) rfl rfl rfl hc i [] s1 _ G (fun _ _ => False) I1 (held I1 no1) tn1 go) fun r s2 ⟨u, er, h2⟩ => ?_
      subst er
      refine thnF h2 fun _ s3 ⟨x, G3, I3, rx, y3, tn3, no3⟩ => ?_
      refine thnF (rg.run _ s3 _ G3 x u _ (I3.pinned (held I3 no3) (T.obj _ _ tn3)) rx (step x G3 y3)) fun _ s4 ⟨τ, G4, I4, ew, r4⟩ => ?_
      show wpAny _ _ (pure true) _ _ _
      refine wpAny_pure ?_
      show (if true = true then _ else _)
      rw [if_pos rfl]
      refine thnF (re.run _ s4 τ G4 _ I4 r4) fun z s5 ⟨y, G5, I5, rz, k, S, n, ey, hZ, few, nx⟩ => ?_
      subst ey
      refine add_at_set (X := X.blk sc Hs scope env fp) I5 hZ few rz fun s6 I6 => ?_
      obtain ⟨m', lt, w'⟩ := less _ nx
      have kept : ∀ b ∈ fp, ∀ o, s3.heap.get? b = some o → s6.heap.get? b = some o ∧ (upd G5 Z (SetO X.w Z (fun j => S j || decide (j = k)) (if S k = true then n else n + 1))) b = none := by
        intro b hb o e
        have p := I6.pin (b, o) (List.mem_append_right _ (List.mem_append_right _ (mem_pinsAt hb e)))
        exact ⟨p.1, p.2.1⟩
      refine ⟨m', lt, i + 1, _, (I6.unpinned (pins := [])).weak (by rw [← ew, wipe_length]) (fun j v e => ?_), T.keep _ _ _ tn3 fun b hb o e => (kept b hb o e).1, fun b hb => ?_, w'⟩
      · rw [← ew] at e
        exact (wipe_some e).1
      · obtain ⟨o, e, _⟩ := T.obj _ _ tn3 b hb
        exact (kept b hb o e).2
end
/-! ### how many there are in a set -/
theorem call_lenS {X : Cx} : CallR X (.builtin "len") (fun xs H Q => ∃ a S n, xs = [.ref a] ∧ H a = some (SetO X.w a S n) ∧ Q (.int (n : Nat)) H) := by
  intro pins s σ H xs us Q I r h
  obtain ⟨a, S, n, rfl, ha, q⟩ := h
  obtain ⟨u, rfl, ru⟩ := vals1 r
  cases ru
  obtain ⟨o, es, ep, t, ho, hex, hd, _, _, _, hb, hf, hn, _⟩ := setO_get I ha
  have line : scanBound = 4096 := rfl
  exact call_len_set ho hex hd hf (by omega) ⟨.int (n : Nat), H, I.tok _, ⟨_, by rw [hn]⟩, q⟩
def dist (acc : List Int) : List Int → List Int := List.foldl step_dedup acc
theorem dist_le : ∀ (ns acc : List Int), (dist acc ns).length ≤ acc.length + ns.length
  | [], acc => Nat.le_refl _
  | n :: r, acc => by
    show (dist (step_dedup acc n) r).length ≤ acc.length + (r.length + 1)
    have h := dist_le r (step_dedup acc n)
    have h2 : (step_dedup acc n).length ≤ acc.length + 1 := by
      unfold step_dedup
      split
      · omega
      · rw [List.length_append]
        exact Nat.le_refl _
    omega
theorem dist_nodup : ∀ (ns acc : List Int), (dist acc ns).length = acc.length + ns.length ↔ ns.Nodup ∧ ∀ k ∈ ns, k ∉ acc
  | [], acc => by
    constructor
    · intro _
      exact ⟨List.nodup_nil, fun k h => by cases h⟩
    · intro _
      rfl
  | n :: r, acc => by
    show (dist (step_dedup acc n) r).length = acc.length + (r.length + 1) ↔ _
    by_cases hm : n ∈ acc
    · have e : step_dedup acc n = acc := by
        unfold step_dedup
        rw [if_pos (List.any_eq_true.mpr ⟨n, hm, by simp⟩)]
      rw [e]
      have l := dist_le r acc
      constructor
      · intro z
        omega
      · intro z
        exact absurd hm (z.2 n List.mem_cons_self)
    · have e : step_dedup acc n = acc ++ [n] := by
        unfold step_dedup
        rw [if_neg]
        intro z
        obtain ⟨y, hy, ey⟩ := List.any_eq_true.mp z
        exact hm ((beq_iff_eq.mp ey) ▸ hy)
      rw [e]
      have ih := dist_nodup r (acc ++ [n])
      rw [List.length_append] at ih
      have e2 : acc.length + (r.length + 1) = acc.length + [n].length + r.length := by
        show _ = acc.length + 1 + r.length
        omega
      rw [e2, ih, List.nodup_cons]
      constructor
      · rintro ⟨nd, no⟩
        refine ⟨⟨fun z => no n z (List.mem_append_right _ (List.mem_singleton.mpr rfl)), nd⟩, fun k hk => ?_⟩
        rcases List.mem_cons.mp hk with rfl | hk
        · exact hm
        · exact fun z => no k hk (List.mem_append_left _ z)
      · rintro ⟨⟨nm, nd⟩, no⟩
        refine ⟨nd, fun k hk z => ?_⟩
        rcases List.mem_append.mp z with z | z
        · exact no k (List.mem_cons_of_mem _ hk) z
        · exact nm ((List.mem_singleton.mp z) ▸ hk)
/-- how many unlike ones there are -/
def many (ns : List Int) : Nat := (dist [] ns).length
theorem many_nodup (ns : List Int) : many ns = ns.length ↔ ns.Nodup := by
  have h := dist_nodup ns []
  simp only [List.length_nil, Nat.zero_add, List.not_mem_nil, not_false_eq_true, implies_true, and_true] at h
  exact h
theorem first_dist (ns : List Int) : firstMet (fun i => ns.getD i 0) ns.length = dist [] ns := by
  unfold firstMet
  have e : (List.range ns.length).map (fun i => ns.getD i 0) = ns := by
    apply List.ext_getElem?
    intro i
    rw [List.getElem?_map]
    by_cases h : i < ns.length
    · rw [List.getElem?_range h, List.getElem?_eq_getElem h]
      show some (ns.getD i 0) = _
      rw [List.getD_eq_getElem?_getD, List.getElem?_eq_getElem h]
      rfl
    · rw [List.getElem?_eq_none (by rw [List.length_range]; omega), List.getElem?_eq_none (by omega)]
      rfl
  rw [e]
  rfl
theorem ints_are : ∀ {ns : List Int} {us : List Value}, Vals (ns.map V.int) us → IntsAre us ns
  | [], us, h => by
    cases h
    exact .nil
  | n :: r, us, h => by
    cases h with
    | cons a b =>
      obtain ⟨t, rfl⟩ := a
      exact .cons _ _ (ints_are b)
/-- len(set(xs)), xs a list of whole numbers -/
def tLenOf (K : PySem.W.Frag) (ta : TE) : TE := fun σ H Q => ta σ H fun x H1 => ∃ (l : Addr) (ns : List Int), x = .ref l ∧ SqL K H1 l (ns.map V.int) ∧ ns.length ≤ 4000 ∧ Q (.int (many ns : Nat)) H1
theorem pe_lenOf {X : Cx} {a : Expr} {ta : TE} {p p2 q pos : Pos} (hg : Gl X "len") (hm : X.mg "len" = none) (hg2 : Gl X "set") (hm2 : X.mg "set" = none) (ha : PE X a ta) (hc : X.calm = true := by rfl)
    (na : starEach [a] X.env = (false, eval a X.env) :: starEach [] X.env := by rfl) : PE X (.Call (.Name "len" p) [.Call (.Name "set" p2) [a] [] q] [] pos) (tLenOf X.K ta) := by
  refine ⟨fun pins s σ H Q I rd => Call_ (ld_blt I hg hm boot_len (callWith_builtin1 (args_cons ?_ rfl) rfl rfl))⟩
  refine Call_ (ld_blt I hg2 hm2 boot_set (callWith_type1 (args_cons (thn (ha.run pins s σ H _ I rd) fun v sa ⟨x, Ha, Ia, rx, rest⟩ => args_nil ?_) na) na rfl))
  obtain ⟨l, ns, rfl, at_l, few, rest⟩ := rest
  cases rx
  obtain ⟨its, vs, pl, _⟩ := Ia.list at_l
  have size : its.toArray.size = ns.length := by
    rw [List.size_toArray, ← vs.length, List.length_map]
  have line : scanBound = 4096 := rfl
  refine call_set_list (Ia.ok.hd hc) pl.isList (by simpa using ints_are vs) (by omega) fun h2 tk made kept => args_nil ?_
  rw [size, first_dist] at made
  obtain ⟨o, es, ep, t, ho, hex, hd, _, _, _, hf, hn⟩ := made
  have Ib : Inv X pins σ Ha { sa with heap := h2, toks := tk } := Ia.kept fun b o e => kept b o (Heap.lt_size e) e
  have le := dist_le ns []
  exact call_len_set ho hex hd hf (by rw [hn]; simp only [List.length_nil] at le; omega) ⟨.int (many ns : Nat), Ha, Ib.tok _, ⟨_, by rw [hn]; rfl⟩, rest⟩
/-- the set of f's numbers over a tuple: how many there are is told, whether as many as items -/
theorem scI_tup {w : World} {K : PySem.W.Frag} {a : Addr} {xs : List V} {te : TE} {vs : List Nat} {σ : L2.St} {H : Hp} {Z : Addr} {Qd : Hp → Prop} {j : Nat} (f : V → Int) (hx : SqT K H a xs) (hZ : H Z = none) (hz : xs.length ≤ 4000)
    (hs : ∀ x ∈ xs, SelT H σ vs j tYes te x true (.int (f x))) (k : ∀ H' S n, Same H H' → H' Z = some (SetO w Z S n) → (n = xs.length ↔ (xs.map f).Nodup) → (∀ i, S i = true ↔ i ∈ xs.map f) → Qd H') :
    ∃ W : Nat → Nat → Hp → Prop, (∃ m, W 0 m (upd H Z (SetO w Z (fun _ => false) 0))) ∧ ∀ i m Hc, W i m Hc →
    ((Itt K a).stop i Hc ∧ Qd Hc) ∨ ((Itt K a).go i Hc ∧ ∃ Next : Hp → Prop, (∀ Hd, Next Hd → ∃ m', m' < m ∧ W (i + 1) m' Hd) ∧
      ∀ x Hd, (Itt K a).yld i Hc x Hd → gName j x (wipe σ vs) Hd fun σ' He => wipe σ' vs = wipe σ vs ∧ te σ' He fun y Hf =>
        ∃ (k : Int) (S : Int → Bool) (n : Nat), y = .int k ∧ Hf Z = some (SetO w Z S n) ∧ n + 1 < scanBound ∧ Next (upd Hf Z (SetO w Z (fun j => S j || decide (j = k)) (if S k = true then n else n + 1)))) := by
  have line : scanBound = 4096 := rfl
  refine ⟨fun i m Hc => m = xs.length - i ∧ i ≤ xs.length ∧ Same H Hc ∧ ∃ S n, Hc Z = some (SetO w Z S n) ∧ n ≤ i ∧ (n = i ↔ ((xs.take i).map f).Nodup) ∧ ∀ v, S v = true ↔ v ∈ (xs.take i).map f,
    ⟨xs.length, rfl, Nat.zero_le _, same_new hZ, _, 0, upd_same, Nat.le_refl _, by simp, by simp⟩, ?_⟩
  rintro i m Hc ⟨rfl, hi, sm, S, n, hS, le, iff, mem⟩
  have at_a := Same.seqT sm hx
  by_cases lt : i < xs.length
  · refine .inr ⟨⟨xs, xs[i], at_a, List.getElem?_eq_getElem lt⟩, fun Hd => Same H Hd ∧ ∃ S n, Hd Z = some (SetO w Z S n) ∧ n ≤ i + 1 ∧ (n = i + 1 ↔ ((xs.take (i + 1)).map f).Nodup) ∧ ∀ v, S v = true ↔ v ∈ (xs.take (i + 1)).map f,
      fun Hd h => ⟨xs.length - (i + 1), by omega, rfl, lt, h⟩, ?_⟩
    rintro x Hd ⟨rfl, hy⟩
    have gx := hy xs at_a
    have ex := Option.some.inj ((List.getElem?_eq_getElem lt).symm.trans gx)
    have s := hs x (List.mem_of_getElem? gx)
    refine ⟨s.wip, s.elt rfl Hd sm _ fun He se => ⟨f x, S, n, rfl, se Z _ hS, by omega, fun b o e => ?_, _, _, upd_same, ?_, ?_, fun v => ?_⟩⟩
    · rw [upd_ne (ne_of_none e hZ)]
      exact se b o (sm b o e)
    · split <;> omega
    · have et : xs.take (i + 1) = xs.take i ++ [x] := by
        rw [List.take_add_one, gx]
        rfl
      rw [et, List.map_append, List.nodup_append]
      have hm := mem (f x)
      constructor
      · intro h
        by_cases c : S (f x) = true
        · rw [if_pos c] at h
          omega
        · rw [if_neg c] at h
          refine ⟨iff.mp (by omega), by simp, fun p hp q hq => ?_⟩
          have eq : q = f x := by simpa using hq
          rw [eq]
          intro e
          rw [e] at hp
          exact c (hm.mpr hp)
      · rintro ⟨h1, _, h3⟩
        have c : ¬ S (f x) = true := fun c => h3 _ (hm.mp c) _ (by simp) rfl
        rw [if_neg c, iff.mpr h1]
    · have et : xs.take (i + 1) = xs.take i ++ [x] := by
        rw [List.take_add_one, gx]
        rfl
      rw [et, List.map_append, List.mem_append, Bool.or_eq_true, decide_eq_true_eq, mem v]
      simp
  · have e : i = xs.length := by omega
    subst e
    rw [List.take_length] at iff mem
    exact .inl ⟨⟨xs, at_a, Nat.le_refl _⟩, k Hc S n sm hS iff mem⟩

/-! ### things -/
inductive Plain (H : Hp) : V → Prop where
  | non : Plain H .non
  | bl (b : Bool) : Plain H (.bl b)
  | int (i : Int) : Plain H (.int i)
  | str (s : Str) : Plain H (.str s)
  | lst {a : Addr} {xs : List V} (h : H a = some (.lst xs)) : Plain H (.ref a)
  | tup {a : Addr} {xs : List V} (h : H a = some (.tup xs)) : Plain H (.ref a)
def isIntV : V → Bool
  | .int _ => true
  | _ => false
def isNumV : V → Bool
  | .int _ => true
  | .bl _ => true
  | _ => false
def isBlV : V → Bool
  | .bl _ => true
  | _ => false
theorem whole_V (x : V) : isIntV x = (isNumV x && !isBlV x) := by cases x <;> rfl
theorem plain_ty {K : PySem.W.Frag} {H : Hp} {x : V} (h : Plain H x) : ∃ s, TyX K H x (.type s) ∧ PySem.W.kitOne K (.type s) (.type "int") = some (isNumV x) ∧ PySem.W.kitOne K (.type s) (.type "bool") = some (isBlV x) := by
  cases h with
  | non => exact ⟨_, .base .non, kit_ty (by decide +kernel), kit_ty (by decide +kernel)⟩
  | bl b => exact ⟨_, .base (.bl b), kit_ty (by show kitB "bool" "int" = some true; decide +kernel), kit_ty (by show kitB "bool" "bool" = some true; decide +kernel)⟩
  | int i => exact ⟨_, .base (.int i), kit_ty (by show kitB "int" "int" = some true; decide +kernel), kit_ty (by show kitB "int" "bool" = some false; decide +kernel)⟩
  | str s => exact ⟨_, .base (.str s), kit_ty (by show kitB "str" "int" = some false; decide +kernel), kit_ty (by show kitB "str" "bool" = some false; decide +kernel)⟩
  | lst e => exact ⟨_, .base (.lst e), kit_ty (by show kitB "list" "int" = some false; decide +kernel), kit_ty (by show kitB "list" "bool" = some false; decide +kernel)⟩
  | tup e => exact ⟨_, .base (.tup e), kit_ty (by show kitB "tuple" "int" = some false; decide +kernel), kit_ty (by show kitB "tuple" "bool" = some false; decide +kernel)⟩
def absI (n : Int) : Int := if n < 0 then -n else n
def markV : V → Bool
  | .int i => decide (1 ≤ absI i) && decide (absI i ≤ 1000000000000)
  | _ => false
theorem int_of {x : V} (h : isIntV x = true) : ∃ i, x = .int i := by
  cases x <;> first | exact ⟨_, rfl⟩ | exact Bool.noConfusion h
theorem mark_no {x : V} (h : isIntV x = false) : markV x = false := by
  cases x <;> first | rfl | exact Bool.noConfusion h

def spWhole : Sp := fun vs H Q _ => ∃ x, vs = [x] ∧ Plain H x ∧ Q (.bl (isIntV x)) H
def spMark : Sp := fun vs H Q _ => ∃ x, vs = [x] ∧ Plain H x ∧ Q (.bl (markV x)) H
section
variable {P : Program} {w : World} {K : PySem.W.Frag} {mg : Str → Option Value} {base : Heap}
theorem has_whole (T : Top K mg) : Has P w K mg base 1 "is_whole" ["thing"] spWhole := by
  refine has_of T.d_is_whole sc_is_whole bd_is_whole (fun vs H Q E h => ?_) (fun f cdv A outer s H vs Q E hr h => ?_)
  · obtain ⟨x, rfl, _⟩ := h
    rfl
  · have hu := hu_of hr
    have nd := sc_is_whole.nd
    obtain ⟨x, rfl, hx, k⟩ := h
    refine ⟨_, (pss_one (ps_ret (pe_and (pe_callB call_isi (by rfl) T.b_isinstance (by decide +kernel) (pa_cons (pv 0) (pa_cons (pe_bltn (v := .ty "int") (u := .type "int") (by rfl) T.b_int (by decide +kernel) (by rfl)) pa_nil))) (pe_one (pe_not (pe_callB call_isi (by rfl) T.b_isinstance (by decide +kernel) (pa_cons (pv 0) (pa_cons (pe_bltn (v := .ty "bool") (u := .type "bool") (by rfl) T.b_bool (by decide +kernel) (by rfl)) pa_nil)))))))), ?_⟩
    obtain ⟨s, ty, e1, e2⟩ := plain_ty (K := K) hx
    refine ⟨_, rfl, x, .ty "int", _, _, _, rfl, .ty _, ty, e1, _, rfl, ?_⟩
    rw [whole_V] at k
    cases hb : isNumV x with
    | false =>
      rw [hb] at k
      exact iteF k
    | true =>
      rw [hb] at k
      refine iteT ⟨_, rfl, x, .ty "bool", _, _, _, rfl, .ty _, ty, e2, _, rfl, ?_⟩
      exact k
theorem has_mark (T : Top K mg) (h_is_whole : Has P w K mg base 1 "is_whole" ["thing"] spWhole) : Has P w K mg base 2 "is_mark" ["thing"] spMark := by
  refine has_of T.d_is_mark sc_is_mark bd_is_mark (fun vs H Q E h => ?_) (fun f cdv A outer s H vs Q E hr h => ?_)
  · obtain ⟨x, rfl, _⟩ := h
    rfl
  · have hu := hu_of hr
    have nd := sc_is_mark.nd
    obtain ⟨x, rfl, hx, k⟩ := h
    refine ⟨_, (pss_one (ps_ret (pe_and (pe_has h_is_whole (hr.mono (by omega)) (by rfl) (pa_cons (pv 0) pa_nil)) (pe_one (pe_chain op_le op_le pe_int (pe_callB call_abs (by rfl) T.b_abs (by decide +kernel) (pa_cons (pv 0) pa_nil)) (pe_const T.c_GREATEST_NAME (by rfl))))))), ?_⟩
    refine ⟨_, rfl, x, rfl, hx, _, rfl, ?_⟩
    cases hb : isIntV x with
    | false =>
      rw [mark_no hb] at k
      exact iteF k
    | true =>
      obtain ⟨i, rfl⟩ := int_of hb
      refine iteT ⟨_, rfl, i, rfl, _, _, rfl, rfl, _, rfl, ?_⟩
      have k' : Q (.bl (decide (1 ≤ absI i) && decide (absI i ≤ 1000000000000))) H := k
      refine ite2 (fun h1 => ?_) (fun h1 => ?_)
      · have h1' : decide (1 ≤ absI i) = true := h1
        rw [h1'] at k'
        exact ⟨_, _, rfl, rfl, k'⟩
      · have h1' : decide (1 ≤ absI i) = false := Bool.eq_false_iff.mpr h1
        rw [h1'] at k'
        exact k'
end

/-! ### what may be asked -/
/-- a thing whose items, where it is a tuple, are plain -/
structure Ask (H : Hp) (x : V) : Prop where
  pl : Plain H x
  it : ∀ a xs, x = .ref a → H a = some (.tup xs) → (∀ y ∈ xs, Plain H y) ∧ xs.length ≤ 80
theorem Plain.same {H H' : Hp} {x : V} (s : Same H H') (h : Plain H x) : Plain H' x := by
  cases h with
  | non => exact .non
  | bl b => exact .bl b
  | int i => exact .int i
  | str z => exact .str z
  | lst e => exact .lst (s _ _ e)
  | tup e => exact .tup (s _ _ e)
/-- the absolute value of a mark -/
def absOf : V → Int
  | .int i => absI i
  | _ => 0
def tupB (xs : List V) : Bool := decide (xs.length ≤ 64) && (xs.all markV && decide ((xs.map absOf).Nodup))
def clauseB (H : Hp) : V → Bool
  | .ref a => match H a with
    | some (.tup xs) => tupB xs
    | _ => false
  | _ => false
theorem clauseB_tup {H : Hp} {a : Addr} {xs : List V} (h : H a = some (.tup xs)) : clauseB H (.ref a) = tupB xs := by
  show (match H a with | some (.tup xs) => tupB xs | _ => false) = _
  rw [h]
/-- a plain thing is a tuple, or nothing of the kind -/
theorem plain_tup {K : PySem.W.Frag} {H : Hp} {x : V} (h : Plain H x) : (∃ a xs, x = .ref a ∧ H a = some (.tup xs)) ∨ (clauseB H x = false ∧ ∃ s, TyX K H x (.type s) ∧ PySem.W.kitOne K (.type s) (.type "tuple") = some false) := by
  cases h with
  | non => exact .inr ⟨rfl, _, .base .non, kit_ty (by decide +kernel)⟩
  | bl b => exact .inr ⟨rfl, _, .base (.bl b), kit_ty (by show kitB "bool" "tuple" = some false; decide +kernel)⟩
  | int i => exact .inr ⟨rfl, _, .base (.int i), kit_ty (by show kitB "int" "tuple" = some false; decide +kernel)⟩
  | str s => exact .inr ⟨rfl, _, .base (.str s), kit_ty (by show kitB "str" "tuple" = some false; decide +kernel)⟩
  | @lst a xs e =>
    refine .inr ⟨?_, _, .base (.lst e), kit_ty (by show kitB "list" "tuple" = some false; decide +kernel)⟩
    show (match H a with | some (.tup xs) => tupB xs | _ => false) = false
    rw [e]
  | tup e => exact .inl ⟨_, _, rfl, e⟩
def spClause : Sp := fun vs H Q _ => ∃ x, vs = [x] ∧ Ask H x ∧ ∀ H', Same H H' → Q (.bl (clauseB H x)) H'
section
variable {P : Program} {w : World} {K : PySem.W.Frag} {mg : Str → Option Value} {base : Heap}
theorem mark_abs {x : V} (h : markV x = true) : ∃ i, x = .int i := by
  cases x <;> first | exact ⟨_, rfl⟩ | exact Bool.noConfusion h
theorem no_bad : ∀ xs : List V, ((xs.filter fun x => !markV x).map fun x => x).isEmpty = xs.all markV
  | [] => rfl
  | y :: ys => by
    have ih := no_bad ys
    cases hy : markV y with
    | true =>
      rw [List.filter_cons, if_neg (by rw [hy]; decide), ih, List.all_cons, hy, Bool.true_and]
    | false =>
      rw [List.filter_cons, if_pos (by rw [hy]; rfl), List.all_cons, hy, Bool.false_and]
      rfl
theorem abs_ints : ∀ xs : List V, xs.all markV = true → (xs.filter (fun _ => true)).map (fun x => V.int (absOf x)) = (xs.map absOf).map V.int := fun xs _ => by
  rw [filter_all, List.map_map]
  rfl
theorem has_clause (T : Top K mg) (h_is_mark : Has P w K mg base 2 "is_mark" ["thing"] spMark) : Has P w K mg base 3 "is_clause" ["thing"] spClause := by
  refine has_of T.d_is_clause sc_is_clause bd_is_clause (fun vs H Q E h => ?_) (fun f cdv A outer s H vs Q E hr h => ?_)
  · obtain ⟨x, rfl, _⟩ := h
    rfl
  · have hu := hu_of hr
    have nd := sc_is_clause.nd
    obtain ⟨x, rfl, hx, k⟩ := h
    refine ⟨_, (pss_cons (ps_if (PW.pt (pw_or (pt_not (pt_val (pe_callB call_isi (by rfl) T.b_isinstance (by decide +kernel) (pa_cons (pv 0) (pa_cons (pe_bltn (v := .ty "tuple") (u := .type "tuple") (by rfl) T.b_tuple (by decide +kernel) (by rfl)) pa_nil))))) (pw_or1 (pt_cmpR op_gt (pe_callB call_len_seq (by rfl) T.b_len (by decide +kernel) (pa_cons (pv 0) pa_nil)) (pe_const T.c_MOST_MARKS (by rfl)) (nomark _))))) (pss_one (ps_ret pe_bl)) pss_nil)
    (pss_cons (ps_if (pt_not (pt_val (pe_callB (cr_all rfl) (by rfl) T.b_all (by decide +kernel) (pa_cons (pe_lc (own := [("mark", 1)]) (by rfl) nd (pi_tup (pv 0)) (blkOk_by (own := [("mark", 1)]) (N := nm_is_clause) (sc := defScope s_is_clause) (by decide +kernel)) (fun _ _ _ _ _ => pg_name (i := 1) nd rfl (.inl rfl)) (fun _ _ _ _ _ => pts_nil) (fun _ _ _ _ _ => (pe_has h_is_mark (hr.mono (by omega)) (by rfl) (pa_cons (pv 1) pa_nil)))) pa_nil)))) (pss_one (ps_ret pe_bl)) pss_nil)
    (pss_one (ps_ret (pe_cmpR op_eq (pe_callB call_lenS (by rfl) T.b_len (by decide +kernel) (pa_cons (pe_scI (own := [("mark", 1)]) (by rfl) nd (pi_tup (pv 0)) (blkOk_by (own := [("mark", 1)]) (N := nm_is_clause) (sc := defScope s_is_clause) (by decide +kernel)) (fun _ _ _ _ _ => pg_name (i := 1) nd rfl (.inl rfl)) (fun _ _ _ _ _ => (pe_callB call_abs (by rfl) T.b_abs (by decide +kernel) (pa_cons (pv 1) pa_nil)))) pa_nil)) (pe_callB call_len_seq (by rfl) T.b_len (by decide +kernel) (pa_cons (pv 0) pa_nil)) (nomark _)))))), ?_⟩
    rcases plain_tup (K := K) hx.pl with ⟨a, xs, rfl, ha⟩ | ⟨no, ty, t1, t2⟩
    · obtain ⟨pl, few⟩ := hx.it a xs rfl ha
      have k' := k
      rw [clauseB_tup ha] at k'
      refine ⟨_, rfl, .ref a, .ty "tuple", _, _, true, rfl, .ty _, .base (.tup ha), kit_ty (by decide +kernel), true, rfl, iteF ?_⟩
      refine ⟨_, rfl, a, xs, rfl, .inr (SqT.of ha), _, _, rfl, rfl, _, rfl, ite2 (fun big => ?_) (fun big => ?_)⟩
      · have e : tupB xs = false := by
          have b : (64 : Int) < (xs.length : Int) := of_decide_eq_true big
          unfold tupB
          rw [decide_eq_false (by omega), Bool.false_and]
        rw [e] at k'
        exact k' H (Same.refl H)
      · have b : ¬ (64 : Int) < (xs.length : Int) := fun z => big (decide_eq_true z)
        have e1 : decide (xs.length ≤ 64) = true := decide_eq_true (by omega)
        refine ⟨_, rfl, a, rfl, ⟨xs, SqT.of ha⟩, fun D hD => lc_sel_tup (fun _ => true) (fun x => .bl (markV x)) (SqT.of ha) hD (by omega) (fun x hm => ?_) fun H1 s1 h1 => ?_⟩
        · exact ⟨rfl, fun H' s' R q => q H' (Same.refl _), fun _ H' s' R q => ⟨_, rfl, x, rfl, (pl x hm).same s', q H' (Same.refl _)⟩⟩
        have eb : (xs.filter (fun _ => true)).map (fun x => V.bl (markV x)) = (xs.map markV).map V.bl := by
          rw [filter_all, List.map_map]
          rfl
        rw [eb] at h1
        refine ⟨D, xs.map markV, rfl, SqL.of h1, _, rfl, ?_⟩
        have ea : (xs.map markV).all id = xs.all markV := by
          rw [List.all_map]
          rfl
        rw [ea]
        cases hm : xs.all markV with
        | false =>
          have e : tupB xs = false := by
            unfold tupB
            rw [hm, Bool.false_and, Bool.and_false]
          rw [e] at k'
          exact iteT (k' H1 s1)
        | true =>
          have e : tupB xs = decide ((xs.map absOf).Nodup) := by
            unfold tupB
            rw [hm, Bool.true_and, e1, Bool.true_and]
          rw [e] at k'
          refine iteF ⟨_, rfl, a, rfl, ⟨xs, SqT.of (s1 _ _ ha)⟩, fun Z hZ => scI_tup absOf (SqT.of (s1 _ _ ha)) hZ (by omega) (fun x hx2 => ?_) fun H2 S n s2 h2 iff _ => ?_⟩
          · obtain ⟨i, rfl⟩ := mark_abs (List.all_eq_true.mp hm x hx2)
            exact ⟨rfl, fun H' s' R q => q H' (Same.refl _), fun _ H' s' R q => ⟨_, rfl, i, rfl, q H' (Same.refl _)⟩⟩
          · refine ⟨Z, S, n, rfl, h2, _, rfl, a, xs, rfl, .inr (SqT.of (s2 _ _ (s1 _ _ ha))), rfl, ?_⟩
            have ed : decide (V.int (n : Nat) = V.int (xs.length : Nat)) = decide ((xs.map absOf).Nodup) := by
              by_cases c : n = xs.length
              · rw [decide_eq_true (iff.mp c), decide_eq_true]
                rw [c]
              · rw [decide_eq_false fun z => c (iff.mpr z), decide_eq_false]
                intro z
                exact c (Int.ofNat.inj (V.int.inj z))
            rw [ed]
            exact k' H2 (s1.trans s2)
    · rw [no] at k
      exact ⟨_, rfl, x, .ty "tuple", _, _, false, rfl, .ty _, t1, t2, false, rfl, iteT (iteT (k H (Same.refl H)))⟩
end

/-! ### marks of unlike names -/
def nas (l : List Int) : List Nat := l.map Int.natAbs
structure Un (ms : List Int) : Prop where
  nd : (nas ms).Nodup
  nz : ∀ x ∈ ms, x ≠ 0
  lim : ∀ x ∈ ms, x.natAbs ≤ 10 ^ 12
theorem Un.nodup {ms : List Int} (h : Un ms) : ms.Nodup := by
  have := h.nd
  unfold nas at this
  exact (List.pairwise_map.mp this).imp fun h e => h (by rw [e])
theorem nas_one : ∀ {l : List Int}, (nas l).Nodup → ∀ x ∈ l, ∀ y ∈ l, x.natAbs = y.natAbs → x = y
  | a :: r, h, x, hx, y, hy, e => by
    have h' := List.nodup_cons.mp (show (a.natAbs :: nas r).Nodup from h)
    rcases List.mem_cons.mp hx with rfl | hx'
    · rcases List.mem_cons.mp hy with rfl | hy'
      · rfl
      · exact absurd (show x.natAbs ∈ nas r from List.mem_map.mpr ⟨y, hy', e.symm⟩) h'.1
    · rcases List.mem_cons.mp hy with rfl | hy'
      · exact absurd (show y.natAbs ∈ nas r from List.mem_map.mpr ⟨x, hx', e⟩) h'.1
      · exact nas_one h'.2 x hx' y hy' e
theorem Un.con {ms : List Int} (h : Un ms) {x : Int} (hx : x ∈ ms) : -x ∉ ms := fun z => by
  have e := nas_one h.nd x hx (-x) z (by omega)
  have := h.nz x hx
  omega
theorem Un.of_perm {ms ys : List Int} (h : Un ms) (p : (nas ys).Perm (nas ms)) : Un ys := by
  refine ⟨(p.nodup_iff).mpr h.nd, fun x hx z => ?_, fun x hx => ?_⟩
  · subst z
    have := p.mem_iff.mp (List.mem_map.mpr ⟨0, hx, rfl⟩)
    obtain ⟨y, hy, e⟩ := List.mem_map.mp this
    have := h.nz y hy
    omega
  · obtain ⟨y, hy, e⟩ := List.mem_map.mp (p.mem_iff.mp (List.mem_map.mpr ⟨x, hx, rfl⟩))
    have := h.lim y hy
    omega
/-- a clause of marks of these names -/
structure ClM (ms c : List Int) : Prop where
  nd : (nas c).Nodup
  sub : ∀ x ∈ c, ∃ y ∈ ms, x.natAbs = y.natAbs
theorem ClM.nodup {ms c : List Int} (h : ClM ms c) : c.Nodup := by
  have := h.nd
  unfold nas at this
  exact (List.pairwise_map.mp this).imp fun h e => h (by rw [e])
theorem ClM.nz {ms c : List Int} (h : ClM ms c) (u : Un ms) {x : Int} (hx : x ∈ c) : x ≠ 0 := by
  obtain ⟨y, hy, e⟩ := h.sub x hx
  have := u.nz y hy
  omega
theorem ClM.nil (ms : List Int) : ClM ms [] := ⟨List.nodup_nil, fun x hx => by cases hx⟩
theorem ClM.of_perm {ms ys ss : List Int} (h : Un ms) (p : (nas ys ++ nas ss).Perm (nas ms)) : ClM ms ys := by
  have n := (p.nodup_iff).mpr h.nd
  refine ⟨n.sublist (List.sublist_append_left _ _), fun x hx => ?_⟩
  obtain ⟨y, hy, e⟩ := List.mem_map.mp (p.mem_iff.mp (List.mem_append_left _ (List.mem_map.mpr ⟨x, hx, rfl⟩)))
  exact ⟨y, hy, e.symm⟩
theorem ClM.of_nas {ms c d : List Int} (h : ClM ms c) (e : nas d = nas c) : ClM ms d := by
  refine ⟨by rw [e]; exact h.nd, fun x hx => ?_⟩
  have : x.natAbs ∈ nas d := List.mem_map.mpr ⟨x, hx, rfl⟩
  rw [e] at this
  obtain ⟨y, hy, ey⟩ := List.mem_map.mp this
  obtain ⟨z, hz, ez⟩ := h.sub y hy
  exact ⟨z, hz, by omega⟩
theorem nas_snoc (l : List Int) (y : Int) : nas (l ++ [y]) = nas l ++ [y.natAbs] := by
  unfold nas
  rw [List.map_append]
  rfl
theorem erase_perm : ∀ (l : List Int) (r : Nat) (h : r < l.length), (l[r] :: l.eraseIdx r).Perm l
  | a :: t, 0, _ => List.Perm.refl _
  | a :: t, r + 1, h => (List.Perm.swap a _ _).trans ((List.perm_cons a).mpr (erase_perm t r (by simpa using h)))
theorem perm_move {ys ss : List Int} {r : Nat} (hr : r < ss.length) {y : Int} (e : y.natAbs = ss[r].natAbs) : (nas (ys ++ [y]) ++ nas (ss.eraseIdx r)).Perm (nas ys ++ nas ss) := by
  rw [nas_snoc, e, List.append_assoc]
  refine List.Perm.append_left _ ?_
  have p := (erase_perm ss r hr).map Int.natAbs
  exact p
theorem dec61 : ∀ b : Fin 61, ∀ d : Fin 61, 0 < b.val → 0 < d.val → b.val * d.val % 61 ≠ 0 := by decide +kernel
theorem inj61 {B : Int} {i j : Nat} (h0 : 1 ≤ B) (h1 : B ≤ 60) (hi : i < 61) (hij : j < i) : B * (i : Int) % 61 ≠ B * (j : Int) % 61 := fun e => by
  have d := dec61 ⟨B.toNat, by omega⟩ ⟨i - j, by omega⟩ (by show 0 < B.toNat; omega) (by show 0 < i - j; omega)
  have s : B * (i : Int) = B * (j : Int) + B * ((i - j : Nat) : Int) := by
    rw [← Int.mul_add]
    congr 1
    omega
  have eB : ((B.toNat : Nat) : Int) = B := by omega
  have m : B * ((i - j : Nat) : Int) % 61 = 0 := by
    rw [s] at e
    generalize B * (j : Int) = x at e
    generalize B * ((i - j : Nat) : Int) = y at e ⊢
    omega
  apply d
  have : ((B.toNat * (i - j) % 61 : Nat) : Int) = 0 := by
    rw [Int.natCast_emod, Int.natCast_mul, eB]
    exact m
  exact Int.ofNat.inj this
theorem names_nd {z4 z2 B : Int} {n : Nat} (hz4 : 1 ≤ z4) (hz2 : 1 ≤ z2) (h0 : 1 ≤ B) (h1 : B ≤ 60) (hn : n ≤ 61) : (nas ((List.range n).map fun (i : Nat) => z4 + z2 * (B * (0 + (i : Int)) % 61))).Nodup ∧
    ∀ x ∈ (List.range n).map (fun (i : Nat) => z4 + z2 * (B * (0 + (i : Int)) % 61)), x ≠ 0 := by
  have pos : ∀ i : Nat, 0 ≤ z2 * (B * (0 + (i : Int)) % 61) := fun i => Int.mul_nonneg (by omega) (Int.emod_nonneg _ (by decide))
  refine ⟨?_, fun x hx => ?_⟩
  · unfold nas
    rw [List.map_map]
    refine List.pairwise_map.mpr ((List.pairwise_lt_range (n := n)).imp_of_mem fun {a b} ha hb hab e => ?_)
    have hb' := List.mem_range.mp hb
    have e' : z4 + z2 * (B * (0 + (a : Int)) % 61) = z4 + z2 * (B * (0 + (b : Int)) % 61) := by
      have e : (z4 + z2 * (B * (0 + (a : Int)) % 61)).natAbs = (z4 + z2 * (B * (0 + (b : Int)) % 61)).natAbs := e
      have p1 := pos a
      have p2 := pos b
      omega
    have e2 : B * (0 + (a : Int)) % 61 = B * (0 + (b : Int)) % 61 := by
      have e3 : z2 * (B * (0 + (a : Int)) % 61) = z2 * (B * (0 + (b : Int)) % 61) := by omega
      exact Int.eq_of_mul_eq_mul_left (by omega) e3
    rw [Int.zero_add, Int.zero_add] at e2
    exact inj61 h0 h1 (by omega) hab e2.symm
  · obtain ⟨i, _, rfl⟩ := List.mem_map.mp hx
    have := pos i
    omega
theorem names_lim {z4 z2 B : Int} {n : Nat} (h4 : z4 + z2 * 60 ≤ 10 ^ 12) (hz4 : 1 ≤ z4) (hz2 : 1 ≤ z2) : ∀ x ∈ (List.range n).map (fun (i : Nat) => z4 + z2 * (B * (0 + (i : Int)) % 61)), x.natAbs ≤ 10 ^ 12 := fun x hx => by
  obtain ⟨i, _, rfl⟩ := List.mem_map.mp hx
  have a : 0 ≤ z2 * (B * (0 + (i : Int)) % 61) := Int.mul_nonneg (by omega) (Int.emod_nonneg _ (by decide))
  have b : z2 * (B * (0 + (i : Int)) % 61) ≤ z2 * 60 := Int.mul_le_mul_of_nonneg_left (Int.le_of_lt_add_one (Int.emod_lt_of_pos _ (by decide))) (by omega)
  generalize z2 * (B * (0 + (i : Int)) % 61) = y at a b
  omega
theorem Tape.cs {H H' : Hp} {t c a : Addr} {n : Nat} {qs : List Addr} {cs : List (List Int)} (h : Tape H t c n) (e : Cs H a qs cs) (k : Kp t H H') : Cs H' a qs cs := by
  obtain ⟨ns, spot, left, tc, _⟩ := h
  exact e.kp tc.d k
theorem Cs.snoc {H : Hp} {a q : Addr} {qs : List Addr} {cs : List (List Int)} {c : List Int} (h : Cs H a qs cs) (hq : H q = some (.tup (c.map V.int))) : Cs (upd H a (.lst (qs.map V.ref ++ [.ref q]))) a (qs ++ [q]) (cs ++ [c]) := by
  have hn := h.n
  refine ⟨by rw [upd_same, List.map_append]; rfl, by rw [List.length_append, List.length_append, hn]; rfl, fun i p d hp hd => ?_⟩
  have g : H p = some (.tup (d.map V.int)) := by
    rcases getElem_snoc hp with ⟨_, e⟩ | ⟨e1, rfl⟩
    · rcases getElem_snoc hd with ⟨_, e2⟩ | ⟨e2, _⟩
      · exact h.t i p d e e2
      · omega
    · rcases getElem_snoc hd with ⟨e2, _⟩ | ⟨_, rfl⟩
      · omega
      · exact hq
  rw [upd_ne (ne_of g h.l (by intro z; cases z))]
  exact g
theorem ins_at {α : Type} {xs : List α} {x y : α} {j i : Nat} (hj : j ≤ xs.length) (h : (xs.take j ++ [x] ++ xs.drop j)[i]? = some y) : (i < j ∧ xs[i]? = some y) ∨ (i = j ∧ x = y) ∨ (j < i ∧ xs[i - 1]? = some y) := by
  have lt : (xs.take j).length = j := by
    rw [List.length_take]
    omega
  rcases Nat.lt_trichotomy i j with c | c | c
  · rw [List.append_assoc, List.getElem?_append_left (by omega), List.getElem?_take, if_pos c] at h
    exact .inl ⟨c, h⟩
  · subst c
    rw [List.append_assoc, List.getElem?_append_right (by omega), lt, Nat.sub_self] at h
    exact .inr (.inl ⟨rfl, Option.some.inj h⟩)
  · rw [List.getElem?_append_right (by rw [List.length_append, lt]; exact c), List.length_append, lt, List.getElem?_drop] at h
    refine .inr (.inr ⟨c, ?_⟩)
    rw [← h]
    congr 1
    show i - 1 = j + (i - (j + 1))
    omega
theorem Cs.insert {H : Hp} {a q : Addr} {qs : List Addr} {cs : List (List Int)} {c : List Int} {j : Nat} (h : Cs H a qs cs) (hj : j ≤ cs.length) (hq : H q = some (.tup (c.map V.int))) :
    Cs (upd H a (.lst ((qs.map V.ref).take j ++ [.ref q] ++ (qs.map V.ref).drop j))) a (qs.take j ++ [q] ++ qs.drop j) (cs.take j ++ [c] ++ cs.drop j) := by
  have hn := h.n
  refine ⟨by rw [upd_same, List.map_append, List.map_append, List.map_take, List.map_drop]; rfl, by simp only [List.length_append, List.length_take, List.length_drop, hn]; rfl, fun i p d hp hd => ?_⟩
  have g : H p = some (.tup (d.map V.int)) := by
    rcases ins_at (by omega) hp with ⟨c1, e⟩ | ⟨c1, rfl⟩ | ⟨c1, e⟩
    · rcases ins_at hj hd with ⟨_, e2⟩ | ⟨e2, _⟩ | ⟨e2, _⟩
      · exact h.t i p d e e2
      · omega
      · omega
    · rcases ins_at hj hd with ⟨e2, _⟩ | ⟨_, rfl⟩ | ⟨e2, _⟩
      · omega
      · exact hq
      · omega
    · rcases ins_at hj hd with ⟨e2, _⟩ | ⟨e2, _⟩ | ⟨_, e2⟩
      · omega
      · omega
      · exact h.t (i - 1) p d e e2
  rw [upd_ne (ne_of g h.l (by intro z; cases z))]
  exact g
def spFar : Sp := fun vs H Q _ => ∃ (t c : Addr) (m : Int) (n : Nat), vs = [.ref t, .int m] ∧ Tape H t c n ∧ n < 1000000 ∧ 0 ≤ m ∧ m ≤ 61 ∧
  ∀ (H' : Hp) (p : Addr) (ms : List Int), H p = none → H' p = some (.lst (ms.map V.int)) → ms.length = m.toNat → Un ms → Tape H' t c (n + 110) → Kp t H H' → Q (.ref p) H'
section
variable {P : Program} {w : World} {K : PySem.W.Frag} {mg : Str → Option Value} {base : Heap}
theorem has_far (T : Top K mg) (h__law_draw : Has P w K mg base 1 "_law_draw" ["_law_tape", "_law_many"] spDraw) (h__law_pick : Has P w K mg base 2 "_law_pick" ["_law_tape", "_law_some"] (spPick K)) :
    Has P w K mg base 3 "_law_far_marks" ["_law_tape", "_law_many"] spFar := by
  refine has_of T.d__law_far_marks sc__law_far_marks bd__law_far_marks (fun vs H Q E h => ?_) (fun f cdv A outer s H vs Q E hr h => ?_)
  · obtain ⟨t, c, m, n, rfl, _⟩ := h
    rfl
  · have hu := hu_of hr
    have nd := sc__law_far_marks.nd
    obtain ⟨t, c, m, n, rfl, tp, hn, hm0, hm1, k⟩ := h
    refine ⟨_, (pss_cons (ps_asg (pe_tup (pa_cons (pe_op op_add pe_int (pe_has h__law_draw (hr.mono (by omega)) (by rfl) (pa_cons (pv 0) (pa_cons pe_int pa_nil)))) (pa_cons (pe_has h__law_pick (hr.mono (by omega)) (by rfl) (pa_cons (pv 0) (pa_cons (pe_lst (pa_cons pe_int (pa_cons pe_int (pa_cons pe_int (pa_cons pe_int pa_nil))))) pa_nil))) pa_nil))) (pg_tup (by rfl) (pgs_cons (pg_name (i := 2) nd rfl (.inr rfl)) (pgs_cons (pg_name (i := 3) nd rfl (.inr rfl)) pgs_nil))))
    (pss_cons (ps_set (i := 4) nd rfl (.inr rfl) (pe_has h__law_pick (hr.mono (by omega)) (by rfl) (pa_cons (pv 0) (pa_cons (pe_lst (pa_cons pe_int (pa_cons pe_int (pa_cons pe_int (pa_cons (pe_op op_add pe_int (pe_has h__law_draw (hr.mono (by omega)) (by rfl) (pa_cons (pv 0) (pa_cons pe_int pa_nil)))) (pa_cons (pe_op op_sub (pe_op op_pow pe_int pe_int) (pe_op op_mul pe_int (pv 3))) pa_nil)))))) pa_nil))))
    (pss_cons (ps_asg (pe_tup (pa_cons (pe_lc (own := [("_law_k", 8)]) (by rfl) nd (pi_range1 (by rfl) T.b_range (pa_cons (pv 1) pa_nil)) (blkOk_by (own := [("_law_k", 8)]) (N := nm__law_far_marks) (sc := defScope s__law_far_marks) (by decide +kernel)) (fun _ _ _ _ _ => pg_name (i := 8) nd rfl (.inl rfl)) (fun _ _ _ _ _ => pts_nil) (fun _ _ _ _ _ => (pe_op op_add (pv 4) (pe_op op_mul (pv 3) (pe_op op_mod (pe_op op_mul (pv 2) (pv 8)) pe_int))))) (pa_cons (pe_has h__law_pick (hr.mono (by omega)) (by rfl) (pa_cons (pv 0) (pa_cons (pe_lst (pa_cons pe_int (pa_cons pe_int (pa_cons pe_int (pa_cons pe_int pa_nil))))) pa_nil))) pa_nil))) (pg_tup (by rfl) (pgs_cons (pg_name (i := 5) nd rfl (.inl rfl)) (pgs_cons (pg_name (i := 6) nd rfl (.inr rfl)) pgs_nil))))
    (pss_one (ps_ret (pe_lc (own := [("_law_name", 7)]) (by rfl) nd (pi_list (pv 5)) (blkOk_by (own := [("_law_name", 7)]) (N := nm__law_far_marks) (sc := defScope s__law_far_marks) (by decide +kernel)) (fun _ _ _ _ _ => pg_name (i := 7) nd rfl (.inl rfl)) (fun _ _ _ _ _ => pts_nil) (fun _ _ _ _ _ => (pe_ifExp (pt_cmpR op_lt (pe_has h__law_draw (hr.mono (by omega)) (by rfl) (pa_cons (pv 0) (pa_cons (pv 6) pa_nil))) (pe_op op_sub pe_int (pe_op op_fdivW (pv 6) pe_int)) (nomark _)) (pv 7) (pe_op op_sub pe_int (pv 7)))))))))), ?_⟩
    have cp : ∀ z : Int, 0 ≤ z → z ≤ 1000000 → CPow 10 z := fun z h0 h1 => ⟨h0, h1, by decide⟩
    refine ⟨_, rfl, t, c, _, n, rfl, tp, by omega, by decide, by decide +kernel, fun H1 r1 a1 b1 tp1 kp1 => ⟨_, _, rfl, rfl, _, rfl, by show 4 ≤ sizeLine; decide, fun d1 h1 => ?_⟩⟩
    refine ⟨t, c, d1, _, n + 1, rfl, tp1.new h1, by omega, fun H' kp => .inl (SqL.of (kp d1 _ upd_same (tp1.fresh h1))), by show 0 < 4; decide, by show 4 ≤ 1000000; decide, fun H2 i2 v2 g2 tp2 kp2 => ?_⟩
    obtain ⟨z2, rfl, m2⟩ := pick_int (zs := [1, 1, 7, 16000000]) g2
    have z2b : 1 ≤ z2 ∧ z2 ≤ 16000000 := by
      simp only [List.mem_cons, List.not_mem_nil, or_false] at m2
      omega
    refine ⟨by show 2 ≤ sizeLine; decide, fun q2 hq2 => ⟨q2, _, rfl, SqT.of upd_same, rfl, _, _, rfl, _, _, rfl, rfl, ?_⟩⟩
    have t2 := tp2.new (o := .tup [V.int (1 + r1), V.int z2]) hq2
    -- first
    refine ⟨_, rfl, _, rfl, t, c, _, n + 2, rfl, t2, by omega, by decide, by decide +kernel, fun H3 r3 a3 b3 tp3 kp3 => ⟨_, _, rfl, rfl, _, _, rfl, rfl, cp _ (by decide) (by decide), _, rfl, _, _, rfl, rfl, .inl ⟨by decide, by decide⟩, _, _, rfl, rfl, by show 5 ≤ sizeLine; decide, fun d3 h3 => ?_⟩⟩
    refine ⟨t, c, d3, _, n + 3, rfl, tp3.new h3, by omega, fun H' kp => .inl (SqL.of (kp d3 _ upd_same (tp3.fresh h3))), by show 0 < 5; decide, by show 5 ≤ 1000000; decide, fun H4 i4 v4 g4 tp4 kp4 => ?_⟩
    obtain ⟨z4, rfl, m4⟩ := pick_int (zs := [1, 5, 95, 1 + r3, 10 ^ (12 : Int).toNat - 60 * z2]) g4
    -- names
    refine ⟨_, rfl, m, rfl, by omega, by omega, fun D hD => lc_sel_range (lo := 0) (fun _ => true) (fun i => .int (z4 + z2 * ((1 + r1) * (0 + (i : Int)) % 61))) hD (by omega) (fun i hi => ?_) fun H5 s5 h5 => ?_⟩
    · exact ⟨rfl, fun H' s' R g => g H' (Same.refl _), fun _ H' s' R g => ⟨_, rfl, _, rfl, _, rfl, _, rfl, _, _, rfl, rfl, .inl ⟨by omega, by omega⟩, _, _, rfl, rfl, by show (0 : Int) < 61; decide, _, _, rfl, rfl, .inl ⟨by omega, by omega⟩, _, _, rfl, rfl, g H' (Same.refl _)⟩⟩
    rw [filter_all] at h5
    have h5 : H5 D = some (.lst (((List.range m.toNat).map fun (i : Nat) => z4 + z2 * ((1 + r1) * (0 + (i : Int)) % 61)).map V.int)) := by
      rw [h5, List.map_map]
      rfl
    have l5 : ((List.range m.toNat).map fun (i : Nat) => z4 + z2 * ((1 + r1) * (0 + (i : Int)) % 61)).length = m.toNat := by rw [List.length_map, List.length_range]
    have z4b : 1 ≤ z4 := by
      simp only [List.mem_cons, List.not_mem_nil, or_false] at m4
      have p12 : (10 : Int) ^ (12 : Int).toNat = 1000000000000 := by decide
      omega
    have z4c : z4 + z2 * 60 ≤ 10 ^ 12 := by
      simp only [List.mem_cons, List.not_mem_nil, or_false] at m4
      have p12 : (10 : Int) ^ (12 : Int).toNat = 1000000000000 := by decide
      omega
    have nnm := names_nd (z4 := z4) (z2 := z2) (B := 1 + r1) (n := m.toNat) z4b (by omega) (by omega) (by omega) (by omega)
    have nnl := names_lim (z4 := z4) (z2 := z2) (B := 1 + r1) (n := m.toNat) z4c z4b (by omega)
    generalize ((List.range m.toNat).map fun (i : Nat) => z4 + z2 * ((1 + r1) * (0 + (i : Int)) % 61)) = nm at h5 l5 nnm nnl
    have t5 := tp4.same s5
    refine ⟨_, rfl, by show 4 ≤ sizeLine; decide, fun d6 h6 => ?_⟩
    refine ⟨t, c, d6, _, n + 4, rfl, t5.new h6, by omega, fun H' kp => .inl (SqL.of (kp d6 _ upd_same (t5.fresh h6))), by show 0 < 4; decide, by show 4 ≤ 1000000; decide, fun H6 i6 v6 g6 tp6 kp6 => ?_⟩
    obtain ⟨z6, rfl, m6⟩ := pick_int (zs := [1, 2, 2, 3]) g6
    have z6b : 1 ≤ z6 ∧ z6 ≤ 3 := by
      simp only [List.mem_cons, List.not_mem_nil, or_false] at m6
      omega
    have k56 : Kp t H5 H6 := (Kp.new h6).trans kp6
    refine ⟨by show 2 ≤ sizeLine; decide, fun q7 hq7 => ⟨q7, _, rfl, SqT.of upd_same, rfl, _, _, rfl, _, _, rfl, rfl, ?_⟩⟩
    have t7 := tp6.new (o := .tup [V.ref D, V.int z6]) hq7
    have h7 := same_new (o := .tup [V.ref D, V.int z6]) hq7 _ _ (t5.sq h5 k56)
    have k07 : Kp t H (upd H6 q7 (.tup [V.ref D, V.int z6])) := kp1.trans ((Kp.new h1).trans (kp2.trans ((Kp.new hq2).trans (kp3.trans ((Kp.new h3).trans (kp4.trans ((Kp.same s5).trans (k56.trans (Kp.new hq7)))))))))
    generalize upd H6 q7 (.tup [V.ref D, V.int z6]) = H7 at t7 h7 k07
    -- signs
    refine ⟨_, rfl, D, rfl, ⟨_, SqL.of h7⟩, fun Z hZ => lc_list (xs := nm.map V.int) (fun i H' => Kp t H7 H' ∧ Tape H' t c (n + 5 + i) ∧ ∃ is : List Int, is.length = i ∧ nas is = nas (nm.take i) ∧ H' Z = some (.lst (is.map V.int))) ⟨Kp.new hZ, t7.new hZ, [], rfl, rfl, upd_same⟩ ?_ ?_ ?_⟩
    · rintro i H' _ ⟨kp, _, _⟩
      exact SqL.of (t7.sq h7 kp)
    · rintro i x H8 hi ⟨k8, t8, is, el, en, h8⟩
      obtain ⟨y, rfl, hy⟩ := int_at hi
      have li : i < nm.length := (List.getElem?_eq_some_iff.mp hy).1
      have nZt : Z ≠ t := t7.fresh hZ
      have nZc : Z ≠ c := t7.fresh_c hZ
      refine ⟨rfl, yes_go ⟨_, rfl, _, rfl, t, c, z6, n + 5 + i, rfl, t8, by omega, by omega, pow8000 (by omega), fun H9 r9 a9 b9 tp9 kp9 => ⟨_, rfl, _, _, rfl, rfl, ⟨by decide, by decide⟩, _, _, rfl, rfl, _, _, rfl, rfl, _, rfl, ?_⟩⟩⟩
      have h9 := kp9 Z _ h8 nZt
      have fin : ∀ y' : Int, y'.natAbs = y.natAbs → ∃ acc, H9 Z = some (.lst acc) ∧ acc.length < sizeLine ∧ Kp t H7 (upd H9 Z (.lst (acc ++ [V.int y']))) ∧ Tape (upd H9 Z (.lst (acc ++ [V.int y']))) t c (n + 5 + (i + 1)) ∧ ∃ is : List Int, is.length = i + 1 ∧ nas is = nas (nm.take (i + 1)) ∧ (upd H9 Z (.lst (acc ++ [V.int y']))) Z = some (.lst (is.map V.int)) := fun y' ey => by
        refine ⟨is.map V.int, h9, ?_, (k8.trans kp9).mut hZ, tp9.mut nZt nZc, is ++ [y'], by rw [List.length_append, el]; rfl, by rw [nas_snoc, en, take_snoc hy, nas_snoc, ey], ?_⟩
        · have line : 1000000 < sizeLine := by decide
          rw [List.length_map, el]
          omega
        · rw [upd_same, List.map_append]
          rfl
      refine ite2 (fun _ => ?_) (fun _ => ?_)
      · exact ⟨_, rfl, fin y rfl⟩
      · exact ⟨_, rfl, _, _, rfl, rfl, fin (0 - y) (by omega)⟩
    · rintro H8 ⟨k8, t8, is, el, en, h8⟩
      rw [List.length_map] at el t8
      rw [List.length_map, List.take_length] at en
      have un : Un is := Un.of_perm (ms := nm) ⟨nnm.1, nnm.2, nnl⟩ (by rw [en])
      exact k H8 Z is (k07.free hZ (t7.fresh hZ)) h8 (by omega) un (t8.le (by omega)) (k07.trans k8)
end
/-! ### drawn clauses -/
theorem erase_map : ∀ (l : List Int) (k : Nat), (l.map V.int).eraseIdx k = (l.eraseIdx k).map V.int
  | [], k => by simp
  | x :: r, 0 => rfl
  | x :: r, k + 1 => by
    show V.int x :: (r.map V.int).eraseIdx k = V.int x :: (r.eraseIdx k).map V.int
    rw [erase_map r k]
theorem flat_ints (l : List Int) : (l.map V.int).all flatV = true := by
  rw [List.all_map]
  exact List.all_eq_true.mpr fun _ _ => rfl
theorem wide_of {i : Nat} {v : V} (h : ((List.replicate (7 : Int).toNat [V.int 2]).flatten ++ (List.replicate (5 : Int).toNat [V.int 3]).flatten ++ [V.int 4, V.int 5, V.int 1])[i]? = some v) : ∃ z : Int, v = .int z ∧ 1 ≤ z ∧ z ≤ 5 := by
  have e : (List.replicate (7 : Int).toNat [V.int 2]).flatten ++ (List.replicate (5 : Int).toNat [V.int 3]).flatten ++ [V.int 4, V.int 5, V.int 1] = ([2, 2, 2, 2, 2, 2, 2, 3, 3, 3, 3, 3, 4, 5, 1] : List Int).map V.int := rfl
  rw [e] at h
  obtain ⟨z, ez, m⟩ := pick_int h
  refine ⟨z, ez, ?_⟩
  simp only [List.mem_cons, List.not_mem_nil, or_false] at m
  omega
def spSys : Sp := fun vs H Q _ => ∃ (t c p : Addr) (ms : List Int) (m : Int) (n : Nat), vs = [.ref t, .ref p, .int m] ∧ Tape H t c n ∧ n < 1000000 ∧ 0 ≤ m ∧ m ≤ 100 ∧ H p = some (.lst (ms.map V.int)) ∧ 1 ≤ ms.length ∧ ms.length ≤ 100 ∧ Un ms ∧
  ∀ (H' : Hp) (q : Addr) (qs : List Addr) (cs : List (List Int)), H q = none → Cs H' q qs cs → (∀ c ∈ cs, c.length ≤ 5 ∧ ClM ms c) → m.toNat ≤ cs.length ∧ cs.length ≤ m.toNat + 1 → Tape H' t c (n + 1200) → Kp t H H' → Q (.ref q) H'
section
variable {P : Program} {w : World} {K : PySem.W.Frag} {mg : Str → Option Value} {base : Heap}
theorem has_sys (T : Top K mg) (h__law_draw : Has P w K mg base 1 "_law_draw" ["_law_tape", "_law_many"] spDraw) (h__law_pick : Has P w K mg base 2 "_law_pick" ["_law_tape", "_law_some"] (spPick K)) :
    Has P w K mg base 3 "_law_system" ["_law_tape", "_law_marks", "_law_many"] spSys := by
  refine has_of T.d__law_system sc__law_system bd__law_system (fun vs H Q E h => ?_) (fun f cdv A outer s H vs Q E hr h => ?_)
  · obtain ⟨t, c, p, ms, m, n, rfl, _⟩ := h
    rfl
  · have hu := hu_of hr
    have nd := sc__law_system.nd
    obtain ⟨t, c, p, ms, m, n, rfl, tp, hn, hm0, hm1, hp, hl0, hl1, un, k⟩ := h
    refine ⟨_, (pss_cons (ps_par (i := 3) (j := 4) (by rfl) nd rfl rfl (by decide) rfl rfl (pa_cons (pe_cmpR op_eq (pe_has h__law_draw (hr.mono (by omega)) (by rfl) (pa_cons (pv 0) (pa_cons pe_int pa_nil))) pe_int (nomark _)) (pa_cons (pe_lst pa_nil) pa_nil)) (by rfl))
    (pss_cons (ps_for PassesOwn.never rfl (pi_range1 (by rfl) T.b_range (pa_cons (pv 2) pa_nil)) (pg_name (i := 5) nd rfl (.inl rfl))
      (pss_cons (ps_par (i := 6) (j := 7) (by rfl) nd rfl rfl (by decide) rfl rfl (pa_cons (pe_callTy call_list_of (by rfl) T.b_list (by decide +kernel) (pa_cons (pv 1) pa_nil)) (pa_cons (pe_lst pa_nil) pa_nil)) (by rfl))
    (pss_cons (ps_for PassesOwn.never rfl (pi_range1 (by rfl) T.b_range (pa_cons (pe_callB (call_min2 rfl) (by rfl) T.b_min (by decide +kernel) (pa_cons (pe_callB call_len_seq (by rfl) T.b_len (by decide +kernel) (pa_cons (pv 1) pa_nil)) (pa_cons (pe_has h__law_pick (hr.mono (by omega)) (by rfl) (pa_cons (pv 0) (pa_cons (pe_op op_cat (pe_op op_cat (pe_op op_rep (pe_lst (pa_cons pe_int pa_nil)) pe_int) (pe_op op_rep (pe_lst (pa_cons pe_int pa_nil)) pe_int)) (pe_lst (pa_cons pe_int (pa_cons pe_int (pa_cons pe_int pa_nil))))) pa_nil))) pa_nil))) pa_nil)) (pg_name (i := 8) nd rfl (.inl rfl))
      (pss_cons (ps_set (i := 9) nd rfl (.inl rfl) (pe_bm PySem.F.plainAttrs_list PySem.F.slot_list_pop PySem.F.type_list_pop mt_popAt (pv 6) (pa_cons (pe_has h__law_draw (hr.mono (by omega)) (by rfl) (pa_cons (pv 0) (pa_cons (pe_callB call_len_seq (by rfl) T.b_len (by decide +kernel) (pa_cons (pv 6) pa_nil)) pa_nil))) pa_nil)))
    (pss_one (ps_expr (pe_bm PySem.F.plainAttrs_list PySem.F.slot_list_append PySem.F.type_list_append mt_append (pv 7) (pa_cons (pe_has h__law_pick (hr.mono (by omega)) (by rfl) (pa_cons (pv 0) (pa_cons (pe_lst (pa_cons (pv 9) (pa_cons (pe_op op_sub pe_int (pv 9)) pa_nil))) pa_nil))) pa_nil))))))
    (C8.pss_cut (ps_if (PW.pt (pw_and (pt_val (pv 3)) (pw_and1 (pt_cmpR (op_eqNil hu) (pe_lc (own := [("_law_mark", 9)]) (by rfl) nd (pi_list (pv 7)) (blkOk_by (own := [("_law_mark", 9)]) (N := nm__law_system) (sc := defScope s__law_system) (by decide +kernel)) (fun _ _ _ _ _ => pg_name (i := 9) nd rfl (.inl rfl)) (fun _ _ _ _ _ => pts_one (pt_cmpR (op_inK (K := K) rfl) (pv 9) (pv 1) (by rfl))) (fun _ _ _ _ _ => (pv 9))) (pe_lst pa_nil) (nomark _))))) (pss_one (ps_asg (pe_op op_sub pe_int (pe_ix ix_list (pv 7) pe_int (fun _ _ => rfl))) (pg_sub (pv 7) pe_int set_list))) pss_nil)
    (pss_one (ps_expr (pe_bm PySem.F.plainAttrs_list PySem.F.slot_list_append PySem.F.type_list_append mt_append (pv 4) (pa_cons (pe_callTy call_tuple_of (by rfl) T.b_tuple (by decide +kernel) (pa_cons (pv 7) pa_nil)) pa_nil))))))))
    (C8.pss_cut (ps_if (pt_cmpR op_eq (pe_has h__law_draw (hr.mono (by omega)) (by rfl) (pa_cons (pv 0) (pa_cons pe_int pa_nil))) pe_int (nomark _)) (pss_one (ps_expr (pe_bm PySem.F.plainAttrs_list PySem.F.slot_list_insert PySem.F.type_list_insert mt_insert (pv 4) (pa_cons (pe_has h__law_draw (hr.mono (by omega)) (by rfl) (pa_cons (pv 0) (pa_cons (pe_op op_add (pv 2) pe_int) pa_nil))) (pa_cons (pe_tup pa_nil) pa_nil))))) pss_nil)
    (pss_one (ps_ret (pv 4)))))), ?_⟩
    have line : 1000000 < sizeLine := by decide
    have npt : p ≠ t := tp.ne_lst' hp
    refine ⟨_, rfl, t, c, _, n, rfl, tp, by omega, by decide, by decide +kernel, fun H1 r1 a1 b1 tp1 kp1 => ⟨rfl, by show 0 ≤ sizeLine; decide, fun F hF => ⟨_, _, rfl, ?_⟩⟩⟩
    have nFt : F ≠ t := tp1.fresh hF
    have nFc : F ≠ c := tp1.fresh_c hF
    have hp1 := tp.sq hp kp1
    have nFp : p ≠ F := ne_of_none hp1 hF
    -- the clauses, one by one
    refine ⟨_, rfl, m, rfl, by omega, by omega, for_range (lo := 0) (fun i σ H' => ∃ b v5 v6 v7 v8 v9 qs cs, σ = [some (.ref t), some (.ref p), some (.int m), some (.bl b), some (.ref F), v5, v6, v7, v8, v9] ∧ Kp t H1 H' ∧ Tape H' t c (n + 1 + 11 * i) ∧ Cs H' F qs cs ∧ cs.length = i ∧ ∀ c ∈ cs, c.length ≤ 5 ∧ ClM ms c)
      ⟨_, none, none, none, none, none, [], [], rfl, Kp.new hF, tp1.new hF, ⟨upd_same, rfl, fun i q c hq => by simp at hq⟩, rfl, fun c hc => by simp at hc⟩ ?_ ?_⟩
    · rintro i σ H2 hi ⟨b, v5, v6, v7, v8, v9, qs, cs, rfl, k2, t2, c2, l2, w2⟩
      have hp2 := tp1.sq hp1 k2
      -- some, clause
      refine ⟨_, rfl, p, _, rfl, .inl (SqL.of hp2), fun S hS => ⟨by show 0 ≤ sizeLine; decide, fun C hC => ⟨_, _, rfl, ?_⟩⟩⟩
      have nSC : S ≠ C := fun e => by
        rw [← e, upd_same] at hC
        cases hC
      have hC2 : H2 C = none := by
        rw [← hC, upd_ne nSC.symm]
      have t3 := (t2.new (o := .lst (ms.map V.int)) hS).new (o := .lst []) hC
      have k3 : Kp t H2 (upd (upd H2 S (.lst (ms.map V.int))) C (.lst [])) := (Kp.new hS).trans (Kp.new hC)
      have nSt : S ≠ t := t2.fresh hS
      have nSc : S ≠ c := t2.fresh_c hS
      have nCt : C ≠ t := t2.fresh hC2
      have nCc : C ≠ c := t2.fresh_c hC2
      have h3S : (upd (upd H2 S (.lst (ms.map V.int))) C (.lst [])) S = some (.lst (ms.map V.int)) := by
        rw [upd_ne nSC, upd_same]
      have h3C : (upd (upd H2 S (.lst (ms.map V.int))) C (.lst [])) C = some (.lst (([] : List Int).map V.int)) := upd_same
      generalize upd (upd H2 S (.lst (ms.map V.int))) C (.lst []) = H3 at t3 k3 h3S h3C
      have hp3 := t2.sq hp2 k3
      -- how many marks it has
      refine ⟨_, rfl, p, _, rfl, .inl (SqL.of hp3), _, rfl, by show 1 ≤ sizeLine; decide, fun e1 g1 => ⟨e1, 7, _, rfl, rfl, upd_same, by decide, by decide, by show 1 * 7 ≤ sizeLine; decide, fun e2 g2 => ⟨by show 1 ≤ sizeLine; decide, fun e3 g3 =>
        ⟨e3, 5, _, rfl, rfl, upd_same, by decide, by decide, by show 1 * 5 ≤ sizeLine; decide, fun e4 g4 => ?_⟩⟩⟩⟩
      have q2 : ∀ o3 o4, (upd (upd (upd (upd H3 e1 (.lst [V.int 2])) e2 (.lst (List.replicate (7 : Int).toNat [V.int 2]).flatten)) e3 o3) e4 o4) e2 = some (.lst (List.replicate (7 : Int).toNat [V.int 2]).flatten) → True := fun _ _ _ => trivial
      have u1 := t3.new (o := .lst [V.int 2]) g1
      have u2 := u1.new (o := .lst (List.replicate (7 : Int).toNat [V.int 2]).flatten) g2
      have u3 := u2.new (o := .lst [V.int 3]) g3
      have u4 := u3.new (o := .lst (List.replicate (5 : Int).toNat [V.int 3]).flatten) g4
      have f2 := same_new (o := .lst (List.replicate (5 : Int).toNat [V.int 3]).flatten) g4 _ _ (same_new (o := .lst [V.int 3]) g3 e2 _ upd_same)
      refine ⟨e2, e4, _, _, rfl, rfl, f2, upd_same, by show 7 + 5 ≤ sizeLine; decide, fun e5 g5 => ⟨by show 3 ≤ sizeLine; decide, fun e6 g6 => ?_⟩⟩
      have u5 := u4.new (o := .lst ((List.replicate (7 : Int).toNat [V.int 2]).flatten ++ (List.replicate (5 : Int).toNat [V.int 3]).flatten)) g5
      have u6 := u5.new (o := .lst [V.int 4, V.int 5, V.int 1]) g6
      have f5 := same_new (o := .lst [V.int 4, V.int 5, V.int 1]) g6 e5 _ upd_same
      refine ⟨e5, e6, _, _, rfl, rfl, f5, upd_same, by show 12 + 3 ≤ sizeLine; decide, fun e7 g7 => ?_⟩
      have u7 := u6.new (o := .lst ((List.replicate (7 : Int).toNat [V.int 2]).flatten ++ (List.replicate (5 : Int).toNat [V.int 3]).flatten ++ [V.int 4, V.int 5, V.int 1])) g7
      refine ⟨t, c, e7, _, n + 1 + 11 * i, rfl, u7, by omega, fun H' kp => .inl (SqL.of (kp e7 _ upd_same (u6.fresh g7))), by show 0 < 15; decide, by show 15 ≤ 1000000; decide, fun H4 i4 v4 g4' tp4 kp4 => ?_⟩
      obtain ⟨z, rfl, za, zb⟩ := wide_of g4'
      have k34 : Kp t H3 H4 := (Kp.new g1).trans ((Kp.new g2).trans ((Kp.new g3).trans ((Kp.new g4).trans ((Kp.new g5).trans ((Kp.new g6).trans ((Kp.new g7).trans kp4))))))
      have k24 := k3.trans k34
      rw [List.length_map]
      refine ⟨_, _, rfl, _, rfl, by split <;> omega, by split <;> omega, for_range (lo := 0) (fun j σ H' => ∃ v8 v9 ss ys, σ = [some (.ref t), some (.ref p), some (.int m), some (.bl b), some (.ref F), some (.int (0 + i)), some (.ref S), some (.ref C), v8, v9] ∧ Kp t H2 H' ∧ Tape H' t c (n + 2 + 11 * i + 2 * j) ∧
        H' S = some (.lst ((ss : List Int).map V.int)) ∧ ss.length + j = ms.length ∧ H' C = some (.lst ((ys : List Int).map V.int)) ∧ ys.length = j ∧ (nas ys ++ nas ss).Perm (nas ms)) ⟨v8, v9, ms, [], rfl, k24, tp4.le (by omega), t3.sq h3S k34, by omega, t3.sq h3C k34, rfl, List.Perm.refl _⟩ ?_ ?_⟩
      · rintro j σ H5 hj ⟨w8, w9, ss, ys, rfl, k5, t5, h5S, l5, h5C, m5, pm⟩
        have hj2 : j < ms.length ∧ j < 5 := by
          split at hj <;> omega
        have ps : 0 < ss.length := by omega
        refine ⟨_, rfl, .inl ⟨rfl, _, SqL.of h5S⟩, _, rfl, _, rfl, S, _, rfl, .inl (SqL.of h5S), t, c, _, _, rfl, t5, by omega, by rw [List.length_map]; omega, pow8000 (by rw [List.length_map]; omega), fun H6 r6 a6 b6 tp6 kp6 => ?_⟩
        rw [List.length_map] at b6
        have l6 : r6.toNat < ss.length := by omega
        refine ⟨S, _, r6, r6.toNat, .int ss[r6.toNat], rfl, rfl, t5.sq h5S kp6, by omega, by omega, seq_in a6 (by rw [List.length_map]; exact b6), by rw [List.getElem?_map, List.getElem?_eq_getElem l6]; rfl, ?_⟩
        rw [erase_map]
        generalize emk : ss[r6.toNat] = mk
        have h6C := t5.sq h5C kp6
        have k6 := (k5.trans kp6).mut (o := .lst ((ss.eraseIdx r6.toNat).map V.int)) hS
        have t6 := tp6.mut (o := .lst ((ss.eraseIdx r6.toNat).map V.int)) nSt nSc
        have h6S : (upd H6 S (.lst ((ss.eraseIdx r6.toNat).map V.int))) S = some (.lst ((ss.eraseIdx r6.toNat).map V.int)) := upd_same
        have h6C : (upd H6 S (.lst ((ss.eraseIdx r6.toNat).map V.int))) C = some (.lst (ys.map V.int)) := by
          rw [upd_ne nSC.symm]
          exact h6C
        generalize upd H6 S (.lst ((ss.eraseIdx r6.toNat).map V.int)) = H7 at k6 t6 h6S h6C
        refine ⟨_, rfl, .inl ⟨rfl, _, SqL.of h6C⟩, _, rfl, _, rfl, _, rfl, _, _, rfl, rfl, by show 2 ≤ sizeLine; decide, fun e8 g8 => ?_⟩
        refine ⟨t, c, e8, _, _, rfl, t6.new g8, by omega, fun H' kp => .inl (SqL.of (kp e8 _ upd_same (t6.fresh g8))), by show 0 < 2; decide, by show 2 ≤ 1000000; decide, fun H8 i8 v8' g8' tp8 kp8 => ?_⟩
        have k78 : Kp t H7 H8 := (Kp.new g8).trans kp8
        obtain ⟨y8, rfl, my8⟩ := pick_int (zs := [mk, 0 - mk]) g8'
        have ey8 : y8.natAbs = ss[r6.toNat].natAbs := by
          simp only [List.mem_cons, List.not_mem_nil, or_false] at my8
          rw [emk]
          omega
        have h8C := t6.sq h6C k78
        refine ⟨C, _, _, rfl, rfl, h8C, by rw [List.length_map]; omega, _, _, ss.eraseIdx r6.toNat, ys ++ [y8], rfl, (k6.trans k78).mut hC2, (tp8.mut nCt nCc).le (by omega), ?_, ?_, ?_, ?_, (perm_move l6 ey8).trans pm⟩
        · rw [upd_ne nSC]
          exact t6.sq h6S k78
        · rw [List.length_eraseIdx, if_pos l6]
          omega
        · rw [upd_same, List.map_append]
          rfl
        · rw [List.length_append, m5]
          rfl
      · rintro σ H5 ⟨w8, w9, ss, ys, rfl, k5, t5, h5S, l5, h5C, m5, pm⟩
        have m6 : 1 ≤ ys.length ∧ ys.length ≤ 5 := by
          rw [m5]
          split <;> omega
        have t5 : Tape H5 t c (n + 12 + 11 * i) := t5.le (by omega)
        have cm := ClM.of_perm un pm
        -- the kept ones
        refine ⟨fun σ' H' => ∃ ys : List Int, σ' = [some (.ref t), some (.ref p), some (.int m), some (.bl b), some (.ref F), some (.int (0 + i)), some (.ref S), some (.ref C), w8, w9] ∧ Kp t H2 H' ∧ Tape H' t c (n + 12 + 11 * i) ∧ H' C = some (.lst (ys.map V.int)) ∧ (ys.length ≤ 5 ∧ ClM ms ys), ?_, ?_⟩
        · refine ⟨_, rfl, b, rfl, ?_⟩
          cases b with
          | false => exact iteF ⟨ys, rfl, k5, t5, h5C, m6.2, cm⟩
          | true =>
            have hp5 := t2.sq hp2 k5
            refine iteT ⟨_, rfl, C, rfl, ⟨_, SqL.of h5C⟩, fun D hD => lc_sel_list (fun x => inV x (ms.map V.int)) (fun x => x) (SqL.of h5C) hD (by rw [List.length_map]; omega) (fun x hm => ?_) fun H6 s6 h6 => ?_⟩
            · obtain ⟨y, _, rfl⟩ := List.mem_map.mp hm
              exact ⟨rfl, fun H' s' R g => ⟨_, rfl, _, rfl, p, _, rfl, .inl (SqL.of (s' _ _ hp5)), rfl, flat_ints ms, _, rfl, g H' (Same.refl _)⟩, fun _ H' s' R g => ⟨_, rfl, g H' (Same.refl _)⟩⟩
            refine ⟨by show 0 ≤ sizeLine; decide, fun N hN => ⟨D, N, _, rfl, rfl, SqL.of (same_new hN _ _ h6), SqL.of upd_same, _, rfl, ?_⟩⟩
            have s7 : Same H5 (upd H6 N (.lst [])) := s6.trans (same_new hN)
            refine ite2 (fun _ => ?_) (fun _ => ⟨ys, rfl, k5.trans (Kp.same s7), t5.same s7, s7 _ _ h5C, m6.2, cm⟩)
            have h7C := s7 _ _ h5C
            have l7 : 0 < ys.length := m6.1
            have g0 : (ys.map V.int)[0]? = some (.int ys[0]) := by
              rw [List.getElem?_map, List.getElem?_eq_getElem l7]
              rfl
            refine ⟨_, rfl, C, _, _, _, rfl, rfl, SqL.of h7C, atI_nat (j := 0) g0, _, _, rfl, rfl, _, rfl, C, _, 0, 0, rfl, rfl, h7C, ?_, ?_⟩
            · unfold ixN
              rw [if_pos (by decide), if_pos (by rw [List.length_map]; omega)]
              rfl
            · refine ⟨ys.set 0 (0 - ys[0]), rfl, (k5.trans (Kp.same s7)).mut hC2, (t5.same s7).mut nCt nCc, ?_, by rw [List.length_set]; exact m6.2, cm.of_nas ?_⟩
              · rw [upd_same, List.map_set]
                rfl
              · unfold nas
                rw [List.map_set, show (0 - ys[0]).natAbs = ys[0].natAbs by omega, ← List.map_set, List.set_getElem_self]
        · rintro σ' H6 ⟨ys, rfl, k6, t6, h6C, m6⟩
          have c6 := t2.cs c2 k6
          refine ⟨_, rfl, .inl ⟨rfl, _, SqL.of c6.l⟩, _, rfl, C, _, rfl, .inl ⟨SqL.of h6C, fun e9 g9 => ?_⟩⟩
          have c9 := c6.same (same_new (o := .tup (ys.map V.int)) g9)
          have ln := c2.n
          refine ⟨F, _, _, rfl, rfl, c9.l, by rw [List.length_map]; omega, b, _, _, _, _, _, qs ++ [e9], cs ++ [ys], rfl, ?_, ?_, c9.snoc upd_same, by rw [List.length_append, l2]; rfl, fun d hd => ?_⟩
          · exact ((k2.trans k6).trans (Kp.new g9)).mut hF
          · exact ((t6.new g9).mut nFt nFc).le (by omega)
          · rcases List.mem_append.mp hd with z | z
            · exact w2 d z
            · rw [List.mem_singleton.mp z]
              exact m6
    · rintro σ H2 ⟨b, v5, v6, v7, v8, v9, qs, cs, rfl, k2, t2, c2, l2, w2⟩
      have k02 := kp1.trans k2
      have nF : H F = none := kp1.free hF (tp1.fresh hF)
      refine ⟨fun σ' H' => ∃ qs cs, σ' = [some (.ref t), some (.ref p), some (.int m), some (.bl b), some (.ref F), v5, v6, v7, v8, v9] ∧ Kp t H H' ∧ Tape H' t c (n + 1200) ∧ Cs H' F qs cs ∧ (m.toNat ≤ cs.length ∧ cs.length ≤ m.toNat + 1) ∧ ∀ c ∈ cs, c.length ≤ 5 ∧ ClM ms c, ?_, ?_⟩
      · refine ⟨_, rfl, t, c, _, _, rfl, t2, by omega, by decide, by decide +kernel, fun H3 r3 a3 b3 tp3 kp3 => ⟨rfl, _, rfl, ite2 (fun _ => ?_) (fun _ => ⟨qs, cs, rfl, k02.trans kp3, tp3.le (by omega), t2.cs c2 kp3, by omega, w2⟩)⟩⟩
        have c3 := t2.cs c2 kp3
        refine ⟨_, rfl, .inl ⟨rfl, _, SqL.of c3.l⟩, _, rfl, _, rfl, _, _, rfl, rfl, t, c, _, _, rfl, tp3, by omega, by omega, pow8000 (by omega), fun H4 r4 a4 b4 tp4 kp4 => ⟨by show 0 ≤ sizeLine; decide, fun e g => ?_⟩⟩
        have c4 := (tp3.cs c3 kp4).same (same_new (o := .tup []) g)
        have ln := c2.n
        refine ⟨F, _, r4, _, rfl, rfl, c4.l, by rw [List.length_map]; omega, a4, by omega, qs.take r4.toNat ++ [e] ++ qs.drop r4.toNat, cs.take r4.toNat ++ [[]] ++ cs.drop r4.toNat, rfl, ?_, ?_, c4.insert (by omega) upd_same, ?_, fun d hd => ?_⟩
        · exact (((k02.trans kp3).trans kp4).trans (Kp.new g)).mut nF
        · exact ((tp4.new g).mut nFt nFc).le (by omega)
        · simp only [List.length_append, List.length_take, List.length_drop, List.length_cons, List.length_nil]
          omega
        · rcases List.mem_append.mp hd with z | z
          · rcases List.mem_append.mp z with z | z
            · exact w2 d (List.mem_of_mem_take z)
            · rw [List.mem_singleton.mp z]
              exact ⟨Nat.zero_le _, ClM.nil ms⟩
          · exact w2 d (List.mem_of_mem_drop z)
      · rintro σ' H3 ⟨qs, cs, rfl, k3, t3, c3, l3, w3⟩
        exact ⟨_, rfl, k H3 F qs cs nF c3 w3 l3 t3 k3⟩
end

/-! ### the law's own def, run where the law is asked: nothing is being shown there -/
def RunAt (P : Program) (w : World) (K : PySem.W.Frag) (mg : Str → Option Value) (base : Heap) (f : Addr) (fd : FuncData) (ps : List Str) (sp : Sp) : Prop :=
  ∀ (s : Shared) (H : Hp) (us : List Value) (vs : List V) (Q : VK) (E : XK), Env0 P w K mg base callerA [] s H → BindsTo s fd ⟨us, []⟩ (ps.zip us) → Vals vs us → sp vs H Q E → codeAny (model P w) callerA (.call (.ref f) ⟨us, []⟩) (CR CX0 [] P w H s Q E) s
section
variable {P : Program} {w : World} {K : PySem.W.Frag} {mg : Str → Option Value} {base : Heap}
theorem run_at {x qual : Str} {st : Stmt} {f : Addr} {fd : FuncData} {N ps : List Str} {k : Nat} {sp : Sp} (F : Fun K x qual st f fd) (S : FnScope N ps (defScope st)) (room : Room (k + 1) callerA) (len : ∀ vs H Q E, sp vs H Q E → vs.length = ps.length)
    (body : ∀ (cdv : Value) (s : Shared) (H : Hp) (vs : List V) (Q : VK) (E : XK), Room k (callerA.deeper (envOfC qual (defScope st) s.heap.objs.size f cdv)) → sp vs H Q E →
      ∃ t, PSs (cxOf CX0 P w K mg base N qual (defScope st) f cdv callerA [] s H E).nox (defBody st) t ∧ t { nx := fun _ H' => Q .non H', rt := Q } (start N vs) H) : RunAt P w K mg base f fd ps sp := by
  obtain ⟨oc, od, kV, doc, pm, an, cdv, ct, osl, rfl, lk, hcd⟩ := F.ex
  intro s H us vs Q E e0 hb r hsp
  have few := len _ _ _ _ hsp
  have kin : K.In s.heap := e0.mod.kin.keeps fun b o z => (e0.bs b o z).1
  have lim : s.heap.NoLimit := e0.mod.nolimit.keeps fun b o z => (e0.bs b o z).1
  have kinds : ∀ z ∈ ps.zip us, (defScope st).names.lookup z.1 = some .local ∨ ((defScope st).names.lookup z.1 = some .cell ∧ ((cellsFrom (s.heap.objs.size + 1) (defScope st).names []).lookup z.1).isSome = true) := by
    rintro ⟨n, v⟩ hz
    rcases S.par n (List.of_mem_zip hz).1 with z | z
    · exact .inl z
    · exact .inr ⟨z, PySem.W.cellsFrom_some _ _ _ (.inl z)⟩
  refine codeAny_call_function room.depth (kin _ _ lk) rfl S.co S.gen rfl (PySem.W.codeRec_of kin hcd) (hb _ _ _ _ ?_)
  refine wpAny_newFunctionEnv_cells S.kind kinds fun env he s1 z => ?_
  subst he
  refine ⟨lim.keeps z.toInCall.keep, codeAny_func ?_⟩
  obtain ⟨t, ht, hq⟩ := body cdv s H vs Q E (room.deeper _) hsp
  have I : Inv (cxOf CX0 P w K mg base N qual (defScope st) f cdv callerA [] s H E) [] (start N vs) H s1 := inv_start S room.hd e0 few r z
  refine wpAny_mono (ht.nox.run [] s1 (start N vs) H _ I hq) (fun fl s2 hs => ?_) fun e s2 hs => hs
  cases fl with
  | ret u =>
    obtain ⟨v, σ2, H2, J, rv, q⟩ := hs
    exact ⟨v, H2, J.os, J.bare, J.base, J.hok, rv, q⟩
  | next =>
    obtain ⟨σ2, H2, J, q⟩ := hs
    exact ⟨.non, H2, J.os, J.bare, J.base, J.hok, rfl, q⟩
  | brk =>
    obtain ⟨_, _, _, q⟩ := hs
    exact q.elim
  | cont =>
    obtain ⟨_, _, _, q⟩ := hs
    exact q.elim
theorem law_at {mb : Str → Option Value} {fa p : Addr} {fd : FuncData} {x : Str} {sp : Sp} {s1 : Shared} {vs : List Value} {ns : List Int}
    (kin : K.In s1.heap) (hns : s1.heap.Ns mainGlobals mg) (hb : s1.heap.Ns builtinsNs mb) (hbb : ∀ y : Str, y ≠ "__name__" → mb y = bootBuiltins y) (hlim : s1.heap.NoLimit) (hg : s1.gens = #[])
    (hp : s1.heap.get? p = some { cls := .type "list", data := .seq vs.toArray }) (hi : IntsAre vs ns) (few : ns.length ≤ sizeLine)
    (F : ∀ base : Heap, K.In base → base.Ns mainGlobals mg → RunAt P w K mg base fa fd [x] sp) (binds : ∀ (s : Shared) (u : Value), BindsTo s fd ⟨[u], []⟩ [(x, u)])
    (hsp : ∀ H : Hp, Only H → SqL K H p (ns.map V.int) → sp [.ref p] H (fun v _ => v = .bl true) fun _ _ _ => False) :
    codeAny (model P w) callerA (.call (.ref fa) ⟨[.ref p], []⟩) (fun r s2 => r = .ok (.ret (.bool true)) ∧ OldK s1.heap s2.heap ∧ s2.os = s1.os ∧ AllBare s2.gens) s1 := by
  have rv := vals_ints hi
  have core : ∀ H : Hp, Only H → SqL K H p (ns.map V.int) → HOk P w H s1.heap → (∀ b, H b ≠ none → b = p) → (H p ≠ none → K.lookup p = none) →
      codeAny (model P w) callerA (.call (.ref fa) ⟨[.ref p], []⟩) (fun r s2 => r = .ok (.ret (.bool true)) ∧ OldK s1.heap s2.heap ∧ s2.os = s1.os ∧ AllBare s2.gens) s1 := by
    intro H only seq hok one hK
    have below : ∀ {b : Addr} {o : Obj}, s1.heap.get? b = some o → H b = none → (hidT s1.heap H).get? b = some o := fun e n => hidT_get e n
    have dicts : ∀ {b : Addr} {o : Obj} {es : Array DictEntry} {ep : Nat}, s1.heap.get? b = some o → o.data = .dict es ep → H b = none := by
      intro b o es ep e d
      cases q : H b with
      | none => rfl
      | some u =>
        obtain rfl : b = p := one b (by rw [q]; simp)
        rw [hp] at e
        cases e
        cases (show Data.seq vs.toArray _ = Data.dict es ep from d)
    have spaces : ∀ {b : Addr} {m : Str → Option Value}, s1.heap.Ns b m → (hidT s1.heap H).Ns b m := by
      rintro b m ⟨o, es, ep, e, d, r⟩
      exact ⟨o, es, ep, below e (dicts e d), d, r⟩
    have kin2 : K.In (hidT s1.heap H) := fun b o e => by
      refine below (kin b o e) ?_
      cases q : H b with
      | none => rfl
      | some u =>
        obtain rfl : b = p := one b (by rw [q]; simp)
        rw [hK (by rw [q]; simp)] at e
        cases e
    have mod : Mod K mg (hidT s1.heap H) := by
      obtain ⟨mc, c1, c2⟩ := hlim
      exact ⟨kin2, spaces hns, ⟨mb, spaces hb, hbb⟩, ⟨mc, spaces c1, c2⟩⟩
    have e0 : Env0 P w K mg (hidT s1.heap H) callerA [] s1 H :=
      ⟨rfl, mod, fun b o e => of_hidT e, Nat.le_of_eq (hidT_size _ _), trivial, fun b z => absurd (show b ∈ ([] : List Addr) from z) (by simp), hok, .of_eq hg⟩
    refine codeAny_mono (F _ kin2 (spaces hns) s1 H [.ref p] [.ref p] _ _ e0 (binds s1 (.ref p)) (.cons rfl .nil) (hsp H only seq)) fun r s2 h => ?_
    cases r with
    | error e => exact h.elim
    | ok fl =>
      cases fl with
      | next => exact h.elim
      | brk => exact h.elim
      | cont => exact h.elim
      | ret u =>
        obtain ⟨v, H2, os, bare, un, hok2, rel, q⟩ := h
        obtain rfl : v = .bl true := q
        obtain rfl : u = Value.bool true := rel
        refine ⟨rfl, OldK.of_keep fun b o e => ?_, os, bare⟩
        cases q : H b with
        | none => exact un.keep b o e q (fun z => absurd (show b ∈ ([] : List Addr) from z) (by simp)) (by simp)
        | some u =>
          rcases only b with z | ⟨ob, xs, z⟩
          · rw [q] at z
            cases z
          · obtain ⟨a1, _⟩ := hok b _ z
            obtain ⟨a2, _⟩ := hok2 b _ (un.frzs b ob _ z)
            rw [e] at a1
            cases a1
            exact a2
  cases hk : K.lookup p with
  | some o =>
    have e := kin p o hk
    rw [hp] at e
    cases e
    have lv := hi.length
    refine core (fun _ => none) (fun _ => .inl rfl) (.inr ⟨_, vs.toArray, _, hk, rfl, rfl, rfl, ?_, by simpa using rv⟩) (fun b u z => ?_) (fun b z => absurd rfl z) fun z => absurd rfl z
    · rw [List.size_toArray, lv]
      exact few
    · cases (show (none : Option HO) = some u from z)
  | none =>
    refine core (fun b => if b = p then some (.frz { cls := .type "list", data := .seq vs.toArray } (.lst (ns.map V.int))) else none) (fun b => ?_) (.inl (.inr ⟨{ cls := .type "list", data := .seq vs.toArray }, if_pos rfl⟩)) (fun b u z => ?_) (fun b z => ?_) fun _ => hk
    · by_cases hb : b = p
      · exact .inr ⟨_, _, if_pos hb⟩
      · exact .inl (if_neg hb)
    · by_cases hb : b = p
      · subst hb
        cases (if_pos rfl).symm.trans z
        refine ⟨hp, ?_, vs, _, rv, hp⟩
        rw [List.length_map]
        exact few
      · cases (if_neg hb).symm.trans z
    · by_cases hb : b = p
      · exact hb
      · exact absurd (if_neg hb) z
end
theorem walk_at {l : PySem.W.OpenLaw} {n : Nat} {q : Program} {loose : List Str} {XP : (Str → Option Value) → Heap → Prop} {YP : World → Heap → Prop} {d : DefRec} {K : Params → PySem.W.Frag} {sp : World → Sp} {x : Str}
    (hn : l.most = some n) (hn2 : n ≤ sizeLine) (hdf : d.params.defaults = []) (hY : ∀ (w : World) (h : Heap), YP w h → (K w.params).In h)
    (F : ∀ (w : World) (mg : Str → Option Value) (fa : Addr) (h : Heap), (K w.params).In h → h.Ns mainGlobals mg → mg d.name = some (.ref fa) →
      ∃ fd : FuncData, (∀ (s : Shared) (u : Value), BindsTo s fd ⟨[u], []⟩ [(x, u)]) ∧ ∀ base : Heap, (K w.params).In base → base.Ns mainGlobals mg → RunAt l.prog w (K w.params) mg base fa fd [x] (sp w))
    (hsp : ∀ (w : World) (H : Hp) (a : Addr) (ns : List Int), ns.length ≤ n → Only H → SqL (K w.params) H a (ns.map V.int) → sp w [.ref a] H (fun v _ => v = .bl true) fun _ _ _ => False) :
    PySem.W.WalkO q loose XP YP l.row.toRowW d [] (fun f vs => PySem.call f vs) := by
  refine Att.attach_call hn hdf fun w s0 s1 mg mb fa o pm cd doc a vs ns G Y ho hd hcd hmg hobj hints hlen hg => ?_
  obtain ⟨fd, hb, hF⟩ := F w mg fa _ (hY w _ Y) G.T.g hmg
  exact law_at (hY w _ Y) G.T.g G.T.b G.T.builtins G.T.nolimit hg hobj hints (Nat.le_trans hlen hn2) hF hb fun H only seq => hsp w H a ns hlen only seq

/-! ### promises that hold where nothing is being shown -/
structure FnG (P : Program) (w : World) (K : PySem.W.Frag) (mg : Str → Option Value) (base : Heap) (k : Nat) (f : Addr) (fd : FuncData) (ps : List Str) (sp : Sp) : Prop where
  len : ∀ vs H Q E, sp vs H Q E → vs.length = ps.length
  run : ∀ (A : Around) (out : List Env) (s : Shared) (H : Hp) (us : List Value) (vs : List V) (Q : VK) (E : XK), Room k A → A.guards = some [] → Env0 P w K mg base A out s H → BindsTo s fd ⟨us, []⟩ (ps.zip us) → Vals vs us → sp vs H Q E →
    codeAny (model P w) A (.call (.ref f) ⟨us, []⟩) (CR CX0 out P w H s Q E) s
structure HasG (P : Program) (w : World) (K : PySem.W.Frag) (mg : Str → Option Value) (base : Heap) (k : Nat) (x : Str) (ps : List Str) (sp : Sp) : Prop where
  ex : ∃ f fd, mg x = some (.ref f) ∧ PySem.W.keepIn K (.ref f) = true ∧ Binds K fd ps [] ∧ FnG P w K mg base k f fd ps sp
section
variable {P : Program} {w : World} {K : PySem.W.Frag} {mg : Str → Option Value} {base : Heap}
theorem fnG {x qual : Str} {st : Stmt} {f : Addr} {fd : FuncData} {N ps : List Str} {k : Nat} {sp : Sp} (F : Fun K x qual st f fd) (S : FnScope N ps (defScope st)) (len : ∀ vs H Q E, sp vs H Q E → vs.length = ps.length)
    (body : ∀ (cdv : Value) (A : Around) (out : List Env) (s : Shared) (H : Hp) (vs : List V) (Q : VK) (E : XK), Room k (A.deeper (envOfC qual (defScope st) s.heap.objs.size f cdv)) → (A.deeper (envOfC qual (defScope st) s.heap.objs.size f cdv)).guards = some [] → sp vs H Q E →
      ∃ t, PSs (cxOf CX0 P w K mg base N qual (defScope st) f cdv A out s H E).nox (defBody st) t ∧ t { nx := fun _ H' => Q .non H', rt := Q } (start N vs) H) : FnG P w K mg base (k + 1) f fd ps sp := by
  obtain ⟨oc, od, kV, doc, pm, an, cdv, ct, osl, rfl, lk, hcd⟩ := F.ex
  refine ⟨len, fun A out s H us vs Q E room calm e0 hb r hsp => ?_⟩
  have few := len _ _ _ _ hsp
  have kin : K.In s.heap := e0.mod.kin.keeps fun b o z => (e0.bs b o z).1
  have lim : s.heap.NoLimit := e0.mod.nolimit.keeps fun b o z => (e0.bs b o z).1
  have kinds : ∀ z ∈ ps.zip us, (defScope st).names.lookup z.1 = some .local ∨ ((defScope st).names.lookup z.1 = some .cell ∧ ((cellsFrom (s.heap.objs.size + 1) (defScope st).names []).lookup z.1).isSome = true) := by
    rintro ⟨n, v⟩ hz
    rcases S.par n (List.of_mem_zip hz).1 with z | z
    · exact .inl z
    · exact .inr ⟨z, PySem.W.cellsFrom_some _ _ _ (.inl z)⟩
  refine codeAny_call_function room.depth (kin _ _ lk) rfl S.co S.gen rfl (PySem.W.codeRec_of kin hcd) (hb _ _ _ _ ?_)
  refine wpAny_newFunctionEnv_cells S.kind kinds fun env he s1 z => ?_
  subst he
  refine ⟨lim.keeps z.toInCall.keep, codeAny_func ?_⟩
  obtain ⟨t, ht, hq⟩ := body cdv A out s H vs Q E (room.deeper _) calm hsp
  have I : Inv (cxOf CX0 P w K mg base N qual (defScope st) f cdv A out s H E) [] (start N vs) H s1 := inv_start S room.hd e0 few r z
  refine wpAny_mono (ht.nox.run [] s1 (start N vs) H _ I hq) (fun fl s2 hs => ?_) fun e s2 hs => hs
  cases fl with
  | ret u =>
    obtain ⟨v, σ2, H2, J, rv, q⟩ := hs
    exact ⟨v, H2, J.os, J.bare, J.base, J.hok, rv, q⟩
  | next =>
    obtain ⟨σ2, H2, J, q⟩ := hs
    exact ⟨.non, H2, J.os, J.bare, J.base, J.hok, rfl, q⟩
  | brk =>
    obtain ⟨_, _, _, q⟩ := hs
    exact q.elim
  | cont =>
    obtain ⟨_, _, _, q⟩ := hs
    exact q.elim
theorem has_ofG {x : Str} {st : Stmt} {N ps : List Str} {k : Nat} {sp : Sp} (A : At K mg x st) (S : FnScope N ps (defScope st)) (B : BindsAll x st ps) (len : ∀ vs H Q E, sp vs H Q E → vs.length = ps.length)
    (body : ∀ (f : Addr) (cdv : Value) (A : Around) (out : List Env) (s : Shared) (H : Hp) (vs : List V) (Q : VK) (E : XK), Room k (A.deeper (envOfC x (defScope st) s.heap.objs.size f cdv)) → (A.deeper (envOfC x (defScope st) s.heap.objs.size f cdv)).guards = some [] → sp vs H Q E →
      ∃ t, PSs (cxOf CX0 P w K mg base N x (defScope st) f cdv A out s H E).nox (defBody st) t ∧ t { nx := fun _ H' => Q .non H', rt := Q } (start N vs) H) : HasG P w K mg base (k + 1) x ps sp := by
  obtain ⟨f, fd, hm, F⟩ := A.ex
  exact ⟨f, fd, hm, F.kp, F.binds B, fnG F S len fun cdv A out s H vs Q E hr hg h => body f cdv A out s H vs Q E hr hg h⟩
theorem FnG.at_ {f : Addr} {fd : FuncData} {ps : List Str} {k : Nat} {sp : Sp} (G : FnG P w K mg base k f fd ps sp) (room : Room k callerA) : RunAt P w K mg base f fd ps sp :=
  fun s H us vs Q E e0 hb r hsp => G.run callerA [] s H us vs Q E room rfl e0 hb r hsp
end
section
variable {X : Cx} {k : Nat} {x : Str} {ps : List Str} {sp : Sp} {e : Expr} {es : List Expr} {t : TA} {p pos : Pos}
theorem pe_hasG (h : HasG X.prog X.w X.K X.mg X.base k x ps sp) (hr : Room k X.A) (hgd : X.A.guards = some []) (hg : Gl X x) (ha : PA X (e :: es) t)
    (hdb : (x == ("__debug__" : Str)) = false := by decide) (he : starEach (e :: es) X.env = (false, eval e X.env) :: starEach es X.env := by rfl) (hpl : (backTo pos (starEach es X.env)).any (·.1) = false := by rfl) :
    PE X (.Call (.Name x p) (e :: es) [] pos) (tCall sp [] E0 t) := by
  obtain ⟨f, fd, hm, hk, hb, F⟩ := h.ex
  refine ⟨fun pins s σ H Q I hw => ?_⟩
  refine wpAny_Call_Name_kw (ld_glob I hg hm ?_ hdb)
  refine PySem.W.callWith_K (h₀ := X.base) I.ok.mod.kin hk (thn (ha.run pos pins s σ H _ I hw) fun us s1 ⟨vs, H1, I1, r1, q⟩ => ⟨I1.kIn, ?_⟩) he hpl
  have q : sp vs H1 Q E0 := by
    have z : sp (vs ++ []) H1 Q E0 := q
    rwa [List.append_nil] at z
  have bd := hb s1 us I1.kIn (by rw [List.append_nil, ← r1.length]; exact F.len _ _ _ _ q)
  rw [List.append_nil] at bd
  refine wpAny_call (codeAny_mono (F.run X.A X.stack s1 H1 us vs Q E0 hr hgd I1.env0 bd r1 q) fun r s2 hq => ?_)
  cases r with
  | error e => exact pass0 pins σ H1 s1 e s2 I1 hq
  | ok fl =>
    cases fl with
    | ret u => exact I1.after hq
    | next => exact hq.elim
    | brk => exact hq.elim
    | cont => exact hq.elim
end
/-! ### repr of None, of a whole number, of a list -/
structure Showy (x : PyData) : Prop where
  s : x.showable = true
  n : x.hasDict = false
  d : x.depth ≤ 60
  l : x.shown.length ≤ sizeLine
theorem call_reprV {X : Cx} (hgd : X.A.guards = some []) (hu : X.A.units + 64 < cLine) : CallR X (.builtin "repr") (fun xs H Q => (xs = [.non] ∧ Q (.str "None") H) ∨ (∃ i, xs = [.int i] ∧ i.natAbs.log2 < 1920 ∧ Q (.str (toString i)) H) ∨
    ∃ a d, xs = [.ref a] ∧ Dp X.K H (.ref a) d ∧ Showy d ∧ Q (.str d.shown) H) := by
  intro pins s σ H xs us Q I r h
  rcases h with ⟨rfl, q⟩ | ⟨i, rfl, hi, q⟩ | ⟨a, d, rfl, hd, sh, q⟩
  · obtain ⟨u, rfl, ru⟩ := vals1 r
    cases ru
    exact PySem.P.repr_of_none ⟨.str "None", H, I.tok _, ⟨_, rfl⟩, q⟩
  · obtain ⟨u, rfl, t, rfl⟩ := vals1 r
    exact PySem.P.repr_of_int hi ⟨.str (toString i), H, I.tok _, ⟨_, rfl⟩, q⟩
  · obtain ⟨u, rfl, ru⟩ := vals1 r
    cases ru
    obtain ⟨as, rd⟩ := Dp.reads I d (.ref a) (.ref a) hd rfl
    have h3 := sh.d
    exact repr_of_reads' (s := s) rd sh.s (fun z => by rw [sh.n] at z; cases z) hgd (by omega) (fun _ _ z => z) (fun h2 u tk k => ⟨.str d.shown, H, I.kept (t' := tk) k, ⟨_, rfl⟩, q⟩) sh.l

/-! ### what the data are -/
theorem lay_ints : ∀ l : List Int, PyData.canLayAll0 (l.map PyData.int) = true
  | [] => rfl
  | x :: r => by
    rw [List.map_cons, PyData.canLayAll0, lay_ints r]
    rfl
theorem dep_ints : ∀ l : List Int, PyData.depthAll (l.map PyData.int) ≤ 0
  | [] => Nat.le_refl _
  | x :: r => by
    rw [List.map_cons, PyData.depthAll]
    exact Nat.max_le.mpr ⟨Nat.le_refl _, dep_ints r⟩
def tupD (c : List Int) : PyData := .tuple (c.map PyData.int)
def lstD (c : List Int) : PyData := .list (c.map PyData.int)
theorem lay_tup (c : List Int) : (tupD c).canLay0 = true := by
  unfold tupD
  rw [PyData.canLay0]
  exact lay_ints c
theorem lay_lst (c : List Int) : (lstD c).canLay0 = true := by
  unfold lstD
  rw [PyData.canLay0]
  exact lay_ints c
theorem dep_tup (c : List Int) : (tupD c).depth ≤ 1 := by
  unfold tupD
  rw [PyData.depth]
  exact Nat.succ_le_succ (dep_ints c)
theorem dep_lst (c : List Int) : (lstD c).depth ≤ 1 := by
  unfold lstD
  rw [PyData.depth]
  exact Nat.succ_le_succ (dep_ints c)
theorem lay_tups : ∀ cs : List (List Int), PyData.canLayAll0 (cs.map tupD) = true
  | [] => rfl
  | x :: r => by
    rw [List.map_cons, PyData.canLayAll0, lay_tups r, lay_tup]
    rfl
theorem dep_tups : ∀ cs : List (List Int), PyData.depthAll (cs.map tupD) ≤ 1
  | [] => Nat.zero_le _
  | x :: r => by
    rw [List.map_cons, PyData.depthAll]
    exact Nat.max_le.mpr ⟨dep_tup x, dep_tups r⟩
section
variable {K : PySem.W.Frag} {H : Hp}
theorem dp_ints : ∀ l : List Int, DpAll K H (l.map V.int) (l.map PyData.int)
  | [] => .nil
  | x :: r => .cons (.int x) (dp_ints r)
theorem dp_lst {a : Addr} {l : List Int} (h : H a = some (.lst (l.map V.int))) : Dp K H (.ref a) (lstD l) := .lst (SqL.of h) (dp_ints l)
theorem dp_tups : ∀ {qs : List Addr} {cs : List (List Int)}, qs.length = cs.length → (∀ (i : Nat) q c, qs[i]? = some q → cs[i]? = some c → H q = some (.tup (c.map V.int))) → DpAll K H (qs.map V.ref) (cs.map tupD)
  | [], [], _, _ => .nil
  | [], _ :: _, n, _ => absurd n (by simp)
  | _ :: _, [], n, _ => absurd n (by simp)
  | q :: qs, c :: cs, n, t => .cons (.tup (SqT.of (t 0 q c rfl rfl)) (dp_ints c)) (dp_tups (Nat.succ.inj n) fun i q c hq hc => t (i + 1) q c hq hc)
end
theorem shape_lst (l : List Int) : SeqAt.shaped (lstD l) = true := by
  unfold SeqAt.shaped
  rw [lay_lst, decide_eq_true (Nat.le_trans (dep_lst l) (by decide))]
  rfl

/-! ### rules: a text a few times, a tuple a few times -/
theorem op_repTK {X : Cx} {K : PySem.W.Frag} (h : X.K = K) : OpR X (binaryOp .Mult) (rRepT K) := h ▸ op_repT
def repS (k : Int) (z : Str) : Str := ⟨(List.replicate k.toNat z.cps).foldl (· ++ ·) #[]⟩
theorem op_repS {X : Cx} : OpR X (binaryOp .Mult) (fun x y H Q => ∃ (z : Str) (k : Int), x = .str z ∧ y = .int k ∧ 2 ≤ k ∧ k ≤ 1000 ∧ 1 ≤ z.length ∧ z.length ≤ 1000 ∧ (repS k z).length ≤ sizeLine ∧ Q (.str (repS k z)) H) := by
  intro pins s σ H x y v u Q I rx ry h
  obtain ⟨z, k, rfl, rfl, h1, h2, h3, h4, h5, q⟩ := h
  obtain ⟨t, rfl⟩ := rx
  obtain ⟨t', rfl⟩ := ry
  have c1 : ¬ k < 1 := by omega
  have c2 : (k == 1 || z.length == 0) = false := by
    rw [Bool.or_eq_false_iff]
    exact ⟨by simp; omega, by simp; omega⟩
  refine PySem.P.mul_str ?_ (fun _ _ => ?_) (fun _ _ => ?_) ?_
  · rw [Bool.or_eq_false_iff]
    exact ⟨decide_eq_false (by omega), decide_eq_false (by omega)⟩
  · have e : (1000 : Int) ≤ (2 ^ 63 - 1) / k := (Int.le_ediv_iff_mul_le (by omega)).mpr (by omega)
    omega
  · have e : z.length * k.toNat ≤ 1000 * 1000 := Nat.mul_le_mul h4 (by omega)
    have e2 : sizeLine = 16777216 := sizeLine_eq
    show decide (_ > sizeLine) = false
    refine decide_eq_false ?_
    omega
  · rw [if_neg c1, if_neg (by rw [c2]; exact Bool.false_ne_true)]
    exact ⟨h5, .str (repS k z), H, I.tok _, ⟨_, rfl⟩, q⟩
/-- a def whose promise can't be asked -/
theorem has_zero {P : Program} {w : World} {K : PySem.W.Frag} {mg : Str → Option Value} {base : Heap} {x : Str} {st : Stmt} {ps : List Str} {sp : Sp} (A : At K mg x st) (B : BindsAll x st ps) (no : ∀ vs H Q E, ¬ sp vs H Q E) : Has P w K mg base 0 x ps sp := by
  obtain ⟨f, fd, hm, F⟩ := A.ex
  exact ⟨f, fd, hm, F.kp, F.binds B, fun vs H Q E h => absurd h (no _ _ _ _), fun A out s H args us vs Q E _ _ _ _ h => absurd h (no _ _ _ _)⟩
/-! ### data made of tuples: they stay whatever becomes of lists -/
mutual
inductive Tp (H : Hp) : V → PyData → Prop
  | non : Tp H .non .none
  | bl (b : Bool) : Tp H (.bl b) (.bool b)
  | int (i : Int) : Tp H (.int i) (.int i)
  | str (x : Str) : Tp H (.str x) (.str x)
  | tup {a : Addr} {xs : List V} {ds : List PyData} : H a = some (.tup xs) → TpAll H xs ds → Tp H (.ref a) (.tuple ds)
inductive TpAll (H : Hp) : List V → List PyData → Prop
  | nil : TpAll H [] []
  | cons {v : V} {vs : List V} {d : PyData} {ds : List PyData} : Tp H v d → TpAll H vs ds → TpAll H (v :: vs) (d :: ds)
end
/-- tuples stay -/
def KT (H H' : Hp) : Prop := ∀ a xs, H a = some (.tup xs) → H' a = some (.tup xs)
theorem KT.refl {H : Hp} : KT H H := fun _ _ h => h
theorem KT.trans {H H1 H2 : Hp} (a : KT H H1) (b : KT H1 H2) : KT H H2 := fun c xs h => b c xs (a c xs h)
theorem KT.same {H H' : Hp} (s : Same H H') : KT H H' := fun a xs h => s a _ h
theorem KT.kp {H H' : Hp} {t c : Addr} {n : Nat} (tp : Tape H t c n) (k : Kp t H H') : KT H H' := fun a xs h => by
  obtain ⟨ns', sp', lf', tc, _⟩ := tp
  exact k _ _ h (ne_of h tc.d (by intro z; cases z))
theorem KT.lst {H : Hp} {D : Addr} {xs : List V} {o : HO} (h : H D = some (.lst xs)) : KT H (upd H D o) := fun a ys e => by
  rw [upd_ne (ne_of e h (by intro z; cases z))]
  exact e
theorem KT.new {H : Hp} {p : Addr} {o : HO} (h : H p = none) : KT H (upd H p o) := KT.same (same_new h)
mutual
theorem Tp.kt {H H' : Hp} (s : KT H H') : ∀ {v : V} {d : PyData}, Tp H v d → Tp H' v d
  | _, _, .non => .non
  | _, _, .bl b => .bl b
  | _, _, .int i => .int i
  | _, _, .str x => .str x
  | _, _, .tup h r => .tup (s _ _ h) (TpAll.kt s r)
theorem TpAll.kt {H H' : Hp} (s : KT H H') : ∀ {vs : List V} {ds : List PyData}, TpAll H vs ds → TpAll H' vs ds
  | _, _, .nil => .nil
  | _, _, .cons h r => .cons (Tp.kt s h) (TpAll.kt s r)
end
mutual
theorem Tp.dp {K : PySem.W.Frag} {H : Hp} : ∀ {v : V} {d : PyData}, Tp H v d → Dp K H v d
  | _, _, .non => .non
  | _, _, .bl b => .bl b
  | _, _, .int i => .int i
  | _, _, .str x => .str x
  | _, _, .tup h r => .tup (SqT.of h) (TpAll.dp r)
theorem TpAll.dp {K : PySem.W.Frag} {H : Hp} : ∀ {vs : List V} {ds : List PyData}, TpAll H vs ds → DpAll K H vs ds
  | _, _, .nil => .nil
  | _, _, .cons h r => .cons (Tp.dp h) (TpAll.dp r)
end
theorem TpAll.snoc {H : Hp} {v : V} {d : PyData} : ∀ {vs : List V} {ds : List PyData}, TpAll H vs ds → Tp H v d → TpAll H (vs ++ [v]) (ds ++ [d])
  | _, _, .nil, h => .cons h .nil
  | _, _, .cons a r, h => .cons a (r.snoc h)
theorem TpAll.app {H : Hp} {ws : List V} {es : List PyData} : ∀ {vs : List V} {ds : List PyData}, TpAll H vs ds → TpAll H ws es → TpAll H (vs ++ ws) (ds ++ es)
  | _, _, .nil, h => h
  | _, _, .cons a r, h => .cons a (r.app h)
theorem TpAll.len {H : Hp} : ∀ {vs : List V} {ds : List PyData}, TpAll H vs ds → vs.length = ds.length
  | _, _, .nil => rfl
  | _, _, .cons _ r => by rw [List.length_cons, List.length_cons, r.len]
theorem TpAll.get {H : Hp} : ∀ {vs : List V} {ds : List PyData} {i : Nat} {d : PyData}, TpAll H vs ds → ds[i]? = some d → ∃ v, vs[i]? = some v ∧ Tp H v d
  | _, _, _, _, .nil, e => by cases e
  | _, _, 0, _, .cons a _, e => ⟨_, rfl, by cases e; exact a⟩
  | _, _, i + 1, _, .cons _ r, e => r.get e
theorem tp_rep {H : Hp} {v : V} {d : PyData} (h : Tp H v d) : ∀ n, TpAll H (List.replicate n v) (List.replicate n d)
  | 0 => .nil
  | n + 1 => .cons h (tp_rep h n)
theorem Tp.new {H : Hp} {p : Addr} {xs : List V} {ds : List PyData} (n : H p = none) (r : TpAll H xs ds) : Tp (upd H p (.tup xs)) (.ref p) (.tuple ds) := .tup upd_same (r.kt (KT.new n))
theorem flat_one {v : V} : ∀ n : Nat, (List.replicate n [v]).flatten = List.replicate n v
  | 0 => rfl
  | n + 1 => by
    rw [List.replicate_succ, List.flatten_cons, flat_one n]
    rfl
/-! ### a comprehension over a range, whose items are new -/
section
variable {K : PySem.W.Frag} {tt : TT} {te : TE} {vs : List Nat} {σ : L2.St} {H : Hp} {D : Addr} {Qd : Hp → Prop} {j : Nat}
theorem lc_rangeC {lo c : Int} {n : Nat} {g : TG} (Pv : Nat → Hp → Prop) (h0 : Pv 0 (upd H D (.lst [])))
    (hs : ∀ i H, i < n → Pv i H → g (.int (lo + (i : Nat) * c)) (wipe σ vs) H fun σ2 H2 => wipe σ2 vs = wipe σ vs ∧ tt σ2 H2 fun b H3 =>
      if b = true then te σ2 H3 fun y H4 => ∃ acc, H4 D = some (.lst acc) ∧ acc.length < sizeLine ∧ Pv (i + 1) (upd H4 D (.lst (acc ++ [y]))) else Pv (i + 1) H3) (hd : ∀ H, Pv n H → Qd H) :
    ∃ W : Nat → Nat → Hp → Prop, (∃ m, W 0 m (upd H D (.lst []))) ∧ ∀ i m H, W i m H →
      ((Itc lo c n).stop i H ∧ Qd H) ∨ ((Itc lo c n).go i H ∧ ∃ Nx : Hp → Prop, (∀ H', Nx H' → ∃ m', m' < m ∧ W (i + 1) m' H') ∧ ∀ x H', (Itc lo c n).yld i H x H' → g x (wipe σ vs) H' fun σ2 H2 => wipe σ2 vs = wipe σ vs ∧ tt σ2 H2 fun b H3 =>
        if b = true then te σ2 H3 fun y H4 => ∃ acc, H4 D = some (.lst acc) ∧ acc.length < sizeLine ∧ Nx (upd H4 D (.lst (acc ++ [y]))) else Nx H3) := by
  refine ⟨fun i m H => m = n - i ∧ i ≤ n ∧ Pv i H, ⟨n, by simp, Nat.zero_le _, h0⟩, ?_⟩
  rintro i m H ⟨rfl, hi, p⟩
  by_cases hlt : i < n
  · refine .inr ⟨hlt, Pv (i + 1), fun H' p' => ⟨n - (i + 1), by omega, rfl, hlt, p'⟩, fun x H' y => ?_⟩
    obtain ⟨rfl, rfl⟩ := y
    exact hs i H' hlt p
  · have e : i = n := by omega
    subst e
    exact .inl ⟨Nat.le_refl _, hd H p⟩
/-- what stands at a turn: so many items that are data -/
structure TpT (H H' : Hp) (D : Addr) (ds : List PyData) : Prop where
  s : Same H H'
  ex : ∃ xs, H' D = some (.lst xs) ∧ TpAll H' xs ds
theorem TpT.new (hD : H D = none) : TpT H (upd H D (.lst [])) D [] := ⟨same_new hD, [], upd_same, .nil⟩
/-- an item more -/
theorem TpT.put {H1 H2 : Hp} {y : V} {d : PyData} {ds : List PyData} (hD : H D = none) (p : TpT H H1 D ds) (s : Same H1 H2) (small : ds.length < sizeLine) (hy : Tp H2 y d) :
    ∃ acc, H2 D = some (.lst acc) ∧ acc.length < sizeLine ∧ TpT H (upd H2 D (.lst (acc ++ [y]))) D (ds ++ [d]) := by
  obtain ⟨xs, e, r⟩ := p.ex
  have e2 := s _ _ e
  refine ⟨xs, e2, by rw [r.len]; exact small, same_mut (p.s.trans s) hD, _, upd_same, ?_⟩
  exact ((r.kt (KT.same s)).snoc hy).kt (KT.lst e2)
end

/-! ### how parts are shown -/
mutual
inductive Lf : PyData → Prop
  | int (i : Int) (h : i.natAbs < 10 ^ 13) : Lf (.int i)
  | str (x : Str) (h : (x.cps.toList.all fun c => decide (c < 16 ^ 8)) = true) : Lf (.str x)
  | tup {ds : List PyData} : LfAll ds → Lf (.tuple ds)
inductive LfAll : List PyData → Prop
  | nil : LfAll []
  | cons {d : PyData} {ds : List PyData} : Lf d → LfAll ds → LfAll (d :: ds)
end
theorem lf_one : Lf (.int 1) := .int 1 (by decide)
mutual
theorem Lf.shows : ∀ {d : PyData}, Lf d → d.showable = true ∧ d.hasDict = false ∧ PyData.leavesShort 14 d = true
  | _, .int i h => by
    have lg : i.natAbs.log2 < 44 := PySem.Flt.log2_lt_of (by decide) (Nat.lt_trans h (by decide))
    refine ⟨?_, by rw [PyData.hasDict], ?_⟩
    · rw [PyData.showable]
      exact decide_eq_true (by omega)
    · rw [PyData.leavesShort]
      refine decide_eq_true ?_
      show (Str.ofString (toString i)).length ≤ 14
      rw [PySem.ofString_length]
      exact int_text_length_le10 (k := 13) (by decide) h
  | _, .str x h => ⟨by rw [PyData.showable], by rw [PyData.hasDict], by rw [PyData.leavesShort]; exact h⟩
  | _, .tup r => by
    obtain ⟨a, b, c⟩ := LfAll.shows r
    exact ⟨by rw [PyData.showable]; exact a, by rw [PyData.hasDict]; exact b, by rw [PyData.leavesShort]; exact c⟩
theorem LfAll.shows : ∀ {ds : List PyData}, LfAll ds → PyData.showableAll ds = true ∧ PyData.hasDictAll ds = false ∧ PyData.leavesShortAll 14 ds = true
  | _, .nil => ⟨rfl, rfl, rfl⟩
  | _, .cons h r => by
    obtain ⟨a, b, c⟩ := Lf.shows h
    obtain ⟨a2, b2, c2⟩ := LfAll.shows r
    exact ⟨by rw [PyData.showableAll, a, a2]; rfl, by rw [PyData.hasDictAll, b, b2]; rfl, by rw [PyData.leavesShortAll, c, c2]; rfl⟩
end
theorem Lf.showy {d : PyData} (h : Lf d) (dp : d.depth ≤ 60) (wt : d.weight ≤ 100000) : Showy d := by
  obtain ⟨a, b, c⟩ := h.shows
  refine ⟨a, b, dp, ?_⟩
  have z := PyData.shown_le 14 (by decide) d c
  have e : sizeLine = 16777216 := sizeLine_eq
  omega
theorem lf_rep {d : PyData} (h : Lf d) : ∀ n, LfAll (List.replicate n d)
  | 0 => .nil
  | n + 1 => .cons h (lf_rep h n)
theorem lf_map {α : Type} {f : α → PyData} : ∀ {l : List α}, (∀ x ∈ l, Lf (f x)) → LfAll (l.map f)
  | [], _ => .nil
  | x :: r, h => .cons (h x List.mem_cons_self) (lf_map fun y hy => h y (List.mem_cons_of_mem _ hy))
theorem dep_map {α : Type} {f : α → PyData} {m : Nat} : ∀ {l : List α}, (∀ x ∈ l, (f x).depth ≤ m) → PyData.depthAll (l.map f) ≤ m
  | [], _ => Nat.zero_le _
  | x :: r, h => by
    rw [List.map_cons, PyData.depthAll]
    exact Nat.max_le.mpr ⟨h x List.mem_cons_self, dep_map fun y hy => h y (List.mem_cons_of_mem _ hy)⟩
theorem wt_map {α : Type} {f : α → PyData} {m : Nat} : ∀ {l : List α}, (∀ x ∈ l, (f x).weight ≤ m) → PyData.weightAll (l.map f) ≤ (m + 1) * l.length
  | [], _ => Nat.zero_le _
  | x :: r, h => by
    have a := h x List.mem_cons_self
    have b := wt_map (l := r) fun y hy => h y (List.mem_cons_of_mem _ hy)
    rw [List.map_cons, PyData.weightAll, List.length_cons, Nat.mul_succ]
    omega
theorem rep_map {d : PyData} (n : Nat) : List.replicate n d = (List.range n).map fun _ => d := by
  rw [List.map_const', List.length_range]
theorem wt_one : (PyData.int 1).weight = 1 := by rfl
theorem dep_one : (PyData.int 1).depth = 0 := by rfl
/-- repr, where nothing is being shown -/
structure RRepr (K : PySem.W.Frag) (xs : List V) (H : Hp) (Q : VK) : Prop where
  h : (xs = [.non] ∧ Q (.str "None") H) ∨ (∃ i, xs = [.int i] ∧ i.natAbs.log2 < 1920 ∧ Q (.str (toString i)) H) ∨ ∃ a d, xs = [.ref a] ∧ Dp K H (.ref a) d ∧ Showy d ∧ Q (.str d.shown) H
theorem call_reprW {X : Cx} (hgd : X.A.guards = some []) (hu : X.A.units + 64 < cLine) : CallR X (.builtin "repr") (RRepr X.K) := fun pins s σ H xs us Q I r h => call_reprV hgd hu pins s σ H xs us Q I r h.h
/-- a tuple's repr -/
theorem tp_reprT {K : PySem.W.Frag} {H : Hp} {v : V} {ds : List PyData} {Q : VK} (t : Tp H v (.tuple ds)) (ok : Showy (.tuple ds)) (q : Q (.str (PyData.tuple ds).shown) H) : RRepr K [v] H Q := by
  cases t with
  | tup h r => exact ⟨.inr (.inr ⟨_, _, rfl, (Tp.tup h r).dp, ok, q⟩)⟩
theorem Lf.showy2 {d : PyData} (h : Lf d) (dp : d.depth ≤ 60) (wt : d.bulk ≤ 900000) : Showy d := by
  obtain ⟨a, b, c⟩ := h.shows
  refine ⟨a, b, dp, ?_⟩
  have z := PyData.shown_le_bulk 14 (by decide) d c
  have e : sizeLine = 16777216 := sizeLine_eq
  omega

/-! ### t[::-1] of a tuple -/
theorem rev_places (n : Nat) : Builtin.Slice.sliceAdjust none none (-1) (n : Int) = ((n : Int) - 1, -1) ∧ Builtin.Slice.slicePlaces ((n : Int) - 1) (-1) (-1) = n := by
  refine ⟨rfl, ?_⟩
  unfold Builtin.Slice.slicePlaces
  rw [if_neg (by decide)]
  by_cases h : (n : Int) - 1 > -1
  · rw [if_pos h, show (-(-1) : Int) = 1 from rfl, Int.ediv_one]
    omega
  · rw [if_neg h]
    omega
theorem rev_pick (xs : Array Value) : ((List.range xs.size).filterMap fun (m : Nat) => xs[(((xs.size : Int) - 1) + (m : Int) * (-1)).toNat]?).toArray = xs.toList.reverse.toArray := by
  congr 1
  have e : ∀ k, k ≤ xs.size → ((List.range k).filterMap fun (m : Nat) => xs[(((xs.size : Int) - 1) + (m : Int) * (-1)).toNat]?) = (xs.toList.drop (xs.size - k)).reverse := by
    intro k
    induction k with
    | zero =>
      intro _
      rw [Nat.sub_zero, List.drop_eq_nil_of_le (by rw [Array.length_toList]; exact Nat.le_refl _)]
      rfl
    | succ k ih =>
      intro hk
      have z : (((xs.size : Int) - 1) + (k : Int) * (-1)).toNat = xs.size - (k + 1) := by omega
      have l : xs.size - (k + 1) < xs.toList.length := by rw [Array.length_toList]; omega
      rw [List.range_succ, List.filterMap_append, ih (by omega), List.drop_eq_getElem_cons l, List.reverse_cons, show xs.size - (k + 1) + 1 = xs.size - k by omega]
      congr 1
      show ([k].filterMap fun (m : Nat) => xs[(((xs.size : Int) - 1) + (m : Int) * (-1)).toNat]?) = _
      rw [List.filterMap_cons, z]
      have g : xs[xs.size - (k + 1)]? = some xs.toList[xs.size - (k + 1)] := by
        rw [← Array.getElem?_toList, List.getElem?_eq_getElem l]
      rw [g]
      rfl
  rw [e _ (Nat.le_refl _), Nat.sub_self, List.drop_zero]
section
variable {prog : Program} {w : World} {A : Around} {E : Value → Shared → Prop} {s : Shared}
theorem getItem_tuple_rev {t sl : Addr} {items : Array Value} {vs : Value} {Q : Value → Shared → Prop} (ht : IsTup s.heap t items) (hs : s.heap.IsSliceOf sl .none .none vs) (ps : IsPart vs (some (-1)))
    (h : Q (.ref s.heap.objs.size) { s with heap := s.heap.push { cls := .type "tuple", data := .seq items.toList.reverse.toArray } }) (hsz : items.size ≤ sizeLine) : wpAny (model prog w) A (getItem (.ref t) (.ref sl)) Q E s := by
  have fits : sizeOk (.seq items.toList.reverse.toArray) := by
    show items.toList.reverse.toArray.size ≤ sizeLine
    rw [List.size_toArray, List.length_reverse, Array.length_toList]
    exact hsz
  obtain ⟨os, hos, hcs, hds⟩ := id hs
  have kind : s.TypeIs (.ref sl) "slice" := ⟨os, hos, hcs⟩
  unfold getItem
  try with_reducible refine wpAny_holding ?_
  first
    | refine wpAny_bind (wpAny_pure ?_)
    | skip
  refine wpAny_bind (wpAny_sequenceKey ht.typeIs (by decide) ?_)
  refine wpAny_bind (wpAny_callSpecial?_slot (name := Str.ofString "__getitem__") ht.typeIs PyProof.Rows.slot_tuple_getitem (wpAny_call_entry PyProof.Rows.slot_tuple_getitem ht.typeIs entry_tuple_getitem ?_ (args_tuple_getitem _ _)))
  show wpAny _ _ (Builtin.Tuple.tupleItemsOf (.ref t) >>= _) _ _ s
  refine wpAny_bind (tupleItemsOf_ ht ?_)
  refine wpAny_bind (wpAny_typeOf kind ?_)
  rw [if_pos (by decide)]
  refine wpAny_bind ?_
  unfold Builtin.Slice.sliceApplied Builtin.Slice.sliceFields
  refine wpAny_bind (wpAny_bind (wpAny_field hos hds (x := .none) rfl (wpAny_bind (wpAny_field hos hds (x := .none) rfl (wpAny_bind (wpAny_field hos hds (x := vs) rfl (wpAny_pure ?_)))))))
  refine wpAny_bind (HT.slicePart_ ps ?_)
  show wpAny _ _ (if ((-1 : Int) == 0) = true then _ else _) _ _ s
  rw [if_neg (by decide)]
  refine wpAny_bind (HT.slicePart_ .none (wpAny_bind (HT.slicePart_ .none (wpAny_bind (wpAny_pure ?_)))))
  obtain ⟨r1, r2⟩ := rev_places items.size
  show wpAny _ _ (match Builtin.Slice.sliceAdjust none none (-1) (items.size : Int) with | (lo, hi) => pure (lo, (-1 : Int), Builtin.Slice.slicePlaces lo hi (-1))) _ _ s
  rw [r1]
  show wpAny _ _ (pure (((items.size : Int) - 1), (-1 : Int), Builtin.Slice.slicePlaces ((items.size : Int) - 1) (-1) (-1))) _ _ s
  rw [r2]
  refine wpAny_pure ?_
  have hno : ¬ ((((items.size : Int) - 1) == 0 && (-1 : Int) == 1 && items.size == items.size) = true) := by
    rw [show ((-1 : Int) == 1) = false from rfl, Bool.and_false, Bool.false_and]
    exact Bool.false_ne_true
  show wpAny _ _ (if ((((items.size : Int) - 1) == 0 && (-1 : Int) == 1 && items.size == items.size) = true) then _ else _) _ _ s
  rw [if_neg hno, rev_pick]
  first
    | exact wpAny_bind (m := Builtin.Tuple.tupleExact _) (wpAny_newObj_type (wpAny_pure ⟨_, rfl, wpAny_pure h⟩) fits)
    | exact wpAny_bind (m := Builtin.Tuple.tupleExact _) (wpAny_newObj_type (wpAny_bind (wpAny_pure (wpAny_pure ⟨_, rfl, wpAny_pure h⟩))) fits)
    | exact wpAny_bind (wpAny_bind (m := Builtin.Tuple.tupleExact _) (wpAny_newObj_type (wpAny_pure (wpAny_pure ⟨_, rfl, wpAny_pure h⟩)) fits))
    | exact wpAny_bind (wpAny_bind (m := Builtin.Tuple.tupleExact _) (wpAny_newObj_type (wpAny_pure ⟨_, rfl, wpAny_pure h⟩) fits))
end
def tRevT (K : PySem.W.Frag) (te : TE) : TE := fun σ H Q => te σ H fun x H1 => ∃ a xs, x = .ref a ∧ SqT K H1 a xs ∧ ∀ p, H1 p = none → Q (.ref p) (upd H1 p (.tup xs.reverse))
section
variable {X : Cx}
theorem pe_revT {e : Expr} {te : TE} {k : Nat} {p1 p2 p3 pos : Pos} (he : PE X e te) : PE X (.Subscript e (.Slice none none (some (.UnaryOp .USub (.Constant (.int 1) k p1) p2)) p3) pos) (tRevT X.K te) := by
  refine ⟨fun pins s σ H Q I h => ?_⟩
  refine Subscript_ (thn (he.run pins s σ H _ I h) fun v s1 ⟨x, H1, I1, r1, q1⟩ => ?_)
  obtain ⟨a, xs, ex, hx, q⟩ := q1
  subst ex
  cases r1
  have minus : PO X (some (.UnaryOp .USub (.Constant (.int 1) k p1) p2)) (tPart (tUn (rU fun i => .int (-i)) (tC (.int 1)))) := po_some (pe_un un_neg pe_int)
  refine wpAny_Slice (thn (po_none.run pins s1 σ H1 (fun o H2 => o = none ∧ H2 = H1) I1 ⟨rfl, rfl⟩) fun vl s2 ⟨l, H2, I2, pl, el, e2⟩ => ?_)
  subst el e2
  refine thn (po_none.run pins s2 σ H2 (fun o H3 => o = none ∧ H3 = H2) I2 ⟨rfl, rfl⟩) fun vu s3 ⟨u, H3, I3, pu, eu, e3⟩ => ?_
  subst eu e3
  refine thn (minus.run pins s3 σ H3 (fun o H4 => o = some (-1) ∧ H4 = H3) I3 ⟨1, rfl, -1, rfl, rfl, rfl⟩) fun vs s4 ⟨o, H4, I4, ps, eo, e4⟩ => ?_
  subst eo e4
  cases pl
  cases pu
  have I5 : Inv X pins σ H4 { s4 with heap := s4.heap.push { cls := .type "slice", data := .fields #[.none, .none, vs] } } := I4.kept (t' := s4.toks) fun b ob z => Heap.get?_push_of_some _ z
  obtain ⟨its, r, ht, hz⟩ := I5.tuple hx
  have hlen := r.length
  show wpAny (model X.prog X.w) X.A (subscriptTail e (.Slice none none (some (.UnaryOp .USub (.Constant (.int 1) k p1) p2)) p3) (.ref a) (.ref s4.heap.objs.size)) (EP X pins σ Q) X.xe { s4 with heap := s4.heap.push { cls := .type "slice", data := .fields #[.none, .none, vs] } }
  refine tail_any (ops := [.ref a, .ref s4.heap.objs.size]) ht.typeIs (PyProof.Rows.slot_tuple_getitem.lookup) ?_ (by with_unfolding_all rfl)
  refine getItem_tuple_rev ht (Heap.IsSliceOf.new _ .none .none vs) ps ?_ (by rw [List.size_toArray]; omega)
  exact ⟨.ref _, _, I5.laid (t' := s4.toks) (o := .tup xs.reverse) (fun b ob z => Heap.get?_push_of_some _ z) (Nat.le_refl _) ⟨by rw [List.length_reverse]; exact hz, _, r.reverse, IsTup.new _ _⟩, rfl, q _ (I5.hok.fresh (Nat.le_refl _))⟩
theorem pe_revTK {K : PySem.W.Frag} {e : Expr} {te : TE} {k : Nat} {p1 p2 p3 pos : Pos} (hK : X.K = K) (he : PE X e te) : PE X (.Subscript e (.Slice none none (some (.UnaryOp .USub (.Constant (.int 1) k p1) p2)) p3) pos) (tRevT K te) := hK ▸ pe_revT he
end

/-! ### t[::k] of a tuple, k 1 or -1 -/
section
variable {prog : Program} {w : World} {A : Around} {E : Value → Shared → Prop} {s : Shared}
theorem one_places (n : Nat) : Builtin.Slice.sliceAdjust none none 1 (n : Int) = (0, (n : Int)) ∧ Builtin.Slice.slicePlaces 0 (n : Int) 1 = n := by
  refine ⟨rfl, ?_⟩
  unfold Builtin.Slice.slicePlaces
  rw [if_pos (by decide)]
  by_cases h : (0 : Int) < (n : Int)
  · rw [if_pos h, Int.ediv_one]
    omega
  · rw [if_neg h]
    omega
theorem getItem_tuple_one {t sl : Addr} {items : Array Value} {vs : Value} {Q : Value → Shared → Prop} (ht : IsTup s.heap t items) (hs : s.heap.IsSliceOf sl .none .none vs) (ps : IsPart vs (some 1))
    (h : Q (.ref t) s) : wpAny (model prog w) A (getItem (.ref t) (.ref sl)) Q E s := by
  obtain ⟨os, hos, hcs, hds⟩ := id hs
  have kind : s.TypeIs (.ref sl) "slice" := ⟨os, hos, hcs⟩
  unfold getItem
  try with_reducible refine wpAny_holding ?_
  first
    | refine wpAny_bind (wpAny_pure ?_)
    | skip
  refine wpAny_bind (wpAny_sequenceKey ht.typeIs (by decide) ?_)
  refine wpAny_bind (wpAny_callSpecial?_slot (name := Str.ofString "__getitem__") ht.typeIs PyProof.Rows.slot_tuple_getitem (wpAny_call_entry PyProof.Rows.slot_tuple_getitem ht.typeIs entry_tuple_getitem ?_ (args_tuple_getitem _ _)))
  show wpAny _ _ (Builtin.Tuple.tupleItemsOf (.ref t) >>= _) _ _ s
  refine wpAny_bind (tupleItemsOf_ ht ?_)
  refine wpAny_bind (wpAny_typeOf kind ?_)
  rw [if_pos (by decide)]
  refine wpAny_bind ?_
  unfold Builtin.Slice.sliceApplied Builtin.Slice.sliceFields
  refine wpAny_bind (wpAny_bind (wpAny_field hos hds (x := .none) rfl (wpAny_bind (wpAny_field hos hds (x := .none) rfl (wpAny_bind (wpAny_field hos hds (x := vs) rfl (wpAny_pure ?_)))))))
  refine wpAny_bind (HT.slicePart_ ps ?_)
  show wpAny _ _ (if ((1 : Int) == 0) = true then _ else _) _ _ s
  rw [if_neg (by decide)]
  refine wpAny_bind (HT.slicePart_ .none (wpAny_bind (HT.slicePart_ .none (wpAny_bind (wpAny_pure ?_)))))
  obtain ⟨r1, r2⟩ := one_places items.size
  show wpAny _ _ (match Builtin.Slice.sliceAdjust none none 1 (items.size : Int) with | (lo, hi) => pure (lo, (1 : Int), Builtin.Slice.slicePlaces lo hi 1)) _ _ s
  rw [r1]
  show wpAny _ _ (pure ((0 : Int), (1 : Int), Builtin.Slice.slicePlaces 0 (items.size : Int) 1)) _ _ s
  rw [r2]
  refine wpAny_pure ?_
  have hyes : (((0 : Int) == 0 && (1 : Int) == 1 && items.size == items.size) = true) := by simp
  show wpAny _ _ (if (((0 : Int) == 0 && (1 : Int) == 1 && items.size == items.size) = true) then _ else _) _ _ s
  rw [if_pos hyes]
  refine wpAny_bind ?_
  show wpAny _ _ (typeOf (.ref t) >>= fun T => pure (T == .type "tuple")) _ _ s
  refine wpAny_bind (wpAny_typeOf ht.typeIs (wpAny_pure ?_))
  first
    | rw [if_pos (by decide)]
    | simp only [beq_self_eq_true, if_true]
  first
    | exact wpAny_bind (wpAny_rule (wpAny_pure ⟨_, rfl, wpAny_pure h⟩))
    | exact wpAny_bind (wpAny_rule (wpAny_bind (wpAny_pure (wpAny_pure ⟨_, rfl, wpAny_pure h⟩))))
end
def tStVT (K : PySem.W.Frag) (te ts : TE) : TE := fun σ H Q => te σ H fun x H1 => tPart ts σ H1 fun o H2 => ∃ (a : Addr) (xs : List V), x = .ref a ∧ SqT K H2 a xs ∧ ((o = some 1 ∧ Q (.ref a) H2) ∨ (o = some (-1) ∧ ∀ p, H2 p = none → Q (.ref p) (upd H2 p (.tup xs.reverse))))
section
variable {X : Cx}
theorem pe_stVT {e es : Expr} {te ts : TE} {p3 pos : Pos} (he : PE X e te) (hs : PE X es ts) : PE X (.Subscript e (.Slice none none (some es) p3) pos) (tStVT X.K te ts) := by
  refine ⟨fun pins s σ H Q I h => ?_⟩
  refine Subscript_ (thn (he.run pins s σ H _ I h) fun v s1 ⟨x, H1, I1, r1, q1⟩ => ?_)
  have hst : PO X (some es) (tPart ts) := po_some hs
  refine wpAny_Slice (thn (po_none.run pins s1 σ H1 (fun o H2 => o = none ∧ H2 = H1) I1 ⟨rfl, rfl⟩) fun vl s2 ⟨l, H2, I2, pl, el, e2⟩ => ?_)
  subst el e2
  refine thn (po_none.run pins s2 σ H2 (fun o H3 => o = none ∧ H3 = H2) I2 ⟨rfl, rfl⟩) fun vu s3 ⟨u, H3, I3, pu, eu, e3⟩ => ?_
  subst eu e3
  refine thn (hst.run pins s3 σ H3 (fun o H4 => ∃ (a : Addr) (xs : List V), x = .ref a ∧ SqT X.K H4 a xs ∧ ((o = some 1 ∧ Q (.ref a) H4) ∨ (o = some (-1) ∧ ∀ p, H4 p = none → Q (.ref p) (upd H4 p (.tup xs.reverse))))) I3 q1) fun vs s4 ⟨o, H4, I4, ps, a, xs, ex, hx, q⟩ => ?_
  subst ex
  cases r1
  cases pl
  cases pu
  have I5 : Inv X pins σ H4 { s4 with heap := s4.heap.push { cls := .type "slice", data := .fields #[.none, .none, vs] } } := I4.kept (t' := s4.toks) fun b ob q => Heap.get?_push_of_some _ q
  obtain ⟨its, r, ht, hz⟩ := I5.tuple hx
  have hlen := r.length
  show wpAny (model X.prog X.w) X.A (subscriptTail e (.Slice none none (some es) p3) (.ref a) (.ref s4.heap.objs.size)) (EP X pins σ Q) X.xe { s4 with heap := s4.heap.push { cls := .type "slice", data := .fields #[.none, .none, vs] } }
  refine tail_any (ops := [.ref a, .ref s4.heap.objs.size]) ht.typeIs (PyProof.Rows.slot_tuple_getitem.lookup) ?_ (by with_unfolding_all rfl)
  rcases q with ⟨rfl, q⟩ | ⟨rfl, q⟩
  · exact getItem_tuple_one ht (Heap.IsSliceOf.new _ .none .none vs) ps ⟨.ref a, H4, I5, rfl, q⟩
  · refine getItem_tuple_rev ht (Heap.IsSliceOf.new _ .none .none vs) ps ?_ (by rw [List.size_toArray]; omega)
    exact ⟨.ref _, _, I5.laid (t' := s4.toks) (o := .tup xs.reverse) (fun b ob z => Heap.get?_push_of_some _ z) (Nat.le_refl _) ⟨by rw [List.length_reverse]; exact hz, _, r.reverse, IsTup.new _ _⟩, rfl, q _ (I5.hok.fresh (Nat.le_refl _))⟩
end

/-! ### texts: constants, join within a comprehension -/
theorem pe_constS {X : Cx} {x : Str} {z : Str} {pos : Pos} (hm : ∃ t, X.mg x = some (.str z t)) (hg : Gl X x) (hd : (x == ("__debug__" : Str)) = false := by decide) : PE X (.Name x pos) (tC (.str z)) := by
  obtain ⟨t, hm⟩ := hm
  exact pe_glob hg hm ⟨t, rfl⟩ hd
def rJoin (K : PySem.W.Frag) : V → List V → Hp → VK → Prop := fun x xs H Q => ∃ a p, ∃ ys : List Str, x = .str a ∧ xs = [.ref p] ∧ (SqL K H p (ys.map V.str) ∨ SqT K H p (ys.map V.str)) ∧ (ys.map (·.length)).sum + ys.length * a.length ≤ 16777216 ∧ Q (.str (Txt.join a ys)) H
theorem pe_joinK {X : Cx} {K : PySem.W.Frag} {o e : Expr} {to te : TE} {apos pos : Pos} (hK : X.K = K) (ho : PE X o to) (he : PE X e te) (hs : starEach [e] X.env = [(false, eval e X.env)] := by rfl) (hbase : attributeBase o "join" X.env (eval o X.env) = eval o X.env := by rfl) (hline : (apos.endLine == pos.line) = true := by rfl) :
    PE X (.Call (.Attribute o "join" apos) [e] [] pos) (tM1 (rJoin K) to te) := hK ▸ pe_join ho he hs hbase hline
theorem pt_truthK {X : Cx} {K : PySem.W.Frag} {a : Expr} {ta : TE} (hK : X.K = K) (ha : PE X a ta) (he : ∀ whole, isTrue a X.env whole = (do let v ← whole; standAt a.pos; holding [v] (truthy v))) :
    PT X a (fun σ H Q => ta σ H fun x H' => ∃ k, TruV K x H' k ∧ Q k H') := hK ▸ pt_truth ha he
theorem pe_orTK {X : Cx} {K : PySem.W.Frag} {a b : Expr} {ta tb : TE} {rest : List Expr} {pos : Pos} (hK : X.K = K) (ha : PE X a ta) (hb : PE X (.BoolOp .Or (b :: rest) pos) tb) : PE X (.BoolOp .Or (a :: b :: rest) pos) (tOrT K ta tb) := hK ▸ pe_orT ha hb
/-! ### a number's text, read back -/
abbrev numS (i : Int) : Str := Str.ofString (toString i)
theorem toString_neg {n : Nat} (h : 0 < n) : toString (-(n : Int)) = "-" ++ toString n := by
  cases n with
  | zero => omega
  | succ m => rfl
theorem tl_numS_nat (n : Nat) : TL.tl (numS (n : Int)) = TL.numL n := TL.tl_num n
theorem tl_numS_neg {n : Nat} (h : 0 < n) : TL.tl (numS (-(n : Int))) = 45 :: TL.numL n := by
  show TL.tl (Str.ofString (toString (-(n : Int)))) = _
  rw [toString_neg h, TL.tl_ofString, String.toList_append, List.map_append]
  have e := TL.tl_num n
  rw [TL.tl_ofString] at e
  have e2 : (toString ((n : Nat) : Int)) = toString n := rfl
  rw [e2] at e
  rw [e]
  rfl
theorem num_cases (i : Int) : (∃ n : Nat, i = n ∧ TL.tl (numS i) = TL.numL n) ∨ ∃ n : Nat, 0 < n ∧ i = -(n : Int) ∧ TL.tl (numS i) = 45 :: TL.numL n := by
  by_cases h : 0 ≤ i
  · obtain ⟨n, rfl⟩ := Int.eq_ofNat_of_zero_le h
    exact .inl ⟨n, rfl, tl_numS_nat n⟩
  · refine .inr ⟨i.natAbs, by omega, by omega, ?_⟩
    have e : i = -(i.natAbs : Int) := by omega
    rw [e, tl_numS_neg (by omega)]
    rw [show (-(i.natAbs : Int)).natAbs = i.natAbs by omega]
theorem num_free {i : Int} {s : Nat} (h : (s < 48 ∨ 57 < s) ∧ s ≠ 45) : s ∉ TL.tl (numS i) := by
  rcases num_cases i with ⟨n, rfl, e⟩ | ⟨n, _, rfl, e⟩ <;> rw [e]
  · exact TL.numL_free h.1
  · intro z
    rcases List.mem_cons.mp z with z | z
    · exact h.2 z
    · exact TL.numL_free h.1 z
theorem num_len {i : Int} (h : i.natAbs ≤ 10 ^ 12) : (numS i).length ≤ 14 := by
  have big : i.natAbs < 10 ^ 13 := Nat.lt_of_le_of_lt h (by decide)
  rw [TL.len_tl]
  rcases num_cases i with ⟨n, rfl, e⟩ | ⟨n, _, rfl, e⟩ <;> rw [e]
  · have := TL.numL_len (k := 13) (by decide) (show n < 10 ^ 13 by omega)
    omega
  · have := TL.numL_len (k := 13) (by decide) (show n < 10 ^ 13 by omega)
    rw [List.length_cons]
    omega
theorem num_ne (i : Int) : TL.tl (numS i) ≠ [] := by
  rcases num_cases i with ⟨n, _, e⟩ | ⟨n, _, _, e⟩ <;> rw [e]
  · exact TL.numL_ne n
  · simp

theorem iteFd {p : Prop} [Decidable p] {A B : Prop} (h : ¬ p) (b : B) : if decide p = true then A else B := by
  rw [if_neg fun z => h (of_decide_eq_true z)]
  exact b
theorem iteTd {p : Prop} [Decidable p] {A B : Prop} (h : p) (a : A) : if decide p = true then A else B := by
  rw [if_pos (decide_eq_true h)]
  exact a

/-! ### comprehensions whose items are told by a relation that stays -/
section
variable {K : PySem.W.Frag} {a : Addr} {xs : List V} {te : TE} {vs : List Nat} {σ : L2.St} {H : Hp} {D : Addr} {Qd : Hp → Prop} {j : Nat}
/-- what is told of the items so far -/
structure RelAt (Rel : Nat → V → Hp → Prop) (D : Addr) (i : Nat) (H H' : Hp) : Prop where
  sm : Same H H'
  ys : ∃ ys, H' D = some (.lst ys) ∧ ys.length = i ∧ ∀ (k : Nat) y, ys[k]? = some y → Rel k y H'
theorem rel_turn {Rel : Nat → V → Hp → Prop} {i : Nat} {x : V} {H' : Hp} {P : Hp → Prop} (keep : ∀ i y H1 H2, Rel i y H1 → Same H1 H2 → Rel i y H2) (mu : ∀ i y H1 l o, H1 D = some (.lst l) → Rel i y H1 → Rel i y (upd H1 D o)) (hD : H D = none)
    (wip : wipe ((wipe σ vs).set j (some x)) vs = wipe σ vs) (r : RelAt Rel D i H H') (small : i < 1000000) (he : ∀ R : VK, (∀ y H'', Same H' H'' → Rel i y H'' → R y H'') → te ((wipe σ vs).set j (some x)) H' R) (k : ∀ H'', RelAt Rel D (i + 1) H H'' → P H'') :
    gName j x (wipe σ vs) H' fun σ2 H2 => wipe σ2 vs = wipe σ vs ∧ tYes σ2 H2 fun b H3 => if b = true then te σ2 H3 fun y H4 => ∃ acc, H4 D = some (.lst acc) ∧ acc.length < sizeLine ∧ P (upd H4 D (.lst (acc ++ [y]))) else P H3 := by
  have line : 1000000 < sizeLine := by decide
  obtain ⟨sm, ys, hd, hl, hr⟩ := r
  refine ⟨wip, yes_go (he _ fun y H4 s4 ry => ⟨ys, s4 _ _ hd, by omega, k _ ⟨fun b o e => ?_, ys ++ [y], upd_same, by rw [List.length_append, hl]; rfl, fun m z hz => ?_⟩⟩)⟩
  · rw [upd_ne (ne_of_none e hD)]
    exact s4 _ _ (sm _ _ e)
  · refine mu _ _ _ _ _ (s4 _ _ hd) ?_
    by_cases c : m < ys.length
    · rw [List.getElem?_append_left c] at hz
      exact keep _ _ _ _ (hr m z hz) s4
    · rw [List.getElem?_append_right (by omega)] at hz
      have l := (List.getElem?_eq_some_iff.mp hz).1
      simp only [List.length_cons, List.length_nil] at l
      have e0 : m - ys.length = 0 := by omega
      rw [e0] at hz
      cases hz
      have em : m = i := by omega
      rw [em]
      exact ry
theorem rel_zero {Rel : Nat → V → Hp → Prop} (hD : H D = none) : RelAt Rel D 0 H (upd H D (.lst [])) := ⟨same_new hD, [], upd_same, rfl, fun k y e => by simp at e⟩
theorem lc_relL (Rel : Nat → V → Hp → Prop) (keep : ∀ i y H1 H2, Rel i y H1 → Same H1 H2 → Rel i y H2) (mu : ∀ i y H1 l o, H1 D = some (.lst l) → Rel i y H1 → Rel i y (upd H1 D o)) (hx : SqL K H a xs) (hD : H D = none) (hz : xs.length ≤ 1000000)
    (wip : ∀ x, wipe ((wipe σ vs).set j (some x)) vs = wipe σ vs) (he : ∀ (i : Nat) x, xs[i]? = some x → ∀ H', Same H H' → ∀ R : VK, (∀ y H'', Same H' H'' → Rel i y H'' → R y H'') → te ((wipe σ vs).set j (some x)) H' R)
    (k : ∀ H' ys, Same H H' → H' D = some (.lst ys) → ys.length = xs.length → (∀ (i : Nat) y, ys[i]? = some y → Rel i y H') → Qd H') :
    ∃ W : Nat → Nat → Hp → Prop, (∃ m, W 0 m (upd H D (.lst []))) ∧ ∀ i m H, W i m H →
      ((Itl K a).stop i H ∧ Qd H) ∨ ((Itl K a).go i H ∧ ∃ Nx : Hp → Prop, (∀ H', Nx H' → ∃ m', m' < m ∧ W (i + 1) m' H') ∧ ∀ x H', (Itl K a).yld i H x H' → gName j x (wipe σ vs) H' fun σ2 H2 => wipe σ2 vs = wipe σ vs ∧ tYes σ2 H2 fun b H3 =>
        if b = true then te σ2 H3 fun y H4 => ∃ acc, H4 D = some (.lst acc) ∧ acc.length < sizeLine ∧ Nx (upd H4 D (.lst (acc ++ [y]))) else Nx H3) := by
  refine lc_list (xs := xs) (RelAt Rel D · H) (rel_zero hD) (fun i H' _ p => p.sm.seq hx) (fun i x H' hi p => ?_) fun H' p => ?_
  · have li := (List.getElem?_eq_some_iff.mp hi).1
    exact rel_turn keep mu hD (wip x) p (by omega) (he i x hi H' p.sm) fun H'' q => q
  · obtain ⟨sm, ys, hd, hl, hr⟩ := p
    exact k H' ys sm hd hl hr
theorem lc_relT (Rel : Nat → V → Hp → Prop) (keep : ∀ i y H1 H2, Rel i y H1 → Same H1 H2 → Rel i y H2) (mu : ∀ i y H1 l o, H1 D = some (.lst l) → Rel i y H1 → Rel i y (upd H1 D o)) (hx : SqT K H a xs) (hD : H D = none) (hz : xs.length ≤ 1000000)
    (wip : ∀ x, wipe ((wipe σ vs).set j (some x)) vs = wipe σ vs) (he : ∀ (i : Nat) x, xs[i]? = some x → ∀ H', Same H H' → ∀ R : VK, (∀ y H'', Same H' H'' → Rel i y H'' → R y H'') → te ((wipe σ vs).set j (some x)) H' R)
    (k : ∀ H' ys, Same H H' → H' D = some (.lst ys) → ys.length = xs.length → (∀ (i : Nat) y, ys[i]? = some y → Rel i y H') → Qd H') :
    ∃ W : Nat → Nat → Hp → Prop, (∃ m, W 0 m (upd H D (.lst []))) ∧ ∀ i m H, W i m H →
      ((Itt K a).stop i H ∧ Qd H) ∨ ((Itt K a).go i H ∧ ∃ Nx : Hp → Prop, (∀ H', Nx H' → ∃ m', m' < m ∧ W (i + 1) m' H') ∧ ∀ x H', (Itt K a).yld i H x H' → gName j x (wipe σ vs) H' fun σ2 H2 => wipe σ2 vs = wipe σ vs ∧ tYes σ2 H2 fun b H3 =>
        if b = true then te σ2 H3 fun y H4 => ∃ acc, H4 D = some (.lst acc) ∧ acc.length < sizeLine ∧ Nx (upd H4 D (.lst (acc ++ [y]))) else Nx H3) := by
  refine lc_tup (xs := xs) (RelAt Rel D · H) (rel_zero hD) (fun i H' _ p => Same.seqT p.sm hx) (fun i x H' hi p => ?_) fun H' p => ?_
  · have li := (List.getElem?_eq_some_iff.mp hi).1
    exact rel_turn keep mu hD (wip x) p (by omega) (he i x hi H' p.sm) fun H'' q => q
  · obtain ⟨sm, ys, hd, hl, hr⟩ := p
    exact k H' ys sm hd hl hr
theorem eq_of_get {α : Type} {xs ys : List α} (hl : ys.length = xs.length) (h : ∀ (i : Nat) y, ys[i]? = some y → xs[i]? = some y) : ys = xs := by
  refine List.ext_getElem? fun i => ?_
  by_cases c : i < ys.length
  · rw [List.getElem?_eq_getElem c, h i _ (List.getElem?_eq_getElem c)]
  · rw [List.getElem?_eq_none (by omega), List.getElem?_eq_none (by omega)]
/-- the items are known ahead -/
theorem lc_mapL (zs : List V) (hn : zs.length = xs.length) (hx : SqL K H a xs) (hD : H D = none) (hz : xs.length ≤ 1000000)
    (wip : ∀ x, wipe ((wipe σ vs).set j (some x)) vs = wipe σ vs) (he : ∀ (i : Nat) x z, xs[i]? = some x → zs[i]? = some z → ∀ H', Same H H' → ∀ R : VK, (∀ H'', Same H' H'' → R z H'') → te ((wipe σ vs).set j (some x)) H' R)
    (k : ∀ H', Same H H' → H' D = some (.lst zs) → Qd H') :
    ∃ W : Nat → Nat → Hp → Prop, (∃ m, W 0 m (upd H D (.lst []))) ∧ ∀ i m H, W i m H →
      ((Itl K a).stop i H ∧ Qd H) ∨ ((Itl K a).go i H ∧ ∃ Nx : Hp → Prop, (∀ H', Nx H' → ∃ m', m' < m ∧ W (i + 1) m' H') ∧ ∀ x H', (Itl K a).yld i H x H' → gName j x (wipe σ vs) H' fun σ2 H2 => wipe σ2 vs = wipe σ vs ∧ tYes σ2 H2 fun b H3 =>
        if b = true then te σ2 H3 fun y H4 => ∃ acc, H4 D = some (.lst acc) ∧ acc.length < sizeLine ∧ Nx (upd H4 D (.lst (acc ++ [y]))) else Nx H3) := by
  refine lc_relL (fun i y _ => zs[i]? = some y) (fun _ _ _ _ r _ => r) (fun _ _ _ _ _ _ r => r) hx hD hz wip (fun i x hi H' s' R g => ?_) fun H' ys s' hd hl hr => k H' s' (by rw [hd, eq_of_get (by omega) hr])
  have li := (List.getElem?_eq_some_iff.mp hi).1
  exact he i x _ hi (List.getElem?_eq_getElem (by omega)) H' s' R fun H'' s'' => g _ H'' s'' (List.getElem?_eq_getElem (by omega))
end

/-! ### rows and texts of clauses -/
def wordS (c : List Int) : Str := Txt.join " " (c.map numS)
def rowS (c : List Int) : Str := if c = [] then "none" else wordS c
def textS (cs : List (List Int)) : Str := Txt.join "\n" (cs.map rowS)
structure OkC (c : List Int) : Prop where
  nd : (c.map absI).Nodup
  lim : ∀ x ∈ c, 1 ≤ absI x ∧ absI x ≤ 1000000000000
  few : c.length ≤ 64
theorem absI_nat (x : Int) : absI x = (x.natAbs : Int) := by
  unfold absI
  split <;> omega
theorem OkC.small {c : List Int} (h : OkC c) {x : Int} (hx : x ∈ c) : x.natAbs ≤ 10 ^ 12 := by
  have := h.lim x hx
  rw [absI_nat] at this
  have p : (10 : Nat) ^ 12 = 1000000000000 := by decide
  omega
theorem OkC.tup {c : List Int} (h : OkC c) : tupB (c.map V.int) = true := by
  unfold tupB
  rw [List.length_map, decide_eq_true h.few, Bool.true_and]
  have a : (c.map V.int).all markV = true := by
    rw [List.all_eq_true]
    intro v hv
    obtain ⟨x, hx, rfl⟩ := List.mem_map.mp hv
    have := h.lim x hx
    show (decide (1 ≤ absI x) && decide (absI x ≤ 1000000000000)) = true
    rw [decide_eq_true this.1, decide_eq_true this.2]
    rfl
  rw [a, Bool.true_and]
  refine decide_eq_true ?_
  rw [List.map_map]
  exact h.nd
theorem tl_blank : TL.tl (" " : Str) = [32] := by decide
theorem tl_feed : TL.tl ("\n" : Str) = [10] := by decide
theorem tl_none : TL.tl ("none" : Str) = [110, 111, 110, 101] := by decide
theorem joinL_free {s : Nat} {S : List Nat} (hS : s ∉ S) : ∀ {ps : List (List Nat)}, (∀ p ∈ ps, s ∉ p) → s ∉ TL.joinL S ps
  | [], _ => by
    intro z
    cases z
  | [p], h => h p List.mem_cons_self
  | p :: q :: r, h => by
    intro z
    have z : s ∈ p ++ (S ++ TL.joinL S (q :: r)) := z
    rcases List.mem_append.mp z with z | z
    · exact h p List.mem_cons_self z
    · rcases List.mem_append.mp z with z | z
      · exact hS z
      · exact joinL_free hS (fun y hy => h y (List.mem_cons_of_mem _ hy)) z
theorem joinL_len {S : List Nat} {b : Nat} (hb : S.length ≤ 1) : ∀ {ps : List (List Nat)}, (∀ p ∈ ps, p.length ≤ b) → (TL.joinL S ps).length ≤ (b + 1) * ps.length
  | [], _ => Nat.zero_le _
  | [p], h => by
    have := h p List.mem_cons_self
    show p.length ≤ (b + 1) * 1
    omega
  | p :: q :: r, h => by
    have h1 := h p List.mem_cons_self
    have h2 := joinL_len (b := b) hb (ps := q :: r) fun y hy => h y (List.mem_cons_of_mem _ hy)
    show (p ++ (S ++ TL.joinL S (q :: r))).length ≤ _
    rw [List.length_append, List.length_append, List.length_cons, Nat.mul_succ]
    omega
theorem tl_word (c : List Int) : TL.tl (wordS c) = TL.joinL [32] (c.map fun x => TL.tl (numS x)) := by
  unfold wordS
  rw [TL.join_eq, TL.tl_join, tl_blank, List.map_map]
  rfl
theorem word_free {c : List Int} : 10 ∉ TL.tl (wordS c) := by
  rw [tl_word]
  refine joinL_free (by decide) fun p hp => ?_
  obtain ⟨x, _, rfl⟩ := List.mem_map.mp hp
  exact num_free ⟨.inl (by decide), by decide⟩
theorem row_free {c : List Int} : 10 ∉ TL.tl (rowS c) := by
  unfold rowS
  split
  · rw [tl_none]
    decide
  · exact word_free
theorem word_len {c : List Int} (h : ∀ x ∈ c, x.natAbs ≤ 10 ^ 12) : (wordS c).length ≤ 15 * c.length := by
  rw [TL.len_tl, tl_word]
  have := joinL_len (S := [32]) (b := 14) (by decide) (ps := c.map fun x => TL.tl (numS x)) fun p hp => by
    obtain ⟨x, hx, rfl⟩ := List.mem_map.mp hp
    rw [← TL.len_tl]
    exact num_len (h x hx)
  rw [List.length_map] at this
  exact this
theorem row_len {c : List Int} (h : OkC c) : (rowS c).length ≤ 960 := by
  unfold rowS
  split
  · show (4 : Nat) ≤ 960
    decide
  · have := word_len (c := c) fun x hx => h.small hx
    have := h.few
    omega
theorem text_tl (cs : List (List Int)) : TL.tl (textS cs) = TL.joinL [10] (cs.map fun c => TL.tl (rowS c)) := by
  unfold textS
  rw [TL.join_eq, TL.tl_join, tl_feed, List.map_map]
  rfl
theorem text_len {cs : List (List Int)} (h : ∀ c ∈ cs, OkC c) : (textS cs).length ≤ 961 * cs.length := by
  rw [TL.len_tl, text_tl]
  have := joinL_len (S := [10]) (b := 960) (by decide) (ps := cs.map fun c => TL.tl (rowS c)) fun p hp => by
    obtain ⟨c, hc, rfl⟩ := List.mem_map.mp hp
    rw [← TL.len_tl]
    exact row_len (h c hc)
  rw [List.length_map] at this
  exact this
theorem joinL_head {S p : List Nat} {r : List (List Nat)} {x : Nat} {q : List Nat} (h : p = x :: q) : ∃ t, TL.joinL S (p :: r) = x :: t := by
  subst h
  cases r with
  | nil => exact ⟨q, rfl⟩
  | cons y z => exact ⟨q ++ (S ++ TL.joinL S (y :: z)), rfl⟩
theorem num_head (i : Int) : ∃ x q, TL.tl (numS i) = x :: q ∧ (x = 45 ∨ (48 ≤ x ∧ x ≤ 57)) := by
  rcases num_cases i with ⟨n, _, e⟩ | ⟨n, _, _, e⟩
  · cases hn : TL.numL n with
    | nil => exact absurd hn (TL.numL_ne n)
    | cons x q =>
      have := TL.numL_digits n x (by rw [hn]; exact List.mem_cons_self)
      exact ⟨x, q, by rw [e, hn], .inr this⟩
  · exact ⟨45, _, e, .inl rfl⟩
theorem word_head {x : Int} {c : List Int} : ∃ h t, TL.tl (wordS (x :: c)) = h :: t ∧ (h = 45 ∨ (48 ≤ h ∧ h ≤ 57)) := by
  obtain ⟨h, q, e, lim⟩ := num_head x
  rw [tl_word, List.map_cons]
  obtain ⟨t, et⟩ := joinL_head (S := [32]) (r := c.map fun x => TL.tl (numS x)) e
  exact ⟨h, t, et, lim⟩
theorem word_not_none {x : Int} {c : List Int} : wordS (x :: c) ≠ ("none" : Str) := fun z => by
  obtain ⟨h, t, e, lim⟩ := word_head (x := x) (c := c)
  rw [z, tl_none] at e
  injection e with e1 _
  omega
theorem row_ne (c : List Int) : ∃ h t, TL.tl (rowS c) = h :: t := by
  unfold rowS
  cases c with
  | nil => exact ⟨110, [111, 110, 101], tl_none⟩
  | cons x r =>
    rw [if_neg (by simp)]
    obtain ⟨h, t, e, _⟩ := word_head (x := x) (c := r)
    exact ⟨h, t, e⟩
theorem text_ne {c : List Int} {cs : List (List Int)} : textS (c :: cs) ≠ ("" : Str) := fun z => by
  have e := text_tl (c :: cs)
  obtain ⟨h, t, er⟩ := row_ne c
  rw [List.map_cons] at e
  obtain ⟨u, eu⟩ := joinL_head (S := [10]) (r := cs.map fun c => TL.tl (rowS c)) er
  rw [eu, z] at e
  have : TL.tl ("" : Str) = [] := by decide
  rw [this] at e
  cases e
theorem text_split {c : List Int} {cs : List (List Int)} : Txt.split (textS (c :: cs)) "\n" = (c :: cs).map rowS :=
  TL.split_join tl_feed (by decide +kernel) (by simp) fun p hp => by
    obtain ⟨d, _, rfl⟩ := List.mem_map.mp hp
    exact row_free
theorem row_split {x : Int} {c : List Int} : Txt.split (wordS (x :: c)) " " = (x :: c).map numS :=
  TL.split_join tl_blank (by decide +kernel) (by simp) fun p hp => by
    obtain ⟨d, _, rfl⟩ := List.mem_map.mp hp
    exact num_free ⟨.inl (by decide), by decide⟩
/-! ### a number's figures -/
theorem starts_minus (i : Int) : Txt.startswith (numS i) "-" = decide (i < 0) := by
  have key : Txt.startswith (numS i) "-" = ((TL.tl (numS i)).take 1 == [45]) := by
    have e : (1 : Nat) ≤ (numS i).length := by
      rw [TL.len_tl]
      exact List.length_pos_iff.mpr (num_ne i)
    show (decide (0 + 1 ≤ (numS i).length) && Builtin.Str.subAt (numS i) "-" 0) = _
    rw [decide_eq_true (by omega), Bool.true_and, StrLaws.subAt_eq]
    rfl
  rw [key]
  rcases num_cases i with ⟨n, rfl, e⟩ | ⟨n, h0, rfl, e⟩ <;> rw [e]
  · rw [decide_eq_false (by omega)]
    cases hn : TL.numL n with
    | nil => rfl
    | cons x q =>
      have := TL.numL_digits n x (by rw [hn]; exact List.mem_cons_self)
      show ([x] == [45]) = false
      rw [beq_eq_false_iff_ne]
      intro z
      injection z with z
      omega
  · rw [decide_eq_true (by omega)]
    rfl
/-- a number's figures -/
def figS (i : Int) : Str := if i < 0 then cutS (numS i) (some 1) none else numS i
theorem tl_fig (i : Int) : TL.tl (figS i) = TL.numL i.natAbs := by
  unfold figS
  rcases num_cases i with ⟨n, rfl, e⟩ | ⟨n, h0, rfl, e⟩
  · rw [if_neg (by omega), e]
    rfl
  · rw [if_pos (by omega)]
    have l : (numS (-(n : Int))).length = (TL.numL n).length + 1 := by
      rw [TL.len_tl, e]
      rfl
    unfold cutS
    have h1 : HT.sIx (numS (-(n : Int))).length 0 (some (1 : Int)) = 1 := by
      have := HT.sIx_nat (numS (-(n : Int))).length 0 1
      rw [show ((1 : Nat) : Int) = (1 : Int) from rfl] at this
      rw [this]
      omega
    rw [h1, HT.sIx_none]
    show List.take _ (List.drop 1 (TL.tl (numS (-(n : Int))))) = _
    rw [e, l]
    show List.take ((TL.numL n).length + 1 - 1) (TL.numL n) = TL.numL (-(n : Int)).natAbs
    rw [Nat.add_sub_cancel, List.take_length, show (-(n : Int)).natAbs = n by omega]
theorem fig_len {i : Int} (h : i.natAbs ≤ 10 ^ 12) : 1 ≤ (figS i).length ∧ (figS i).length ≤ 13 := by
  rw [TL.len_tl, tl_fig]
  exact ⟨List.length_pos_iff.mpr (TL.numL_ne _), TL.numL_len (by decide) (Nat.lt_of_le_of_lt h (by decide))⟩
theorem fig_in {i : Int} {c : Nat} (h : c ∈ (figS i).cps.toList) : decide (c ∈ ("0123456789" : Str).cps.toList) = true := by
  have h : c ∈ TL.tl (figS i) := h
  rw [tl_fig] at h
  have l := TL.numL_digits _ c h
  have : c = 48 ∨ c = 49 ∨ c = 50 ∨ c = 51 ∨ c = 52 ∨ c = 53 ∨ c = 54 ∨ c = 55 ∨ c = 56 ∨ c = 57 := by omega
  rcases this with rfl | rfl | rfl | rfl | rfl | rfl | rfl | rfl | rfl | rfl <;> decide
theorem int_back {i : Int} (h : i.natAbs ≤ 10 ^ 12) : PySem.intText? (numS i) = some i := by
  have big : i.natAbs < 10 ^ 13 := Nat.lt_of_le_of_lt h (by decide)
  have l14 := num_len h
  rcases num_cases i with ⟨n, rfl, e⟩ | ⟨n, h0, rfl, e⟩
  · refine TL.int_num ?_
    have := TL.numL_len (k := 13) (by decide) (show n < 10 ^ 13 by omega)
    omega
  · have z := intText_neg (x := numS (-(n : Int))) e (TL.numL_digits n) (TL.numL_ne n) (by omega)
    rw [z, TL.numL_val]
/-! ### the program's defs -/
def spShowM : Sp := fun vs H Q _ => ∃ (a : Addr) (c : List Int), vs = [.ref a] ∧ H a = some (.tup (c.map V.int)) ∧ c.length ≤ 64 ∧ (∀ x ∈ c, x.natAbs ≤ 10 ^ 12) ∧ ∀ H', Same H H' → Q (.str (wordS c)) H'
theorem sum_lens {α : Type} {b : Nat} {f : α → Str} : ∀ {l : List α}, (∀ x ∈ l, (f x).length ≤ b) → ((l.map f).map (·.length)).sum ≤ b * l.length
  | [], _ => Nat.zero_le _
  | x :: r, h => by
    have a := h x List.mem_cons_self
    have c := sum_lens (l := r) fun y hy => h y (List.mem_cons_of_mem _ hy)
    rw [List.map_cons, List.map_cons, List.sum_cons, List.length_cons, Nat.mul_succ]
    omega
section
variable {P : Program} {w : World} {K : PySem.W.Frag} {mg : Str → Option Value} {base : Heap}
theorem small_log {x : Int} (h : x.natAbs ≤ 10 ^ 12) : x.natAbs.log2 < 1920 := by
  have : x.natAbs.log2 < 44 := PySem.Flt.log2_lt_of (by decide) (Nat.lt_of_le_of_lt h (by decide))
  omega
theorem has_showM (T : Top K mg) : Has P w K mg base 1 "show_marks" ["marks"] spShowM := by
  refine has_of T.d_show_marks sc_show_marks bd_show_marks (fun vs H Q E h => ?_) (fun f cdv A outer s H vs Q E hr h => ?_)
  · obtain ⟨a, c, rfl, _⟩ := h
    rfl
  · have hu := hu_of hr
    have nd := sc_show_marks.nd
    obtain ⟨a, c, rfl, ha, hl, lim, k⟩ := h
    refine ⟨_, (pss_one (ps_ret (pe_joinK (K := K) rfl pe_str (pe_lc (own := [("mark", 1)]) (by rfl) nd (pi_tup (pv 0)) (blkOk_by (own := [("mark", 1)]) (N := nm_show_marks) (sc := defScope s_show_marks) (by decide +kernel)) (fun _ _ _ _ _ => pg_name (i := 1) nd rfl (.inl rfl)) (fun _ _ _ _ _ => pts_nil) (fun _ _ _ _ _ => (pe_callTy call_str_int (by rfl) T.b_str (by decide +kernel) (pa_cons (pv 1) pa_nil))))))), ?_⟩
    refine ⟨⟨_, rfl⟩, _, rfl, a, rfl, ⟨_, SqT.of ha⟩, fun D hD => lc_sel_tup (fun _ => true) (fun x => match x with | .int m => V.str (numS m) | v => v) (SqT.of ha) hD (by rw [List.length_map]; omega) (fun x hm => ?_) fun H1 s1 h1 => ?_⟩
    · obtain ⟨m, hm2, rfl⟩ := List.mem_map.mp hm
      exact ⟨rfl, fun Ha sa R g => g Ha (Same.refl _), fun _ Ha sa R g => ⟨_, rfl, m, rfl, small_log (lim m hm2), g Ha (Same.refl _)⟩⟩
    have e1 : (((c.map V.int).filter fun _ => true).map fun x => match x with | .int m => V.str (numS m) | v => v) = (c.map numS).map V.str := by
      rw [filter_all, List.map_map, List.map_map]
      rfl
    rw [e1] at h1
    refine ⟨_, D, c.map numS, rfl, rfl, .inl (SqL.of h1), ?_, k H1 s1⟩
    have := sum_lens (b := 14) (f := numS) (l := c) fun x hx => num_len (lim x hx)
    rw [List.length_map]
    show _ + c.length * 1 ≤ _
    omega
def spShowC (K : PySem.W.Frag) : Sp := fun vs H Q _ => ∃ (a : Addr) (qs : List Addr) (cs : List (List Int)), vs = [.ref a] ∧ Cs H a qs cs ∧ cs.length ≤ 100 ∧ (∀ c ∈ cs, OkC c) ∧ ∀ H', Same H H' → Q (.str (textS cs)) H'
theorem has_showC (T : Top K mg) (h_show_marks : Has P w K mg base 1 "show_marks" ["marks"] spShowM) : Has P w K mg base 2 "show_clauses" ["clauses"] (spShowC K) := by
  refine has_of T.d_show_clauses sc_show_clauses bd_show_clauses (fun vs H Q E h => ?_) (fun f cdv A outer s H vs Q E hr h => ?_)
  · obtain ⟨a, qs, cs, rfl, _⟩ := h
    rfl
  · have hu := hu_of hr
    have nd := sc_show_clauses.nd
    obtain ⟨a, qs, cs, rfl, hc, few, ok, k⟩ := h
    have hn := hc.n
    refine ⟨_, (pss_one (ps_ret (pe_joinK (K := K) rfl pe_str (pe_lc (own := [("clause", 1)]) (by rfl) nd (pi_list (pv 0)) (blkOk_by (own := [("clause", 1)]) (N := nm_show_clauses) (sc := defScope s_show_clauses) (by decide +kernel)) (fun _ _ _ _ _ => pg_name (i := 1) nd rfl (.inl rfl)) (fun _ _ _ _ _ => pts_nil) (fun _ _ _ _ _ => (pe_ifExp (pt_truthK (K := K) rfl (pv 1) (by intro _; rfl)) (pe_has h_show_marks (hr.mono (by omega)) (by rfl) (pa_cons (pv 1) pa_nil)) pe_str)))))), ?_⟩
    refine ⟨⟨_, rfl⟩, _, rfl, a, rfl, ⟨_, SqL.of hc.l⟩, fun D hD => lc_mapL ((cs.map rowS).map V.str) (by rw [List.length_map, List.length_map, List.length_map]; omega) (SqL.of hc.l) hD (by rw [List.length_map]; omega) (fun _ => rfl) (fun i x z hx hz Ha sa R g => ?_) fun H1 s1 h1 => ?_⟩
    · rw [List.getElem?_map] at hx
      rw [List.getElem?_map, List.getElem?_map] at hz
      cases eq : qs[i]? with
      | none => rw [eq] at hx; cases hx
      | some q =>
        cases ec : cs[i]? with
        | none => rw [ec] at hz; cases hz
        | some c =>
          rw [eq] at hx
          rw [ec] at hz
          cases hx
          cases hz
          have hq := sa _ _ (hc.t i q c eq ec)
          have okc := ok c (List.mem_of_getElem? ec)
          refine ⟨_, rfl, _, .inr (.inl ⟨_, SqT.of hq, rfl⟩), ?_⟩
          cases c with
          | nil => exact iteF (g Ha (Same.refl _))
          | cons y r =>
            refine iteT ⟨_, rfl, q, y :: r, rfl, hq, okc.few, fun x hx => okc.small hx, fun Hb sb => ?_⟩
            have := g Hb sb
            unfold rowS at this
            rw [if_neg (by simp)] at this
            exact this
    refine ⟨_, D, cs.map rowS, rfl, rfl, .inl (SqL.of h1), ?_, k H1 s1⟩
    have := sum_lens (b := 960) (f := rowS) (l := cs) fun c hc => row_len (ok c hc)
    rw [List.length_map]
    show _ + cs.length * 1 ≤ _
    omega
def spRows : Sp := fun vs H Q _ => ∃ (cs : List (List Int)), vs = [.str (textS cs)] ∧ cs.length ≤ 100 ∧ (∀ c ∈ cs, OkC c) ∧ ∀ H' p, Same H H' → H p = none → H' p = some (.lst ((cs.map rowS).map V.str)) → Q (.ref p) H'
theorem has_rows (T : Top K mg) : Has P w K mg base 1 "_rows_in" ["text"] spRows := by
  refine has_of T.d__rows_in sc__rows_in bd__rows_in (fun vs H Q E h => ?_) (fun f cdv A outer s H vs Q E hr h => ?_)
  · obtain ⟨cs, rfl, _⟩ := h
    rfl
  · have hu := hu_of hr
    have nd := sc__rows_in.nd
    obtain ⟨cs, rfl, few, ok, k⟩ := h
    refine ⟨_, (pss_cons (ps_if (pt_cmpR op_eq (pv 0) pe_str (nomark _)) (pss_one (ps_ret (pe_lst pa_nil))) pss_nil)
    (pss_one (ps_ret (pe_split (pv 0) pe_str)))), ?_⟩
    have line : 1000000 < sizeLine := by decide
    refine ⟨_, rfl, rfl, _, rfl, ?_⟩
    cases cs with
    | nil => exact iteTd rfl ⟨by show 0 ≤ sizeLine; decide, fun p hp => k _ p (same_new hp) hp upd_same⟩
    | cons c r =>
      refine iteFd (fun z => text_ne (V.str.inj z)) ⟨_, rfl, ⟨_, rfl⟩, _, _, rfl, rfl, by decide, ?_, fun p hp => ?_⟩
      · have := text_len (cs := c :: r) ok
        omega
      · have e := text_split (c := c) (cs := r)
        rw [e]
        exact k _ p (same_new hp) hp upd_same
def spNumber : Sp := fun vs H Q _ => ∃ (i : Int), vs = [.str (numS i)] ∧ i.natAbs ≤ 10 ^ 12 ∧ ∀ H', Same H H' → Q (.int i) H'
theorem has_number (T : Top K mg) : Has P w K mg base 1 "_number_in" ["word"] spNumber := by
  refine has_of T.d__number_in sc__number_in bd__number_in (fun vs H Q E h => ?_) (fun f cdv A outer s H vs Q E hr h => ?_)
  · obtain ⟨i, rfl, _⟩ := h
    rfl
  · have hu := hu_of hr
    have nd := sc__number_in.nd
    obtain ⟨i, rfl, lim, k⟩ := h
    refine ⟨_, (C8.pss_cut (ps_set (i := 1) nd rfl (.inl rfl) (pe_ifExp (pt_val (pe_m1 F.slot_str_startswith F.type_str_startswith mt_startswith (pv 0) pe_str)) (pe_slice sl_str (pv 0) (po_some pe_int) po_none) (pv 0)))
    (pss_cons (ps_if (PW.pt (pw_or (pt_not (pt_chain op_le op_le pe_int (pe_callB call_len_str (by rfl) T.b_len (by decide +kernel) (pa_cons (pv 1) pa_nil)) (pe_const T.c_MOST_FIGURES (by rfl)))) (pw_or1 (pt_not (pt_val (pe_callB (cr_all rfl) (by rfl) T.b_all (by decide +kernel) (pa_cons (pe_lc (own := [("figure", 2)]) (by rfl) nd (pi_str (pv 1)) (blkOk_by (own := [("figure", 2)]) (N := nm__number_in) (sc := defScope s__number_in) (by decide +kernel)) (fun _ _ _ _ _ => pg_name (i := 2) nd rfl (.inl rfl)) (fun _ _ _ _ _ => pts_nil) (fun _ _ _ _ _ => (pe_cmpR op_in_sign (pv 2) (pe_constS T.c_FIGURES (by rfl)) (by rfl)))) pa_nil))))))) (pss_one (ps_ret pe_non)) pss_nil)
    (pss_one (ps_ret (pe_callTy call_int_str (by rfl) T.b_int (by decide +kernel) (pa_cons (pv 0) pa_nil)))))), ?_⟩
    have line : 1000000 < sizeLine := by decide
    have l14 := num_len lim
    have fl := fig_len lim
    refine ⟨fun σ' H' => σ' = [some (.str (numS i)), some (.str (figS i)), none] ∧ H' = H, ⟨_, rfl, ⟨_, rfl⟩, _, _, rfl, rfl, _, rfl, ?_⟩, ?_⟩
    · rw [starts_minus]
      by_cases neg : i < 0
      · rw [decide_eq_true neg]
        refine iteT ⟨_, rfl, _, rfl, _, rfl, by omega, ?_, rfl⟩
        have e : cutS (numS i) (some 1) none = figS i := by
          unfold figS
          rw [if_pos neg]
        rw [← e]
        rfl
      · rw [decide_eq_false neg]
        refine iteF ⟨_, rfl, ?_, rfl⟩
        have e : figS i = numS i := by
          unfold figS
          rw [if_neg neg]
        rw [e]
        rfl
    · rintro σ' H' ⟨rfl, rfl⟩
      refine ⟨_, rfl, _, rfl, by omega, _, _, rfl, rfl, _, rfl, iteTd (by omega) ⟨_, _, rfl, rfl, _, rfl, ?_⟩⟩
      rw [decide_eq_true (by omega)]
      refine iteF ⟨_, rfl, _, rfl, fun D hD => lc_it walk_str (fun n H1 => Same H' H1 ∧ H1 D = some (.lst ((List.replicate n true).map V.bl))) ⟨same_new hD, upd_same⟩ (fun _ _ _ _ => trivial) (fun n x H1 H2 hn p y => ?_) fun H1 p => ?_⟩
      · obtain ⟨s1, h1⟩ := p
        obtain ⟨rfl, c, hc, rfl⟩ := y
        have mem : c ∈ (figS i).cps.toList := by
          rw [Array.mem_toList_iff]
          exact Array.mem_of_getElem? hc
        refine ⟨rfl, yes_go ⟨_, rfl, c, _, rfl, rfl, ?_⟩⟩
        rw [fig_in mem]
        have l13 : (figS i).cps.size ≤ 13 := fl.2
        refine ⟨_, h1, by rw [List.length_map, List.length_replicate]; omega, fun b o e => ?_, ?_⟩
        · rw [upd_ne (ne_of_none e hD)]
          exact s1 _ _ e
        · rw [upd_same, List.replicate_succ', List.map_append]
          rfl
      · obtain ⟨s1, h1⟩ := p
        refine ⟨D, _, rfl, SqL.of h1, _, rfl, ?_⟩
        have e : (List.replicate (figS i).cps.size true).all id = true := by
          rw [List.all_eq_true]
          intro b hb
          exact (List.mem_replicate.mp hb).2
        rw [e]
        exact iteF ⟨_, rfl, numS i, i, rfl, int_back lim, by omega, k H1 s1⟩
def spClauseIn : Sp := fun vs H Q _ => ∃ (c : List Int), vs = [.str (rowS c)] ∧ OkC c ∧ ∀ H' p, Same H H' → H' p = some (.tup (c.map V.int)) → Q (.ref p) H'
theorem has_clauseIn (T : Top K mg) (h__number_in : Has P w K mg base 1 "_number_in" ["word"] spNumber) : Has P w K mg base 2 "_clause_in" ["row"] spClauseIn := by
  refine has_of T.d__clause_in sc__clause_in bd__clause_in (fun vs H Q E h => ?_) (fun f cdv A outer s H vs Q E hr h => ?_)
  · obtain ⟨c, rfl, _⟩ := h
    rfl
  · have hu := hu_of hr
    have nd := sc__clause_in.nd
    obtain ⟨c, rfl, ok, k⟩ := h
    refine ⟨_, (pss_cons (ps_if (pt_cmpR op_eq (pv 0) pe_str (nomark _)) (pss_one (ps_ret (pe_tup pa_nil))) pss_nil)
    (pss_one (ps_ret (pe_callTy call_tuple_of (by rfl) T.b_tuple (by decide +kernel) (pa_cons (pe_lc (own := [("word", 1)]) (by rfl) nd (pi_list (pe_split (pv 0) pe_str)) (blkOk_by (own := [("word", 1)]) (N := nm__clause_in) (sc := defScope s__clause_in) (by decide +kernel)) (fun _ _ _ _ _ => pg_name (i := 1) nd rfl (.inl rfl)) (fun _ _ _ _ _ => pts_nil) (fun _ _ _ _ _ => (pe_has h__number_in (hr.mono (by omega)) (by rfl) (pa_cons (pv 1) pa_nil)))) pa_nil))))), ?_⟩
    have line : 1000000 < sizeLine := by decide
    refine ⟨_, rfl, rfl, _, rfl, ?_⟩
    cases c with
    | nil => exact iteTd rfl ⟨by show 0 ≤ sizeLine; decide, fun p hp => k _ p (same_new hp) upd_same⟩
    | cons x r =>
      have er : rowS (x :: r) = wordS (x :: r) := by
        unfold rowS
        rw [if_neg (by simp)]
      rw [er]
      have wl := word_len (c := x :: r) fun y hy => ok.small hy
      have few := ok.few
      refine iteFd (fun z => word_not_none (V.str.inj z)) ⟨_, rfl, ⟨_, rfl⟩, _, _, rfl, rfl, by decide, by omega, fun W hW => ?_⟩
      rw [row_split]
      have sW := same_new (o := .lst (((x :: r).map numS).map V.str)) hW
      have hW1 : (upd H W (.lst (((x :: r).map numS).map V.str))) W = some (.lst (((x :: r).map numS).map V.str)) := upd_same
      generalize upd H W (.lst (((x :: r).map numS).map V.str)) = H1 at sW hW1
      refine ⟨W, rfl, ⟨_, SqL.of hW1⟩, fun D hD => lc_mapL ((x :: r).map V.int) (by rw [List.length_map, List.length_map, List.length_map]) (SqL.of hW1) hD (by rw [List.length_map, List.length_map]; omega) (fun _ => rfl) (fun i y z hy hz Ha sa R g => ?_) fun H2 s2 h2 => ?_⟩
      · rw [List.getElem?_map, List.getElem?_map] at hy
        rw [List.getElem?_map] at hz
        cases e : (x :: r)[i]? with
        | none => rw [e] at hy; cases hy
        | some m =>
          rw [e] at hy hz
          cases hy
          cases hz
          exact ⟨_, rfl, m, rfl, ok.small (List.mem_of_getElem? e), fun Hb sb => g Hb sb⟩
      · exact ⟨D, _, rfl, .inl ⟨SqL.of h2, fun p hp => k _ p (sW.trans (s2.trans (same_new hp))) upd_same⟩⟩
/-- the text of clauses, read -/
def spRead (K : PySem.W.Frag) : Sp := fun vs H Q _ => ∃ (cs : List (List Int)), vs = [.str (textS cs)] ∧ cs.length ≤ 100 ∧ (∀ c ∈ cs, OkC c) ∧ ∀ H' p qs, Same H H' → H p = none → Cs H' p qs cs → Q (.ref p) H'
theorem has_read (T : Top K mg) (h__rows_in : Has P w K mg base 1 "_rows_in" ["text"] spRows) (h__clause_in : Has P w K mg base 2 "_clause_in" ["row"] spClauseIn) (h_show_clauses : Has P w K mg base 2 "show_clauses" ["clauses"] (spShowC K))
    (h_is_clause : Has P w K mg base 3 "is_clause" ["thing"] spClause) : Has P w K mg base 4 "read_clauses" ["text"] (spRead K) := by
  refine has_of T.d_read_clauses sc_read_clauses bd_read_clauses (fun vs H Q E h => ?_) (fun f cdv A outer s H vs Q E hr h => ?_)
  · obtain ⟨cs, rfl, _⟩ := h
    rfl
  · have hu := hu_of hr
    have nd := sc_read_clauses.nd
    obtain ⟨cs, rfl, few, ok, k⟩ := h
    refine ⟨_, (pss_cons (ps_setLc (i := 1) (own := [("row", 2)]) (by rfl) nd rfl rfl (sw_true rfl rfl rfl (by decide +kernel)) (pi_list (pe_has h__rows_in (hr.mono (by omega)) (by rfl) (pa_cons (pv 0) pa_nil))) (blkOk_by (own := [("row", 2)]) (N := nm_read_clauses) (sc := defScope s_read_clauses) (by decide +kernel)) (fun _ _ _ _ _ => pg_name (i := 2) nd rfl (.inl rfl)) (fun _ _ _ _ _ => pts_nil) (fun _ _ _ _ _ => (pe_has h__clause_in (hr.mono (by omega)) (by rfl) (pa_cons (pv 2) pa_nil))))
    (pss_cons (ps_if (PW.pt (pw_or (pt_not (pt_val (pe_callB (cr_all rfl) (by rfl) T.b_all (by decide +kernel) (pa_cons (pe_lc (own := [("clause", 3)]) (by rfl) nd (pi_list (pv 1)) (blkOk_by (own := [("clause", 3)]) (N := nm_read_clauses) (sc := defScope s_read_clauses) (by decide +kernel)) (fun _ _ _ _ _ => pg_name (i := 3) nd rfl (.inl rfl)) (fun _ _ _ _ _ => pts_nil) (fun _ _ _ _ _ => (pe_has h_is_clause (hr.mono (by omega)) (by rfl) (pa_cons (pv 3) pa_nil)))) pa_nil)))) (pw_or1 (pt_cmpR op_ne (pe_has h_show_clauses (hr.mono (by omega)) (by rfl) (pa_cons (pv 1) pa_nil)) (pv 0) (nomark _))))) (pss_one ps_never) pss_nil)
    (pss_one (ps_ret (pv 1))))), ?_⟩
    have line : 1000000 < sizeLine := by decide
    refine ⟨_, rfl, cs, rfl, few, ok, fun H1 W s1 nW hW => ⟨W, rfl, ⟨_, SqL.of hW⟩, fun D hD => lc_relL (fun i y G => ∃ (q : Addr) (c : List Int), y = V.ref q ∧ cs[i]? = some c ∧ G q = some (.tup (c.map V.int))) ?_ ?_ (SqL.of hW) hD (by rw [List.length_map, List.length_map]; omega) (fun _ => rfl) (fun i x hx Ha sa R g => ?_) fun H2 ys s2 h2 ly ry => ?_⟩⟩
    · rintro i y H1 H2 ⟨q, c, e1, e2, e3⟩ s
      exact ⟨q, c, e1, e2, s _ _ e3⟩
    · rintro i y H1 l o hl ⟨q, c, e1, e2, e3⟩
      exact ⟨q, c, e1, e2, by rw [upd_ne (ne_of e3 hl (by intro z; cases z))]; exact e3⟩
    · rw [List.getElem?_map, List.getElem?_map] at hx
      cases e : cs[i]? with
      | none => rw [e] at hx; cases hx
      | some c =>
        rw [e] at hx
        cases hx
        exact ⟨_, rfl, c, rfl, ok c (List.mem_of_getElem? e), fun Hb p sb hp => g _ Hb sb ⟨p, c, rfl, e, hp⟩⟩
    · have hn : ys.length = cs.length := by rw [ly, List.length_map, List.length_map]
      have hD1 : H D = none := s1.free hD
      have C2 : ∃ qs : List Addr, Cs H2 D qs cs := by
        have key : ∀ (zs : List V) (ds : List (List Int)), zs.length = ds.length → (∀ (i : Nat) y, zs[i]? = some y → ∃ (q : Addr) (c : List Int), y = V.ref q ∧ ds[i]? = some c ∧ H2 q = some (.tup (c.map V.int))) → ∃ qs : List Addr, zs = qs.map V.ref ∧ ∀ (i : Nat) q c, qs[i]? = some q → ds[i]? = some c → H2 q = some (.tup (c.map V.int)) := by
          intro zs
          induction zs with
          | nil => exact fun ds _ _ => ⟨[], rfl, fun i q c e => by simp at e⟩
          | cons z zs ih =>
            intro ds hl h
            cases ds with
            | nil => cases hl
            | cons d ds =>
              obtain ⟨q, c, e1, e2, e3⟩ := h 0 z rfl
              cases e2
              obtain ⟨qs, e4, h4⟩ := ih ds (Nat.succ.inj hl) fun i y hy => h (i + 1) y hy
              refine ⟨q :: qs, by rw [e1, e4]; rfl, fun i q' c' h1 h2 => ?_⟩
              cases i with
              | zero =>
                cases h1
                cases h2
                exact e3
              | succ i => exact h4 i q' c' h1 h2
        obtain ⟨qs, e, h⟩ := key ys cs hn ry
        refine ⟨qs, by rw [h2, e], ?_, h⟩
        rw [← hn, e, List.length_map]
      obtain ⟨qs, C2⟩ := C2
      have cn := C2.n
      refine ⟨_, rfl, D, rfl, ⟨_, SqL.of C2.l⟩, fun E2 hE => lc_mapL (qs.map fun _ => V.bl true) (by rw [List.length_map, List.length_map]) (SqL.of C2.l) hE (by rw [List.length_map]; omega) (fun _ => rfl) (fun i x z hx hz Ha sa R g => ?_) fun H3 s3 h3 => ?_⟩
      · rw [List.getElem?_map] at hx hz
        cases e : qs[i]? with
        | none => rw [e] at hx; cases hx
        | some q =>
          rw [e] at hx hz
          cases hx
          cases hz
          have li := (List.getElem?_eq_some_iff.mp e).1
          have ec : cs[i]? = some cs[i] := List.getElem?_eq_getElem (by omega)
          have okc := ok _ (List.mem_of_getElem? ec)
          have hq := sa _ _ (C2.t i q _ e ec)
          refine ⟨_, rfl, .ref q, rfl, ⟨.tup hq, fun a xs ea hxs => ?_⟩, fun Hb sb => ?_⟩
          · cases ea
            rw [hq] at hxs
            injection hxs with hxs
            injection hxs with hxs
            subst hxs
            refine ⟨fun y hy => ?_, by rw [List.length_map]; have := okc.few; omega⟩
            obtain ⟨m, _, rfl⟩ := List.mem_map.mp hy
            exact .int m
          · rw [clauseB_tup hq, okc.tup]
            exact g Hb sb
      · have h3 : H3 E2 = some (.lst ((qs.map fun _ => true).map V.bl)) := by
          rw [h3, List.map_map]
          rfl
        refine ⟨E2, _, rfl, SqL.of h3, _, rfl, ?_⟩
        have e : (qs.map fun _ => true).all id = true := by
          rw [List.all_eq_true]
          intro b hb
          obtain ⟨_, _, rfl⟩ := List.mem_map.mp hb
          rfl
        rw [e]
        refine iteF ⟨_, rfl, D, qs, cs, rfl, C2.same s3, few, ok, fun H4 s4 => ⟨_, rfl, rfl, _, rfl, ?_⟩⟩
        exact iteNS rfl ⟨_, rfl, k H4 D qs (s1.trans (s2.trans (s3.trans s4))) hD1 ((C2.same s3).same s4)⟩
theorem lf_lst {l : List PyData} (h : ∀ d ∈ l, Lf d) : PyData.showable (.list l) = true ∧ PyData.hasDict (.list l) = false ∧ PyData.leavesShort 14 (.list l) = true := by
  have hl : LfAll l := by
    induction l with
    | nil => exact .nil
    | cons d r ih => exact .cons (h d List.mem_cons_self) (ih fun e he => h e (List.mem_cons_of_mem _ he))
  obtain ⟨a, b, c⟩ := LfAll.shows hl
  exact ⟨by rw [PyData.showable]; exact a, by rw [PyData.hasDict]; exact b, by rw [PyData.leavesShort]; exact c⟩
theorem bulk_ints : ∀ l : List Int, PyData.bulkAll (l.map PyData.int) = l.length
  | [] => rfl
  | x :: r => by
    rw [List.map_cons, PyData.bulkAll, bulk_ints r, PyData.bulk, List.length_cons]
    omega
theorem bulk_tups {b : Nat} : ∀ {cs : List (List Int)}, (∀ c ∈ cs, c.length ≤ b) → PyData.bulkAll (cs.map tupD) ≤ (b + 1) * cs.length
  | [], _ => Nat.zero_le _
  | c :: r, h => by
    have h1 := h c List.mem_cons_self
    have h2 := bulk_tups (cs := r) fun d hd => h d (List.mem_cons_of_mem _ hd)
    have e : (tupD c).bulk = c.length := by
      unfold tupD
      rw [PyData.bulk, bulk_ints]
    rw [List.map_cons, PyData.bulkAll, e, List.length_cons, Nat.mul_succ]
    omega
theorem showy_cs {cs : List (List Int)} (h : ∀ c ∈ cs, OkC c) (few : cs.length ≤ 100) : Showy (.list (cs.map tupD)) := by
  obtain ⟨a, b, c⟩ := lf_lst (l := cs.map tupD) fun d hd => by
    obtain ⟨c, hc, rfl⟩ := List.mem_map.mp hd
    refine .tup (lf_map fun x hx => .int x ?_)
    have := (h c hc).small hx
    exact Nat.lt_of_le_of_lt this (by decide)
  refine ⟨a, b, ?_, ?_⟩
  · rw [PyData.depth]
    have := dep_tups cs
    omega
  · have z := PyData.shown_le_bulk 14 (by decide) _ c
    have e : sizeLine = 16777216 := sizeLine_eq
    rw [PyData.bulk] at z
    have y := bulk_tups (b := 64) (cs := cs) fun c hc => (h c hc).few
    omega
theorem dp_cs {K : PySem.W.Frag} {H : Hp} {a : Addr} {qs : List Addr} {cs : List (List Int)} (h : Cs H a qs cs) : Dp K H (.ref a) (.list (cs.map tupD)) := .lst (SqL.of h.l) (dp_tups h.n h.t)
end

/-! ### the law -/
theorem lay_cs (cs : List (List Int)) : (PyData.list (cs.map tupD)).canLay0 = true := by
  rw [PyData.canLay0]
  exact lay_tups cs
theorem shape_cs (cs : List (List Int)) : SeqAt.shaped (.list (cs.map tupD)) = true := by
  have d : (PyData.list (cs.map tupD)).depth ≤ 2 := by
    rw [PyData.depth]
    have := dep_tups cs
    omega
  unfold SeqAt.shaped
  rw [lay_cs, decide_eq_true (Nat.le_trans d (by decide))]
  rfl
theorem eqv_cs (cs : List (List Int)) : PyData.eqv (.list (cs.map tupD)) (.list (cs.map tupD)) = true := SeqAt.eqv_refl _ (lay_cs cs)
theorem OkC.of_clm {ms c : List Int} (u : Un ms) (h : ClM ms c) (l : c.length ≤ 64) : OkC c := by
  refine ⟨?_, fun x hx => ?_, l⟩
  · have e : c.map absI = (nas c).map fun n => ((n : Nat) : Int) := by
      unfold nas
      rw [List.map_map]
      exact List.map_congr_left fun x _ => absI_nat x
    rw [e]
    exact h.nd.map _ fun a b ne z => ne (Int.ofNat.inj z)
  · obtain ⟨y, hy, e⟩ := h.sub x hx
    have a := u.nz y hy
    have b := u.lim y hy
    have p : (10 : Nat) ^ 12 = 1000000000000 := by decide
    rw [absI_nat]
    omega
theorem OkC.rise {is : List Int} {f : Int} (h0 : 1 ≤ f) (h1 : f ≤ 999999999937) (l : is.length ≤ 64) (h : ∀ (k : Nat) x, is[k]? = some x → (x.natAbs : Int) = f + (k : Int)) : OkC is := by
  refine ⟨?_, fun x hx => ?_, l⟩
  · refine List.pairwise_iff_getElem.mpr fun i j hi hj hij => ?_
    rw [List.length_map] at hi hj
    rw [List.getElem_map, List.getElem_map, absI_nat, absI_nat]
    have a := h i _ (List.getElem?_eq_getElem hi)
    have b := h j _ (List.getElem?_eq_getElem hj)
    omega
  · obtain ⟨k, hk⟩ := List.mem_iff_getElem?.mp hx
    have a := h k x hk
    have lk := (List.getElem?_eq_some_iff.mp hk).1
    rw [absI_nat]
    omega
theorem OkC.rev {c : List Int} (h : OkC c) : OkC c.reverse := by
  refine ⟨?_, fun x hx => h.lim x (List.mem_reverse.mp hx), by rw [List.length_reverse]; exact h.few⟩
  rw [List.map_reverse]
  exact List.pairwise_reverse.mpr (h.nd.imp fun h e => h e.symm)
theorem Cs.mutL {H : Hp} {a b : Addr} {qs : List Addr} {cs : List (List Int)} {ys : List V} {o : HO} (h : Cs H a qs cs) (hb : H b = some (.lst ys)) (n : a ≠ b) : Cs (upd H b o) a qs cs :=
  ⟨by rw [upd_ne n]; exact h.l, h.n, fun i q c hq hc => by rw [upd_ne (ne_of (h.t i q c hq hc) hb (by intro z; cases z))]; exact h.t i q c hq hc⟩
theorem wide_truth {c : List Int} (h : OkC c) {K : PySem.W.Frag} {H : Hp} : TruV K (.str (wordS c)) H (!c.isEmpty) := by
  have l := word_len (c := c) fun x hx => h.small hx
  have few := h.few
  have line : 1000000 < sizeLine := by decide
  refine ⟨by omega, ?_⟩
  cases c with
  | nil => rfl
  | cons x r =>
    obtain ⟨hd, t, e, _⟩ := word_head (x := x) (c := r)
    have z : (wordS (x :: r)).length = t.length + 1 := by
      rw [TL.len_tl, e]
      rfl
    show true = (((wordS (x :: r)).length : Int) != 0)
    rw [z]
    symm
    rw [bne_iff_ne]
    omega
def spLaw (K : PySem.W.Frag) : Sp := fun vs H Q _ => ∃ (a : Addr) (ns : List Int), vs = [.ref a] ∧ SqL K H a (ns.map V.int) ∧ ns.length ≤ 63 ∧ ∀ H', Q (.bl true) H'
section
variable {P : Program} {w : World} {K : PySem.W.Frag} {mg : Str → Option Value} {base : Heap}
theorem ok_law {f : Addr} {fd : FuncData} (F : Fun K "law" "law" s_law f fd) (T : Top K mg) (h__law_begun : Has P w K mg base 1 "_law_begun" ["_law_script"] (spBegun K)) (h__law_draw : Has P w K mg base 1 "_law_draw" ["_law_tape", "_law_many"] spDraw)
    (h__law_pick : Has P w K mg base 2 "_law_pick" ["_law_tape", "_law_some"] (spPick K)) (h__law_far_marks : Has P w K mg base 3 "_law_far_marks" ["_law_tape", "_law_many"] spFar) (h__law_system : Has P w K mg base 3 "_law_system" ["_law_tape", "_law_marks", "_law_many"] spSys)
    (h_show_clauses : Has P w K mg base 2 "show_clauses" ["clauses"] (spShowC K)) (h_read_clauses : Has P w K mg base 4 "read_clauses" ["text"] (spRead K)) : FnG P w K mg base 6 f fd ["_law_script"] (spLaw K) := by
  refine fnG F sc_law (fun vs H Q E h => ?_) (fun cdv Ar outer s H vs Q E hr hgd h => ?_)
  · obtain ⟨a, ns, rfl, _⟩ := h
    rfl
  · have hu := hu_of hr
    have nd := sc_law.nd
    obtain ⟨a, ns, rfl, hS, hl, k⟩ := h
    refine ⟨_, (pss_cons (ps_set (i := 1) nd rfl (.inr rfl) (pe_has h__law_begun (hr.mono (by omega)) (by rfl) (pa_cons (pv 0) pa_nil)))
    (pss_cons (ps_for PassesOwn.never rfl (pi_range1 (by rfl) T.b_range (pa_cons (pe_op op_add pe_int (pe_callB (call_min2 rfl) (by rfl) T.b_min (by decide +kernel) (pa_cons pe_int (pa_cons (pe_callB call_len_seq (by rfl) T.b_len (by decide +kernel) (pa_cons (pv 0) pa_nil)) pa_nil)))) pa_nil)) (pg_name (i := 2) nd rfl (.inl rfl))
      (pss_cons (ps_set (i := 3) nd rfl (.inl rfl) (pe_has h__law_far_marks (hr.mono (by omega)) (by rfl) (pa_cons (pv 1) (pa_cons (pe_op op_add pe_int (pe_has h__law_draw (hr.mono (by omega)) (by rfl) (pa_cons (pv 1) (pa_cons pe_int pa_nil)))) pa_nil))))
    (pss_cons (ps_set (i := 4) nd rfl (.inl rfl) (pe_has h__law_system (hr.mono (by omega)) (by rfl) (pa_cons (pv 1) (pa_cons (pv 3) (pa_cons (pe_has h__law_draw (hr.mono (by omega)) (by rfl) (pa_cons (pv 1) (pa_cons pe_int pa_nil))) pa_nil)))))
    (C8.pss_cut (ps_if (pt_cmpR op_eq (pe_has h__law_draw (hr.mono (by omega)) (by rfl) (pa_cons (pv 1) (pa_cons pe_int pa_nil))) pe_int (nomark _)) (pss_cons (ps_asg (pe_tup (pa_cons (pe_has h__law_draw (hr.mono (by omega)) (by rfl) (pa_cons (pv 1) (pa_cons pe_int pa_nil))) (pa_cons (pe_has h__law_pick (hr.mono (by omega)) (by rfl) (pa_cons (pv 1) (pa_cons (pe_lst (pa_cons pe_int (pa_cons pe_int (pa_cons (pe_op op_sub (pe_op op_pow pe_int pe_int) pe_int) pa_nil)))) pa_nil))) pa_nil))) (pg_tup (by rfl) (pgs_cons (pg_name (i := 5) nd rfl (.inl rfl)) (pgs_cons (pg_name (i := 6) nd rfl (.inr rfl)) pgs_nil))))
    (pss_cons (ps_set (i := 7) nd rfl (.inl rfl) (pe_callTy call_tuple_of (by rfl) T.b_tuple (by decide +kernel) (pa_cons (pe_lc (own := [("_law_k", 13)]) (by rfl) nd (pi_range1 (by rfl) T.b_range (pa_cons (pv 5) pa_nil)) (blkOk_by (own := [("_law_k", 13)]) (N := nm_law) (sc := defScope s_law) (by decide +kernel)) (fun _ _ _ _ _ => pg_name (i := 13) nd rfl (.inl rfl)) (fun _ _ _ _ _ => pts_nil) (fun _ _ _ _ _ => (pe_op op_mul (pe_has h__law_pick (hr.mono (by omega)) (by rfl) (pa_cons (pv 1) (pa_cons (pe_lst (pa_cons pe_int (pa_cons (pe_un un_neg pe_int) pa_nil))) pa_nil))) (pe_op op_add (pv 6) (pv 13))))) pa_nil)))
    (pss_one (ps_expr (pe_bm PySem.F.plainAttrs_list PySem.F.slot_list_insert PySem.F.type_list_insert mt_insert (pv 4) (pa_cons (pe_has h__law_draw (hr.mono (by omega)) (by rfl) (pa_cons (pv 1) (pa_cons (pe_op op_add (pe_callB call_len_seq (by rfl) T.b_len (by decide +kernel) (pa_cons (pv 4) pa_nil)) pe_int) pa_nil))) (pa_cons (pe_stVT (pv 7) (pe_has h__law_pick (hr.mono (by omega)) (by rfl) (pa_cons (pv 1) (pa_cons (pe_lst (pa_cons pe_int (pa_cons (pe_un un_neg pe_int) pa_nil))) pa_nil)))) pa_nil))))))) pss_nil)
    (pss_cons (ps_setLc (i := 8) (own := [("_law_clause", 12)]) (by rfl) nd rfl rfl (sw_true rfl rfl rfl (by decide +kernel)) (pi_list (pv 4)) (blkOk_by (own := [("_law_clause", 12)]) (N := nm_law) (sc := defScope s_law) (by decide +kernel)) (fun _ _ _ _ _ => pg_name (i := 12) nd rfl (.inl rfl)) (fun _ _ _ _ _ => pts_nil) (fun _ _ _ _ _ => (pe_orTK (K := K) rfl (pe_joinK (K := K) rfl pe_str (pe_lc (own := [("_law_mark", 14)]) (by rfl) nd (pi_tupK (K := K) rfl (pv 12)) (blkOk_by (own := [("_law_mark", 14)]) (N := nm_law) (sc := relS { kind := .function, names := [(".0", .local), ("_law_clause", .local)], isGenerator := false, isCoroutine := false, more := [] } (defScope s_law)) (by decide +kernel)) (fun _ _ _ _ _ => pg_name (i := 14) nd rfl (.inl rfl)) (fun _ _ _ _ _ => pts_nil) (fun _ _ _ _ _ => (pe_callTy call_str_int (by rfl) T.b_str (by decide +kernel) (pa_cons (pv 14) pa_nil))))) (pe_one pe_str))))
    (pss_cons (ps_set (i := 9) nd rfl (.inl rfl) (pe_callTy call_list_of (by rfl) T.b_list (by decide +kernel) (pa_cons (pv 4) pa_nil)))
    (pss_cons (ps_set (i := 10) nd rfl (.inl rfl) (pe_has h_show_clauses (hr.mono (by omega)) (by rfl) (pa_cons (pv 9) pa_nil)))
    (pss_cons (ps_if (PW.pt (pw_or (pt_cmpR op_ne (pv 10) (pe_joinK (K := K) rfl pe_str (pv 8)) (nomark _)) (pw_or1 (pt_cmpR (op_neD hr.units) (pv 9) (pv 4) (nomark _))))) (pss_one (ps_ret pe_bl)) pss_nil)
    (pss_cons (ps_set (i := 11) nd rfl (.inl rfl) (pe_has h_read_clauses (hr.mono (by omega)) (by rfl) (pa_cons (pv 10) pa_nil)))
    (pss_cons (ps_if (pt_cmpR op_ne (pe_callB (call_reprW hgd hr.units) (by rfl) T.b_repr (by decide +kernel) (pa_cons (pv 11) pa_nil)) (pe_callB (call_reprW hgd hr.units) (by rfl) T.b_repr (by decide +kernel) (pa_cons (pv 4) pa_nil)) (nomark _)) (pss_one (ps_ret pe_bl)) pss_nil)
    (pss_cons (ps_expr (pe_bm PySem.F.plainAttrs_list PySem.F.slot_list_append PySem.F.type_list_append mt_append (pv 11) (pa_cons pe_int pa_nil)))
    (pss_one (ps_if (pt_cmpR op_ne (pe_callB (call_reprW hgd hr.units) (by rfl) T.b_repr (by decide +kernel) (pa_cons (pe_has h_read_clauses (hr.mono (by omega)) (by rfl) (pa_cons (pv 10) pa_nil)) pa_nil)) (pe_callB (call_reprW hgd hr.units) (by rfl) T.b_repr (by decide +kernel) (pa_cons (pv 4) pa_nil)) (nomark _)) (pss_one (ps_ret pe_bl)) pss_nil)))))))))))))
    (pss_one (ps_ret pe_bl)))), ?_⟩
    have line : (5000000 : Nat) < sizeLine := by decide
    have cp : ∀ z : Int, 0 ≤ z → z ≤ 1000000 → CPow 10 z := fun z h0 h1 => ⟨h0, h1, by decide⟩
    refine ⟨_, rfl, a, ns, rfl, hS, hl, fun H1 t c ht hc sm tp => ?_⟩
    refine ⟨_, rfl, a, _, rfl, .inl (sm.seq hS), _, _, rfl, _, _, rfl, rfl, _, rfl, ?_, ?_, for_range (lo := 0) (fun i σ H2 => ∃ v2 v3 v4 v5 v6 v7 v8 v9 v10 v11 v12 v13 v14, σ = [some (.ref a), some (.ref t), v2, v3, v4, v5, v6, v7, v8, v9, v10, v11, v12, v13, v14] ∧ Tape H2 t c (2000 * i)) ⟨none, none, none, none, none, none, none, none, none, none, none, none, none, rfl, tp⟩ ?_ ?_⟩
    · split <;> omega
    · split <;> omega
    rotate_left
    · rintro σ H' _
      exact k H'
    rintro i σ H2 hi ⟨v2, v3, v4, v5, v6, v7, v8, v9, v10, v11, v12, v13, v14, rfl, tp2⟩
    have hi2 : i < 8 := by
      rw [List.length_map] at hi
      split at hi <;> omega
    refine ⟨_, rfl, _, rfl, t, c, _, _, rfl, tp2, by omega, by decide, by decide +kernel, fun H3 r3 a3 b3 tp3 kp3 => ⟨_, _, rfl, rfl, t, c, _, _, rfl, tp3, by omega, by omega, by omega, fun H4 M ms nM hM lM un tp4 kp4 => ?_⟩⟩
    refine ⟨_, rfl, _, rfl, _, rfl, t, c, _, _, rfl, tp4, by omega, by decide, by decide +kernel, fun H5 r5 a5 b5 tp5 kp5 => ⟨t, c, M, ms, _, _, rfl, tp5, by omega, by omega, by omega, tp4.sq hM kp5, by omega, by omega, un, fun H6 G qs cs nG cG wG lG tp6 kp6 => ?_⟩⟩
    have okG : ∀ c ∈ cs, OkC c := fun c hc => .of_clm un (wG c hc).2 (Nat.le_trans (wG c hc).1 (by decide))
    have nGt : G ≠ t := tp5.fresh nG
    have nGc : G ≠ c := tp5.fresh_c nG
    -- a wide one
    refine ⟨fun σ' H' => ∃ (qs : List Addr) (cs : List (List Int)) (v5 v6 v7 : Option V), σ' = [some (.ref a), some (.ref t), some (.int (0 + i)), some (.ref M), some (.ref G), v5, v6, v7, v8, v9, v10, v11, v12, v13, v14] ∧ Cs H' G qs cs ∧ (∀ c ∈ cs, OkC c) ∧ cs.length ≤ 40 ∧ Tape H' t c (2000 * i + 1400), ?_, ?_⟩
    · refine ⟨_, rfl, t, c, _, _, rfl, tp6, by omega, by decide, by decide +kernel, fun H7 r7 a7 b7 tp7 kp7 => ⟨rfl, _, rfl, ite2 (fun _ => ?_) (fun _ => ⟨qs, cs, _, _, _, rfl, tp6.cs cG kp7, okG, by omega, tp7.le (by omega)⟩)⟩⟩
      have c7 := tp6.cs cG kp7
      refine ⟨_, rfl, t, c, _, _, rfl, tp7, by omega, by decide, by decide +kernel, fun H8 many a8 b8 tp8 kp8 => ⟨_, rfl, _, _, rfl, rfl, cp _ (by decide) (by decide), _, _, rfl, rfl, by show 3 ≤ sizeLine; decide, fun d9 n9 => ?_⟩⟩
      refine ⟨t, c, d9, _, _, rfl, tp8.new n9, by omega, fun H' kp => .inl (SqL.of (kp d9 _ upd_same (tp8.fresh n9))), by show 0 < 3; decide, by show 3 ≤ 1000000; decide, fun H9 i9 v9' g9 tp9 kp9 => ?_⟩
      obtain ⟨f9, rfl, m9⟩ := pick_int (zs := [1, 97, 10 ^ (12 : Int).toNat - 63]) g9
      have f9b : 1 ≤ f9 ∧ f9 ≤ 999999999937 := by
        have p12 : (10 : Int) ^ (12 : Int).toNat = 1000000000000 := by decide
        simp only [List.mem_cons, List.not_mem_nil, or_false] at m9
        omega
      have k79 : Kp t H7 H9 := kp8.trans ((Kp.new n9).trans kp9)
      have c9 := tp7.cs c7 k79
      refine ⟨by show 2 ≤ sizeLine; decide, fun qA nA => ⟨qA, _, rfl, SqT.of upd_same, rfl, _, _, rfl, _, _, rfl, rfl, ?_⟩⟩
      have tpA := tp9.new (o := .tup [V.int many, V.int f9]) nA
      have cA := c9.same (same_new (o := .tup [V.int many, V.int f9]) nA)
      generalize upd H9 qA (.tup [V.int many, V.int f9]) = HA at tpA cA
      refine ⟨_, rfl, many, rfl, by omega, by omega, fun D hD => lc_range (lo := 0) (fun j H' => Kp t HA H' ∧ Tape H' t c (2000 * i + 1315 + j) ∧ ∃ is : List Int, is.length = j ∧ (∀ (k : Nat) x, is[k]? = some x → (x.natAbs : Int) = f9 + (k : Int)) ∧ H' D = some (.lst (is.map V.int))) ⟨Kp.new hD, (tpA.new hD).le (by omega), [], rfl, fun k x e => by simp at e, upd_same⟩ (fun j HB hj p => ?_) fun HB p => ?_⟩
      · obtain ⟨kB, tpB, is, lis, his, hDB⟩ := p
        have nDt : D ≠ t := tpA.fresh hD
        have nDc : D ≠ c := tpA.fresh_c hD
        have hj64 : j < 65 := by omega
        refine ⟨rfl, yes_go ⟨_, rfl, 1, rfl, by show 2 ≤ sizeLine; decide, fun d nd => ⟨t, c, d, _, _, rfl, tpB.new nd, by omega, fun H' kp => .inl (SqL.of (kp d _ upd_same (tpB.fresh nd))), by show 0 < 2; decide, by show 2 ≤ 1000000; decide, fun HC iC vC gC tpC kpC => ?_⟩⟩⟩
        obtain ⟨zC, rfl, mC⟩ := pick_int (zs := [1, -1]) gC
        have zCb : zC = 1 ∨ zC = -1 := by simpa only [List.mem_cons, List.not_mem_nil, or_false] using mC
        have kBC : Kp t HB HC := (Kp.new nd).trans kpC
        have hDC := kBC D _ hDB nDt
        refine ⟨_, rfl, _, rfl, _, _, rfl, rfl, _, _, rfl, rfl, .inl ⟨by omega, by omega⟩, ?_⟩
        refine ⟨_, hDC, by rw [List.length_map]; omega, (kB.trans kBC).mut hD, (tpC.mut nDt nDc).le (by omega), is ++ [zC * (f9 + (0 + (j : Int)))], by rw [List.length_append, lis]; rfl, fun k x e => ?_, ?_⟩
        · rcases getElem_snoc e with ⟨_, z⟩ | ⟨z1, z2⟩
          · exact his k x z
          · rw [← z2, z1, lis]
            rcases zCb with rfl | rfl
            · rw [Int.one_mul]
              omega
            · rw [Int.neg_mul, Int.one_mul]
              omega
        · rw [upd_same, List.map_append]
          rfl
      · obtain ⟨kB, tpB, is, lis, his, hDB⟩ := p
        refine ⟨D, _, rfl, .inl ⟨SqL.of hDB, fun qW nW => ?_⟩⟩
        have cB := tpA.cs cA kB
        have cW := cB.same (same_new (o := .tup (is.map V.int)) nW)
        have tpW := tpB.new (o := .tup (is.map V.int)) nW
        have hW : (upd HB qW (.tup (is.map V.int))) qW = some (.tup (is.map V.int)) := upd_same
        generalize upd HB qW (.tup (is.map V.int)) = HW at cW tpW hW
        have lcs := cW.n
        have okW : OkC is := .rise f9b.1 f9b.2 (by omega) his
        refine ⟨_, rfl, .inl ⟨rfl, _, SqL.of cW.l⟩, _, rfl, _, rfl, G, _, rfl, .inl (SqL.of cW.l), _, _, rfl, rfl, t, c, _, _, rfl, tpW, by omega, by rw [List.length_map]; omega, pow8000 (by rw [List.length_map]; omega), fun HX rX aX bX tpX kpX => ?_⟩
        rw [List.length_map] at bX
        have cX := tpW.cs cW kpX
        have hWX : HX qW = some (.tup (is.map V.int)) := kpX _ _ hW (by
          obtain ⟨o, e⟩ := tpW.at_t
          obtain ⟨_, _, _, tc, _⟩ := tpW
          exact ne_of hW tc.d (by intro z; cases z))
        refine ⟨_, rfl, _, rfl, 1, rfl, by show 2 ≤ sizeLine; decide, fun d nd => ⟨t, c, d, _, _, rfl, tpX.new nd, by omega, fun H' kp => .inl (SqL.of (kp d _ upd_same (tpX.fresh nd))), by show 0 < 2; decide, by show 2 ≤ 1000000; decide, fun HY iY vY gY tpY kpY => ?_⟩⟩
        obtain ⟨zY, rfl, mY⟩ := pick_int (zs := [1, -1]) gY
        have kXY : Kp t HX HY := (Kp.new nd).trans kpY
        have cY := tpX.cs cX kXY
        have hWY : HY qW = some (.tup (is.map V.int)) := kXY _ _ hWX (by
          obtain ⟨_, _, _, tc, _⟩ := tpX
          exact ne_of hWX tc.d (by intro z; cases z))
        have fin : ∀ (HZ : Hp) (q : Addr) (d : List Int), Cs HZ G qs cs → Tape HZ t c (2000 * i + 1400) → HZ q = some (.tup (d.map V.int)) → OkC d →
            ∃ (qs' : List Addr) (cs' : List (List Int)), Cs (upd HZ G (.lst ((qs.map V.ref).take rX.toNat ++ [.ref q] ++ (qs.map V.ref).drop rX.toNat))) G qs' cs' ∧ (∀ c ∈ cs', OkC c) ∧ cs'.length ≤ 40 ∧ Tape (upd HZ G (.lst ((qs.map V.ref).take rX.toNat ++ [.ref q] ++ (qs.map V.ref).drop rX.toNat))) t c (2000 * i + 1400) := fun HZ q d hC hT hq od => by
          refine ⟨_, _, hC.insert (by omega) hq, fun e he => ?_, ?_, hT.mut nGt nGc⟩
          · rcases List.mem_append.mp he with z | z
            · rcases List.mem_append.mp z with z | z
              · exact okG e (List.mem_of_mem_take z)
              · rw [List.mem_singleton.mp z]
                exact od
            · exact okG e (List.mem_of_mem_drop z)
          · simp only [List.length_append, List.length_take, List.length_drop, List.length_cons, List.length_nil]
            omega
        refine ⟨zY, rfl, qW, _, rfl, SqT.of hWY, ?_⟩
        have zYb : zY = 1 ∨ zY = -1 := by simpa only [List.mem_cons, List.not_mem_nil, or_false] using mY
        rcases zYb with rfl | rfl
        · obtain ⟨qs', cs', f1, f2, f3, f4⟩ := fin HY qW is cY (tpY.le (by omega)) hWY okW
          exact .inl ⟨rfl, G, _, rX, _, rfl, rfl, cY.l, by rw [List.length_map]; omega, aX, by omega, qs', cs', _, _, _, rfl, f1, f2, f3, f4⟩
        · refine .inr ⟨rfl, fun qR nR => ?_⟩
          rw [← List.map_reverse]
          have cR := cY.same (same_new (o := .tup (is.reverse.map V.int)) nR)
          obtain ⟨qs', cs', f1, f2, f3, f4⟩ := fin _ qR is.reverse cR ((tpY.new nR).le (by omega)) upd_same okW.rev
          exact ⟨G, _, rX, _, rfl, rfl, cR.l, by rw [List.length_map]; omega, aX, by omega, qs', cs', _, _, _, rfl, f1, f2, f3, f4⟩
    · rintro σ' H7 ⟨qs, cs, w5, w6, w7, rfl, C, ok, few, tp7⟩
      have hn := C.n
      -- the rows
      refine ⟨_, rfl, G, rfl, ⟨_, SqL.of C.l⟩, fun R nR => lc_mapL ((cs.map rowS).map V.str) (by rw [List.length_map, List.length_map, List.length_map]; omega) (SqL.of C.l) nR (by rw [List.length_map]; omega) (fun _ => rfl) (fun i x z hx hz Ha sa R2 g => ?_) fun H8 s8 h8 => ?_⟩
      · rw [List.getElem?_map] at hx
        rw [List.getElem?_map, List.getElem?_map] at hz
        cases eq : qs[i]? with
        | none => rw [eq] at hx; cases hx
        | some q =>
          cases ec : cs[i]? with
          | none => rw [ec] at hz; cases hz
          | some d =>
            rw [eq] at hx
            rw [ec] at hz
            cases hx
            cases hz
            have hq := sa _ _ (C.t i q d eq ec)
            have okd := ok d (List.mem_of_getElem? ec)
            have fd := okd.few
            refine ⟨⟨_, rfl⟩, _, rfl, q, rfl, ⟨_, SqT.of hq⟩, fun D2 hD2 => lc_sel_tup (fun _ => true) (fun x => match x with | .int m => V.str (numS m) | v => v) (SqT.of hq) hD2 (by rw [List.length_map]; omega) (fun x hm => ?_) fun Hb sb hb => ?_⟩
            · obtain ⟨m, hm2, rfl⟩ := List.mem_map.mp hm
              exact ⟨rfl, fun Ha sa R g => g Ha (Same.refl _), fun _ Ha sa R g => ⟨_, rfl, m, rfl, small_log (okd.small hm2), g Ha (Same.refl _)⟩⟩
            have e1 : (((d.map V.int).filter fun _ => true).map fun x => match x with | .int m => V.str (numS m) | v => v) = (d.map numS).map V.str := by
              rw [filter_all, List.map_map, List.map_map]
              rfl
            rw [e1] at hb
            have sl := sum_lens (b := 14) (f := numS) (l := d) fun x hx => num_len (okd.small hx)
            refine ⟨_, D2, d.map numS, rfl, rfl, .inl (SqL.of hb), ?_, _, wide_truth okd, ?_⟩
            · rw [List.length_map]
              show _ + d.length * 1 ≤ _
              omega
            · cases d with
              | nil => exact iteF (g Hb sb)
              | cons y r =>
                refine iteT ?_
                have := g Hb sb
                unfold rowS at this
                rw [if_neg (by simp)] at this
                exact this
      have C8 := C.same s8
      have tp8 := tp7.same s8
      -- handed in, shown
      refine ⟨_, rfl, G, _, rfl, .inl (SqL.of C8.l), fun N nN => ?_⟩
      have sN := same_new (o := .lst (qs.map V.ref)) nN
      have CN : Cs (upd H8 N (.lst (qs.map V.ref))) N qs cs := ⟨upd_same, hn, fun i q d hq hd => sN _ _ (C8.t i q d hq hd)⟩
      have C9 := C8.same sN
      have h9 := sN _ _ h8
      have tp9 := tp8.same sN
      generalize upd H8 N (.lst (qs.map V.ref)) = H9 at CN C9 h9 tp9
      refine ⟨_, rfl, N, qs, cs, rfl, CN, by omega, ok, fun HA sA => ?_⟩
      have CNA := CN.same sA
      have CA := C9.same sA
      have sl := sum_lens (b := 960) (f := rowS) (l := cs) fun d hd => row_len (ok d hd)
      refine ⟨_, rfl, ⟨_, rfl⟩, _, rfl, _, R, cs.map rowS, rfl, rfl, .inl (SqL.of (sA _ _ h9)), ?_, rfl, _, rfl, iteNS rfl ?_⟩
      · rw [List.length_map]
        show _ + cs.length * 1 ≤ _
        omega
      refine ⟨_, rfl, _, rfl, _, _, dp_cs CNA, dp_cs CA, shape_cs cs, shape_cs cs, _, rfl, ?_⟩
      rw [eqv_cs]
      refine iteF ?_
      -- read
      refine ⟨_, rfl, cs, rfl, by omega, ok, fun HB F1 q1 sB nF1 CF => ?_⟩
      have CB := CA.same sB
      refine ⟨_, rfl, ⟨.inr (.inr ⟨F1, _, rfl, dp_cs CF, showy_cs ok (by omega), ?_⟩)⟩⟩
      refine ⟨_, rfl, ⟨.inr (.inr ⟨G, _, rfl, dp_cs CB, showy_cs ok (by omega), ?_⟩)⟩⟩
      refine ⟨rfl, _, rfl, iteNS rfl ?_⟩
      -- changed, read again
      have nGF : G ≠ F1 := ne_of_none CA.l nF1
      refine ⟨_, rfl, .inl ⟨rfl, _, SqL.of CF.l⟩, F1, _, _, rfl, rfl, CF.l, by have := CF.n; rw [List.length_map]; omega, ?_⟩
      have tpB := (tp9.same (sA.trans sB))
      have CC := CB.mutL (o := .lst (q1.map V.ref ++ [.int 5])) CF.l nGF
      have tpC := tpB.mut (o := .lst (q1.map V.ref ++ [.int 5])) ((tp9.same sA).fresh nF1) ((tp9.same sA).fresh_c nF1)
      generalize upd HB F1 (.lst (q1.map V.ref ++ [.int 5])) = HC at CC tpC
      refine ⟨_, rfl, cs, rfl, by omega, ok, fun HD F2 q2 sD nF2 CF2 => ?_⟩
      refine ⟨.inr (.inr ⟨F2, _, rfl, dp_cs CF2, showy_cs ok (by omega), ?_⟩)⟩
      refine ⟨_, rfl, ⟨.inr (.inr ⟨G, _, rfl, dp_cs (CC.same sD), showy_cs ok (by omega), ?_⟩)⟩⟩
      refine ⟨rfl, _, rfl, iteNS rfl ?_⟩
      exact ⟨_, _, _, _, _, _, _, _, _, _, _, _, _, rfl, (tpC.same sD).le (by omega)⟩
theorem at_law {f : Addr} {fd : FuncData} (F : Fun K "law" "law" s_law f fd) (T : Top K mg) : RunAt P w K mg base f fd ["_law_script"] (spLaw K) :=
  have d := has_draw T
  have p := has_pick T d
  have sh := has_showC T (has_showM T)
  (ok_law F T (has_begun T) d p (has_far T d p) (has_sys T d p) sh (has_read T (has_rows T) (has_clauseIn T (has_number T)) sh (has_clause T (has_mark T (has_whole T))))).at_ ⟨rfl, by decide, by decide⟩
end

theorem all_mk {l : PySem.W.OpenLaw} {w : World} {K : PySem.W.Frag} {h : Heap} {mg : Str → Option Value} {fa : Addr} (X : K.In h) (G : h.Ns mainGlobals mg) (hfa : mg "law" = some (.ref fa))
    {f0 : Addr} {od0 an0 : Option Addr} {sl0 : Array (Option Value)} {oc0 kV0 dc0 pm0 cd0 ct0 : Value}
    (a0 : PySem.W.nsIn K mainGlobals "is_whole" = some (some (.ref f0))) (l0 : K.lookup f0 = some ⟨oc0, od0, .func (PySem.W.fnOf "is_whole" "is_whole" (defArgs s_is_whole) (defBody s_is_whole) (defScope s_is_whole) .none kV0 dc0 pm0 an0 cd0 ct0), sl0⟩) (cc0 : PySem.W.codeIn K cd0 "is_whole" = true) (k0 : PySem.W.keepIn K (.ref f0) = true)
    {f1 : Addr} {od1 an1 : Option Addr} {sl1 : Array (Option Value)} {oc1 kV1 dc1 pm1 cd1 ct1 : Value}
    (a1 : PySem.W.nsIn K mainGlobals "is_mark" = some (some (.ref f1))) (l1 : K.lookup f1 = some ⟨oc1, od1, .func (PySem.W.fnOf "is_mark" "is_mark" (defArgs s_is_mark) (defBody s_is_mark) (defScope s_is_mark) .none kV1 dc1 pm1 an1 cd1 ct1), sl1⟩) (cc1 : PySem.W.codeIn K cd1 "is_mark" = true) (k1 : PySem.W.keepIn K (.ref f1) = true)
    {f2 : Addr} {od2 an2 : Option Addr} {sl2 : Array (Option Value)} {oc2 kV2 dc2 pm2 cd2 ct2 : Value}
    (a2 : PySem.W.nsIn K mainGlobals "is_clause" = some (some (.ref f2))) (l2 : K.lookup f2 = some ⟨oc2, od2, .func (PySem.W.fnOf "is_clause" "is_clause" (defArgs s_is_clause) (defBody s_is_clause) (defScope s_is_clause) .none kV2 dc2 pm2 an2 cd2 ct2), sl2⟩) (cc2 : PySem.W.codeIn K cd2 "is_clause" = true) (k2 : PySem.W.keepIn K (.ref f2) = true)
    {f3 : Addr} {od3 an3 : Option Addr} {sl3 : Array (Option Value)} {oc3 kV3 dc3 pm3 cd3 ct3 : Value}
    (a3 : PySem.W.nsIn K mainGlobals "show_marks" = some (some (.ref f3))) (l3 : K.lookup f3 = some ⟨oc3, od3, .func (PySem.W.fnOf "show_marks" "show_marks" (defArgs s_show_marks) (defBody s_show_marks) (defScope s_show_marks) .none kV3 dc3 pm3 an3 cd3 ct3), sl3⟩) (cc3 : PySem.W.codeIn K cd3 "show_marks" = true) (k3 : PySem.W.keepIn K (.ref f3) = true)
    {f4 : Addr} {od4 an4 : Option Addr} {sl4 : Array (Option Value)} {oc4 kV4 dc4 pm4 cd4 ct4 : Value}
    (a4 : PySem.W.nsIn K mainGlobals "show_clauses" = some (some (.ref f4))) (l4 : K.lookup f4 = some ⟨oc4, od4, .func (PySem.W.fnOf "show_clauses" "show_clauses" (defArgs s_show_clauses) (defBody s_show_clauses) (defScope s_show_clauses) .none kV4 dc4 pm4 an4 cd4 ct4), sl4⟩) (cc4 : PySem.W.codeIn K cd4 "show_clauses" = true) (k4 : PySem.W.keepIn K (.ref f4) = true)
    {f5 : Addr} {od5 an5 : Option Addr} {sl5 : Array (Option Value)} {oc5 kV5 dc5 pm5 cd5 ct5 : Value}
    (a5 : PySem.W.nsIn K mainGlobals "read_clauses" = some (some (.ref f5))) (l5 : K.lookup f5 = some ⟨oc5, od5, .func (PySem.W.fnOf "read_clauses" "read_clauses" (defArgs s_read_clauses) (defBody s_read_clauses) (defScope s_read_clauses) .none kV5 dc5 pm5 an5 cd5 ct5), sl5⟩) (cc5 : PySem.W.codeIn K cd5 "read_clauses" = true) (k5 : PySem.W.keepIn K (.ref f5) = true)
    {f6 : Addr} {od6 an6 : Option Addr} {sl6 : Array (Option Value)} {oc6 kV6 dc6 pm6 cd6 ct6 : Value}
    (a6 : PySem.W.nsIn K mainGlobals "_rows_in" = some (some (.ref f6))) (l6 : K.lookup f6 = some ⟨oc6, od6, .func (PySem.W.fnOf "_rows_in" "_rows_in" (defArgs s__rows_in) (defBody s__rows_in) (defScope s__rows_in) .none kV6 dc6 pm6 an6 cd6 ct6), sl6⟩) (cc6 : PySem.W.codeIn K cd6 "_rows_in" = true) (k6 : PySem.W.keepIn K (.ref f6) = true)
    {f7 : Addr} {od7 an7 : Option Addr} {sl7 : Array (Option Value)} {oc7 kV7 dc7 pm7 cd7 ct7 : Value}
    (a7 : PySem.W.nsIn K mainGlobals "_clause_in" = some (some (.ref f7))) (l7 : K.lookup f7 = some ⟨oc7, od7, .func (PySem.W.fnOf "_clause_in" "_clause_in" (defArgs s__clause_in) (defBody s__clause_in) (defScope s__clause_in) .none kV7 dc7 pm7 an7 cd7 ct7), sl7⟩) (cc7 : PySem.W.codeIn K cd7 "_clause_in" = true) (k7 : PySem.W.keepIn K (.ref f7) = true)
    {f8 : Addr} {od8 an8 : Option Addr} {sl8 : Array (Option Value)} {oc8 kV8 dc8 pm8 cd8 ct8 : Value}
    (a8 : PySem.W.nsIn K mainGlobals "_number_in" = some (some (.ref f8))) (l8 : K.lookup f8 = some ⟨oc8, od8, .func (PySem.W.fnOf "_number_in" "_number_in" (defArgs s__number_in) (defBody s__number_in) (defScope s__number_in) .none kV8 dc8 pm8 an8 cd8 ct8), sl8⟩) (cc8 : PySem.W.codeIn K cd8 "_number_in" = true) (k8 : PySem.W.keepIn K (.ref f8) = true)
    {f9 : Addr} {od9 an9 : Option Addr} {sl9 : Array (Option Value)} {oc9 kV9 dc9 pm9 cd9 ct9 : Value}
    (a9 : PySem.W.nsIn K mainGlobals "_law_begun" = some (some (.ref f9))) (l9 : K.lookup f9 = some ⟨oc9, od9, .func (PySem.W.fnOf "_law_begun" "_law_begun" (defArgs s__law_begun) (defBody s__law_begun) (defScope s__law_begun) .none kV9 dc9 pm9 an9 cd9 ct9), sl9⟩) (cc9 : PySem.W.codeIn K cd9 "_law_begun" = true) (k9 : PySem.W.keepIn K (.ref f9) = true)
    {f10 : Addr} {od10 an10 : Option Addr} {sl10 : Array (Option Value)} {oc10 kV10 dc10 pm10 cd10 ct10 : Value}
    (a10 : PySem.W.nsIn K mainGlobals "_law_draw" = some (some (.ref f10))) (l10 : K.lookup f10 = some ⟨oc10, od10, .func (PySem.W.fnOf "_law_draw" "_law_draw" (defArgs s__law_draw) (defBody s__law_draw) (defScope s__law_draw) .none kV10 dc10 pm10 an10 cd10 ct10), sl10⟩) (cc10 : PySem.W.codeIn K cd10 "_law_draw" = true) (k10 : PySem.W.keepIn K (.ref f10) = true)
    {f11 : Addr} {od11 an11 : Option Addr} {sl11 : Array (Option Value)} {oc11 kV11 dc11 pm11 cd11 ct11 : Value}
    (a11 : PySem.W.nsIn K mainGlobals "_law_pick" = some (some (.ref f11))) (l11 : K.lookup f11 = some ⟨oc11, od11, .func (PySem.W.fnOf "_law_pick" "_law_pick" (defArgs s__law_pick) (defBody s__law_pick) (defScope s__law_pick) .none kV11 dc11 pm11 an11 cd11 ct11), sl11⟩) (cc11 : PySem.W.codeIn K cd11 "_law_pick" = true) (k11 : PySem.W.keepIn K (.ref f11) = true)
    {f12 : Addr} {od12 an12 : Option Addr} {sl12 : Array (Option Value)} {oc12 kV12 dc12 pm12 cd12 ct12 : Value}
    (a12 : PySem.W.nsIn K mainGlobals "_law_far_marks" = some (some (.ref f12))) (l12 : K.lookup f12 = some ⟨oc12, od12, .func (PySem.W.fnOf "_law_far_marks" "_law_far_marks" (defArgs s__law_far_marks) (defBody s__law_far_marks) (defScope s__law_far_marks) .none kV12 dc12 pm12 an12 cd12 ct12), sl12⟩) (cc12 : PySem.W.codeIn K cd12 "_law_far_marks" = true) (k12 : PySem.W.keepIn K (.ref f12) = true)
    {f13 : Addr} {od13 an13 : Option Addr} {sl13 : Array (Option Value)} {oc13 kV13 dc13 pm13 cd13 ct13 : Value}
    (a13 : PySem.W.nsIn K mainGlobals "_law_system" = some (some (.ref f13))) (l13 : K.lookup f13 = some ⟨oc13, od13, .func (PySem.W.fnOf "_law_system" "_law_system" (defArgs s__law_system) (defBody s__law_system) (defScope s__law_system) .none kV13 dc13 pm13 an13 cd13 ct13), sl13⟩) (cc13 : PySem.W.codeIn K cd13 "_law_system" = true) (k13 : PySem.W.keepIn K (.ref f13) = true)
    {f14 : Addr} {od14 an14 : Option Addr} {sl14 : Array (Option Value)} {oc14 kV14 dc14 pm14 cd14 ct14 : Value}
    (a14 : PySem.W.nsIn K mainGlobals "law" = some (some (.ref f14))) (l14 : K.lookup f14 = some ⟨oc14, od14, .func (PySem.W.fnOf "law" "law" (defArgs s_law) (defBody s_law) (defScope s_law) .none kV14 dc14 pm14 an14 cd14 ct14), sl14⟩) (cc14 : PySem.W.codeIn K cd14 "law" = true) (k14 : PySem.W.keepIn K (.ref f14) = true)
    {t0 : Tok} (v0 : PySem.W.nsIn K mainGlobals "GREATEST_NAME" = some (some (.int 1000000000000 t0)))
    {t1 : Tok} (v1 : PySem.W.nsIn K mainGlobals "MOST_MARKS" = some (some (.int 64 t1)))
    {t2 : Tok} (v2 : PySem.W.nsIn K mainGlobals "FIGURES" = some (some (.str "0123456789" t2)))
    {t3 : Tok} (v3 : PySem.W.nsIn K mainGlobals "MOST_FIGURES" = some (some (.int 13 t3)))
    (z0 : PySem.W.nsIn K mainGlobals "isinstance" = some none)
    (z1 : PySem.W.nsIn K mainGlobals "bool" = some none)
    (z2 : PySem.W.nsIn K mainGlobals "int" = some none)
    (z3 : PySem.W.nsIn K mainGlobals "abs" = some none)
    (z4 : PySem.W.nsIn K mainGlobals "len" = some none)
    (z5 : PySem.W.nsIn K mainGlobals "tuple" = some none)
    (z6 : PySem.W.nsIn K mainGlobals "all" = some none)
    (z7 : PySem.W.nsIn K mainGlobals "str" = some none)
    (z8 : PySem.W.nsIn K mainGlobals "range" = some none)
    (z9 : PySem.W.nsIn K mainGlobals "list" = some none)
    (z10 : PySem.W.nsIn K mainGlobals "min" = some none)
    (z11 : PySem.W.nsIn K mainGlobals "repr" = some none)
    : ∃ fd : FuncData, (∀ (s : Shared) (v : Value), BindsTo s fd ⟨[v], []⟩ [("_law_script", v)]) ∧ ∀ base : Heap, K.In base → base.Ns mainGlobals mg → RunAt l.prog w K mg base fa fd ["_law_script"] (spLaw K) := by
  have e := hfa.symm.trans (PySem.W.mg_of X G a14)
  cases e
  have T : Top K mg := ⟨⟨⟨_, _, PySem.W.mg_of X G a0, fun_mk (st := s_is_whole) l0 cc0 k0⟩⟩, ⟨⟨_, _, PySem.W.mg_of X G a1, fun_mk (st := s_is_mark) l1 cc1 k1⟩⟩, ⟨⟨_, _, PySem.W.mg_of X G a2, fun_mk (st := s_is_clause) l2 cc2 k2⟩⟩, ⟨⟨_, _, PySem.W.mg_of X G a3, fun_mk (st := s_show_marks) l3 cc3 k3⟩⟩, ⟨⟨_, _, PySem.W.mg_of X G a4, fun_mk (st := s_show_clauses) l4 cc4 k4⟩⟩, ⟨⟨_, _, PySem.W.mg_of X G a5, fun_mk (st := s_read_clauses) l5 cc5 k5⟩⟩, ⟨⟨_, _, PySem.W.mg_of X G a6, fun_mk (st := s__rows_in) l6 cc6 k6⟩⟩, ⟨⟨_, _, PySem.W.mg_of X G a7, fun_mk (st := s__clause_in) l7 cc7 k7⟩⟩, ⟨⟨_, _, PySem.W.mg_of X G a8, fun_mk (st := s__number_in) l8 cc8 k8⟩⟩, ⟨⟨_, _, PySem.W.mg_of X G a9, fun_mk (st := s__law_begun) l9 cc9 k9⟩⟩, ⟨⟨_, _, PySem.W.mg_of X G a10, fun_mk (st := s__law_draw) l10 cc10 k10⟩⟩, ⟨⟨_, _, PySem.W.mg_of X G a11, fun_mk (st := s__law_pick) l11 cc11 k11⟩⟩, ⟨⟨_, _, PySem.W.mg_of X G a12, fun_mk (st := s__law_far_marks) l12 cc12 k12⟩⟩, ⟨⟨_, _, PySem.W.mg_of X G a13, fun_mk (st := s__law_system) l13 cc13 k13⟩⟩, ⟨⟨_, _, PySem.W.mg_of X G a14, fun_mk (st := s_law) l14 cc14 k14⟩⟩, ⟨_, PySem.W.mg_of X G v0⟩, ⟨_, PySem.W.mg_of X G v1⟩, ⟨_, PySem.W.mg_of X G v2⟩, ⟨_, PySem.W.mg_of X G v3⟩, PySem.W.mg_none_of X G z0, PySem.W.mg_none_of X G z1, PySem.W.mg_none_of X G z2, PySem.W.mg_none_of X G z3, PySem.W.mg_none_of X G z4, PySem.W.mg_none_of X G z5, PySem.W.mg_none_of X G z6, PySem.W.mg_none_of X G z7, PySem.W.mg_none_of X G z8, PySem.W.mg_none_of X G z9, PySem.W.mg_none_of X G z10, PySem.W.mg_none_of X G z11⟩
  exact ⟨_, fun s v => .of_eq rfl, fun base _ _ => at_law (fun_mk (st := s_law) l14 cc14 k14) T⟩
end Mc
open PySem PySem.W PyProof.Rows
set_option maxRecDepth 100000 in
set_option maxHeartbeats 0 in
theorem PySem.Challenge.cw_mostclauses_k75_clauses_as_texts_holds : PySem.Challenge.rw_mostclauses_k75_clauses_as_texts.Holds := by
  w_on; o_law; k_head; (case hw => w_witness2)
  k_fill
  refine Mc.walk_at (l := PySem.Challenge.rw_mostclauses_k75_clauses_as_texts) (n := 63) (x := "_law_script") (sp := fun w => Mc.spLaw _) rfl (by decide) rfl (fun w h Y => PySem.W.kIn_of Y) ?F (fun _ _ a ns hl _ hS => ⟨a, ns, rfl, hS, hl, fun _ => rfl⟩)
  case F =>
    intro w mg fa h KX G hmg
    refine' Mc.all_mk KX G hmg ?a0 ?l0 ?cc0 ?k0 ?a1 ?l1 ?cc1 ?k1 ?a2 ?l2 ?cc2 ?k2 ?a3 ?l3 ?cc3 ?k3 ?a4 ?l4 ?cc4 ?k4 ?a5 ?l5 ?cc5 ?k5 ?a6 ?l6 ?cc6 ?k6 ?a7 ?l7 ?cc7 ?k7 ?a8 ?l8 ?cc8 ?k8 ?a9 ?l9 ?cc9 ?k9 ?a10 ?l10 ?cc10 ?k10 ?a11 ?l11 ?cc11 ?k11 ?a12 ?l12 ?cc12 ?k12 ?a13 ?l13 ?cc13 ?k13 ?a14 ?l14 ?cc14 ?k14 ?v0 ?v1 ?v2 ?v3 ?z0 ?z1 ?z2 ?z3 ?z4 ?z5 ?z6 ?z7 ?z8 ?z9 ?z10 ?z11
    (case a0 => k_is)
    (case l0 => k_is)
    (case cc0 => k_is)
    (case k0 => k_is)
    (case a1 => k_is)
    (case l1 => k_is)
    (case cc1 => k_is)
    (case k1 => k_is)
    (case a2 => k_is)
    (case l2 => k_is)
    (case cc2 => k_is)
    (case k2 => k_is)
    (case a3 => k_is)
    (case l3 => k_is)
    (case cc3 => k_is)
    (case k3 => k_is)
    (case a4 => k_is)
    (case l4 => k_is)
    (case cc4 => k_is)
    (case k4 => k_is)
    (case a5 => k_is)
    (case l5 => k_is)
    (case cc5 => k_is)
    (case k5 => k_is)
    (case a6 => k_is)
    (case l6 => k_is)
    (case cc6 => k_is)
    (case k6 => k_is)
    (case a7 => k_is)
    (case l7 => k_is)
    (case cc7 => k_is)
    (case k7 => k_is)
    (case a8 => k_is)
    (case l8 => k_is)
    (case cc8 => k_is)
    (case k8 => k_is)
    (case a9 => k_is)
    (case l9 => k_is)
    (case cc9 => k_is)
    (case k9 => k_is)
    (case a10 => k_is)
    (case l10 => k_is)
    (case cc10 => k_is)
    (case k10 => k_is)
    (case a11 => k_is)
    (case l11 => k_is)
    (case cc11 => k_is)
    (case k11 => k_is)
    (case a12 => k_is)
    (case l12 => k_is)
    (case cc12 => k_is)
    (case k12 => k_is)
    (case a13 => k_is)
    (case l13 => k_is)
    (case cc13 => k_is)
    (case k13 => k_is)
    (case a14 => k_is)
    (case l14 => k_is)
    (case cc14 => k_is)
    (case k14 => k_is)
    (case v0 => k_is)
    (case v1 => k_is)
    (case v2 => k_is)
    (case v3 => k_is)
    (case z0 => k_is)
    (case z1 => k_is)
    (case z2 => k_is)
    (case z3 => k_is)
    (case z4 => k_is)
    (case z5 => k_is)
    (case z6 => k_is)
    (case z7 => k_is)
    (case z8 => k_is)
    (case z9 => k_is)
    (case z10 => k_is)
    (case z11 => k_is)
