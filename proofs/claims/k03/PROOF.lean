import PyProof.Rows.All
import Wide.All
import OpenK.AllK
import Wide.FinOn
import HandS.ForMost
import HandS.Flow
import HandS.Wide
import HandS.Small
import HandS.Style
import HandS.IsInst
import HandS.RaiseMore
import HandS.Codes
import HandS.DictComp
import PySem.Challenge.RW_mostclauses_k03_rows_that_show
set_option Elab.async false
set_option linter.all false
set_option maxRecDepth 100000
set_option maxHeartbeats 4000000
namespace Mc
open PySem PySem.Spec PyProof.Rows L2
/-! ### the text by places -/
def top (i : Nat) : Stmt := PySem.Challenge.pw_mostclauses_k03_rows_that_show.main.body.getD i (.Pass ⟨0, 0, 0, 0⟩)

abbrev s_is_shown : Stmt := top 1
abbrev nm_is_shown : List Str := ["clauses", "puts", "rows", "mark", "on", "put"]
theorem sc_is_shown : FnScope nm_is_shown ["clauses", "puts", "rows", "mark"] (defScope s_is_shown) := ⟨rfl, rfl, rfl, by decide +kernel, rfl, by decide +kernel, by decide +kernel⟩
abbrev s__bring_all : Stmt := top 2
abbrev nm__bring_all : List Str := ["clauses", "rows", "on", "row", "left"]
theorem sc__bring_all : FnScope nm__bring_all ["clauses", "rows", "on"] (defScope s__bring_all) := ⟨rfl, rfl, rfl, by decide +kernel, rfl, by decide +kernel, by decide +kernel⟩
abbrev s__is_broken : Stmt := top 3
abbrev nm__is_broken : List Str := ["clauses", "row", "on"]
theorem sc__is_broken : FnScope nm__is_broken ["clauses", "row", "on"] (defScope s__is_broken) := ⟨rfl, rfl, rfl, by decide +kernel, rfl, by decide +kernel, by decide +kernel⟩
abbrev s__is_number_of : Stmt := top 4
abbrev nm__is_number_of : List Str := ["clauses", "row"]
theorem sc__is_number_of : FnScope nm__is_number_of ["clauses", "row"] (defScope s__is_number_of) := ⟨rfl, rfl, rfl, by decide +kernel, rfl, by decide +kernel, by decide +kernel⟩
abbrev s__left_of : Stmt := top 5
abbrev nm__left_of : List Str := ["clause", "on", "mark"]
theorem sc__left_of : FnScope nm__left_of ["clause", "on"] (defScope s__left_of) := ⟨rfl, rfl, rfl, by decide +kernel, rfl, by decide +kernel, by decide +kernel⟩
abbrev s__law_begun : Stmt := top 7
abbrev nm__law_begun : List Str := ["_law_script"]
theorem sc__law_begun : FnScope nm__law_begun ["_law_script"] (defScope s__law_begun) := ⟨rfl, rfl, rfl, by decide +kernel, rfl, by decide +kernel, by decide +kernel⟩
abbrev s__law_draw : Stmt := top 8
abbrev nm__law_draw : List Str := ["_law_tape", "_law_many", "_law_spot", "_law_most", "_law_cell", "_law_found"]
theorem sc__law_draw : FnScope nm__law_draw ["_law_tape", "_law_many"] (defScope s__law_draw) := ⟨rfl, rfl, rfl, by decide +kernel, rfl, by decide +kernel, by decide +kernel⟩
abbrev s__law_pick : Stmt := top 9
abbrev nm__law_pick : List Str := ["_law_tape", "_law_some"]
theorem sc__law_pick : FnScope nm__law_pick ["_law_tape", "_law_some"] (defScope s__law_pick) := ⟨rfl, rfl, rfl, by decide +kernel, rfl, by decide +kernel, by decide +kernel⟩
abbrev s__law_far_marks : Stmt := top 10
abbrev nm__law_far_marks : List Str := ["_law_tape", "_law_many", "_law_by", "_law_leap", "_law_first", "_law_names", "_law_signs", "_law_name", "_law_k"]
theorem sc__law_far_marks : FnScope nm__law_far_marks ["_law_tape", "_law_many"] (defScope s__law_far_marks) := ⟨rfl, rfl, rfl, by decide +kernel, rfl, by decide +kernel, by decide +kernel⟩
abbrev s__law_system : Stmt := top 11
abbrev nm__law_system : List Str := ["_law_tape", "_law_marks", "_law_many", "_law_is_kept", "_law_found", "_law_k", "_law_some", "_law_clause", "_law_wide", "_law_mark"]
theorem sc__law_system : FnScope nm__law_system ["_law_tape", "_law_marks", "_law_many"] (defScope s__law_system) := ⟨rfl, rfl, rfl, by decide +kernel, rfl, by decide +kernel, by decide +kernel⟩
abbrev s__law_puts : Stmt := top 12
abbrev nm__law_puts : List Str := ["_law_tape", "_law_marks", "_law_some", "_law_found", "_law_k", "_law_mark"]
theorem sc__law_puts : FnScope nm__law_puts ["_law_tape", "_law_marks"] (defScope s__law_puts) := ⟨rfl, rfl, rfl, by decide +kernel, rfl, by decide +kernel, by decide +kernel⟩
abbrev s__law_shows : Stmt := top 13
abbrev nm__law_shows : List Str := ["_law_clauses", "_law_puts_here", "_law_rows", "_law_mark", "_law_on", "_law_is_ended", "_law_row", "_law_left", "_law_one"]
theorem sc__law_shows : FnScope nm__law_shows ["_law_clauses", "_law_puts_here", "_law_rows", "_law_mark"] (defScope s__law_shows) := ⟨rfl, rfl, rfl, by decide +kernel, rfl, by decide +kernel, by decide +kernel⟩
abbrev s__law_gone : Stmt := top 14
abbrev nm__law_gone : List Str := ["_law_tape", "_law_clauses", "_law_puts_here", "_law_on", "_law_rows", "_law_is_ended", "_law_turn", "_law_left", "_law_some", "_law_row", "_law_clause", "_law_k", "_law_mark"]
theorem sc__law_gone : FnScope nm__law_gone ["_law_tape", "_law_clauses", "_law_puts_here"] (defScope s__law_gone) := ⟨rfl, rfl, rfl, by decide +kernel, rfl, by decide +kernel, by decide +kernel⟩
abbrev s__law_bent : Stmt := top 15
abbrev nm__law_bent : List Str := ["_law_tape", "_law_rows", "_law_many", "_law_way", "_law_at", "_law_odd"]
theorem sc__law_bent : FnScope nm__law_bent ["_law_tape", "_law_rows", "_law_many"] (defScope s__law_bent) := ⟨rfl, rfl, rfl, by decide +kernel, rfl, by decide +kernel, by decide +kernel⟩
abbrev s_law : Stmt := top 16
abbrev nm_law : List Str := ["_law_script", "_law_tape", "_law_turn", "_law_marks", "_law_clauses", "_law_puts_here", "_law_again", "_law_rows", "_law_ends", "_law_row", "_law_asked", "_law_copies", "_law_found"]
theorem sc_law : FnScope nm_law ["_law_script"] (defScope s_law) := ⟨rfl, rfl, rfl, by decide +kernel, rfl, by decide +kernel, by decide +kernel⟩
/-! ### a def that stands in the top and keeps a promise -/
structure At (K : PySem.W.Frag) (mg : Str → Option Value) (x : Str) (st : Stmt) : Prop where
  ex : ∃ f fd, mg x = some (.ref f) ∧ Fun K x x st f fd
structure Has (P : Program) (w : World) (K : PySem.W.Frag) (mg : Str → Option Value) (base : Heap) (k : Nat) (x : Str) (ps : List Str) (sp : Sp) : Prop where
  ex : ∃ f fd, mg x = some (.ref f) ∧ PySem.W.keepIn K (.ref f) = true ∧ Binds K fd ps [] ∧ FnOk P w K mg base CX0 k f fd ps sp
theorem pe_has {X : Cx} {k : Nat} {x : Str} {ps : List Str} {sp : Sp} {e : Expr} {es : List Expr} {t : TA} {p pos : Pos} (h : Has X.prog X.w X.K X.mg X.base k x ps sp) (hr : Room k X.A) (hg : Gl X x) (ha : PA X (e :: es) t)
    (hdb : (x == ("__debug__" : Str)) = false := by decide) (he : starEach (e :: es) X.env = (false, eval e X.env) :: starEach es X.env := by rfl) (hpl : (backTo pos (starEach es X.env)).any (·.1) = false := by rfl) :
    PE X (.Call (.Name x p) (e :: es) [] pos) (tCall sp [] E0 t) := by
  obtain ⟨f, fd, hm, hk, hb, F⟩ := h.ex
  exact pe_call F hr hg hm hk hb .nil pass0 ha hdb he hpl
abbrev BindsAll (x : Str) (st : Stmt) (ps : List Str) : Prop :=
  ∀ (kV doc pm : Value) (an : Option Addr) (cdv ct : Value) (us : List Value), us.length = ps.length → bindArgs (PySem.W.fnOf x x (defArgs st) (defBody st) (defScope st) .none kV doc pm an cdv ct) ⟨us, []⟩ = pure (ps.zip us)
section
variable {P : Program} {w : World} {K : PySem.W.Frag} {mg : Str → Option Value} {base : Heap}
theorem has_of {x : Str} {st : Stmt} {N ps : List Str} {k : Nat} {sp : Sp} (A : At K mg x st) (S : FnScope N ps (defScope st)) (B : BindsAll x st ps) (len : ∀ vs H Q E, sp vs H Q E → vs.length = ps.length)
    (hbody : ∀ (f : Addr) (cdv : Value) (A : Around) (outer : List Env) (s : Shared) (H : Hp) (vs : List V) (Q : VK) (E : XK), Room k (A.deeper (envOfC x (defScope st) s.heap.objs.size f cdv)) → sp vs H Q E →
      ∃ t, PSs (cxOf CX0 P w K mg base N x (defScope st) f cdv A outer s H E).nox (defBody st) t ∧ t { nx := fun _ H' => Q .non H', rt := Q } (start N vs) H) : Has P w K mg base (k + 1) x ps sp := by
  obtain ⟨f, fd, hm, F⟩ := A.ex
  exact ⟨f, fd, hm, F.kp, F.binds B, F.ok S len fun cdv A outer s H vs Q E hr h => hbody f cdv A outer s H vs Q E hr h⟩
end
theorem pe_const {X : Cx} {x : Str} {i : Int} {pos : Pos} (hm : ∃ t, X.mg x = some (.int i t)) (hg : Gl X x) (hd : (x == ("__debug__" : Str)) = false := by decide) : PE X (.Name x pos) (tC (.int i)) := by
  obtain ⟨t, hm⟩ := hm
  exact pe_glob hg hm ⟨t, rfl⟩ hd
/-! ### repr of a truth -/
def boolText (b : Bool) : Str := if b then "True" else "False"
theorem boolText_inj {a b : Bool} (h : boolText a = boolText b) : a = b := by
  cases a <;> cases b <;> first | rfl | exact absurd h (by decide +kernel)
theorem call_repr_bool {X : Cx} : CallR X (.builtin "repr") (fun xs H Q => ∃ b, xs = [.bl b] ∧ Q (.str (boolText b)) H) := by
  intro pins s σ H xs us Q I r h
  obtain ⟨b, rfl, q⟩ := h
  obtain ⟨u, rfl, ru⟩ := vals1 r
  cases ru
  cases b with
  | true => exact PySem.P.repr_of_bool ⟨.str (boolText true), H, I.tok _, ⟨_, rfl⟩, q⟩
  | false => exact PySem.P.repr_of_bool ⟨.str (boolText false), H, I.tok _, ⟨_, rfl⟩, q⟩
/-! ### heaps -/
/-- all that is known stays, but for what stands at t -/
def Kp (t : Addr) (H H' : Hp) : Prop := ∀ b o, H b = some o → b ≠ t → H' b = some o
theorem Kp.refl {t : Addr} (H : Hp) : Kp t H H := fun _ _ h _ => h
theorem Kp.trans {t : Addr} {H H1 H2 : Hp} (a : Kp t H H1) (b : Kp t H1 H2) : Kp t H H2 := fun c o h n => b c o (a c o h n) n
theorem Kp.new {t p : Addr} {H : Hp} {o : HO} (h : H p = none) : Kp t H (upd H p o) := fun b u e _ => by
  rw [upd_ne (ne_of_none e h)]
  exact e
theorem Kp.at {t : Addr} {H : Hp} {o : HO} : Kp t H (upd H t o) := fun b u e n => by
  rw [upd_ne n]
  exact e
theorem Kp.same {t : Addr} {H H' : Hp} (s : Same H H') : Kp t H H' := fun b o e _ => s b o e
theorem same_new {H : Hp} {p : Addr} {o : HO} (h : H p = none) : Same H (upd H p o) := fun b u e => by
  rw [upd_ne (ne_of_none e h)]
  exact e
/-! ### the tape -/
def tk (c : Addr) (spot left : Int) : List (Key × V) := [(.inr "cells", .ref c), (.inr "spot", .int spot), (.inr "left", .int left)]
structure TapeC (H : Hp) (t c : Addr) (ns : List Int) (spot left : Int) : Prop where
  d : H t = some (.dK (tk c spot left))
  l : H c = some (.lst (ns.map V.int))
  ne : 0 < ns.length
  lt : ns.length ≤ 63
  s0 : 0 ≤ spot
  l0 : 0 ≤ left
/-- a tape at t, its cells at c, of which at most n draws are taken -/
def Tape (H : Hp) (t c : Addr) (n : Nat) : Prop := ∃ ns spot left, TapeC H t c ns spot left ∧ spot ≤ n
theorem Tape.ne {H : Hp} {t c : Addr} {n : Nat} (h : Tape H t c n) : t ≠ c := by
  obtain ⟨ns, spot, left, h, _⟩ := h
  exact ne_of h.d h.l (by intro z; cases z)
theorem Tape.le {H : Hp} {t c : Addr} {n m : Nat} (h : Tape H t c n) (l : n ≤ m) : Tape H t c m := by
  obtain ⟨ns, spot, left, h, e⟩ := h
  exact ⟨ns, spot, left, h, by omega⟩
theorem Tape.stay {H H' : Hp} {t c : Addr} {n : Nat} (h : Tape H t c n) (k : ∀ b o, H b = some o → b = t ∨ b = c → H' b = some o) : Tape H' t c n := by
  obtain ⟨ns, spot, left, h, e⟩ := h
  exact ⟨ns, spot, left, ⟨k _ _ h.d (.inl rfl), k _ _ h.l (.inr rfl), h.ne, h.lt, h.s0, h.l0⟩, e⟩
theorem Tape.same {H H' : Hp} {t c : Addr} {n : Nat} (h : Tape H t c n) (s : Same H H') : Tape H' t c n := h.stay fun b o e _ => s b o e
theorem Tape.new {H : Hp} {t c p : Addr} {n : Nat} {o : HO} (h : Tape H t c n) (hp : H p = none) : Tape (upd H p o) t c n := h.same (same_new hp)
theorem Tape.at_t {H : Hp} {t c : Addr} {n : Nat} (h : Tape H t c n) : ∃ o, H t = some o := by
  obtain ⟨ns, spot, left, h, _⟩ := h
  exact ⟨_, h.d⟩
theorem Tape.at_c {H : Hp} {t c : Addr} {n : Nat} (h : Tape H t c n) : ∃ o, H c = some o := by
  obtain ⟨ns, spot, left, h, _⟩ := h
  exact ⟨_, h.l⟩
theorem k_cells : ¬ (("cells" : Str) = "spot") := by decide +kernel
theorem k_cells2 : ¬ (("cells" : Str) = "left") := by decide +kernel
theorem k_spot : ¬ (("spot" : Str) = "left") := by decide +kernel
theorem tk_cells (c : Addr) (a b : Int) : valV (tk c a b) (Sum.inr "cells" : Key) = some (.ref c) := valV_pos rfl
theorem tk_spot (c : Addr) (a b : Int) : valV (tk c a b) (Sum.inr "spot" : Key) = some (.int a) := by
  unfold tk
  rw [valV_neg (fun e => k_cells (Sum.inr.inj e)), valV_pos rfl]
theorem tk_left (c : Addr) (a b : Int) : valV (tk c a b) (Sum.inr "left" : Key) = some (.int b) := by
  unfold tk
  rw [valV_neg (fun e => k_cells2 (Sum.inr.inj e)), valV_neg (fun e => k_spot (Sum.inr.inj e)), valV_pos rfl]
theorem tk_put_spot (c : Addr) (a b x : Int) : putK (tk c a b) (Sum.inr "spot" : Key) (.int x) = tk c x b := by
  rfl
theorem tk_put_left (c : Addr) (a b x : Int) : putK (tk c a b) (Sum.inr "left" : Key) (.int x) = tk c a x := by
  rfl
theorem dg_cells {H : Hp} {t c : Addr} {a b : Int} (h : H t = some (.dK (tk c a b))) : DGet H t (.str "cells") (some (.ref c)) := by
  have g := DGet.k (k := (Sum.inr "cells" : Key)) h
  rw [tk_cells] at g
  exact g
theorem dg_spot {H : Hp} {t c : Addr} {a b : Int} (h : H t = some (.dK (tk c a b))) : DGet H t (.str "spot") (some (.int a)) := by
  have g := DGet.k (k := (Sum.inr "spot" : Key)) h
  rw [tk_spot] at g
  exact g
theorem dg_left {H : Hp} {t c : Addr} {a b : Int} (h : H t = some (.dK (tk c a b))) : DGet H t (.str "left") (some (.int b)) := by
  have g := DGet.k (k := (Sum.inr "left" : Key)) h
  rw [tk_left] at g
  exact g
theorem dp_spot {H : Hp} {t c : Addr} {a b : Int} (x : Int) (h : H t = some (.dK (tk c a b))) : DPut H t (.str "spot") (.int x) (upd H t (.dK (tk c x b))) := by
  have g := DPut.k (k := (Sum.inr "spot" : Key)) (v := .int x) h (small1000 (by show 3 ≤ 1000; decide))
  rw [tk_put_spot] at g
  exact g
theorem dp_left {H : Hp} {t c : Addr} {a b : Int} (x : Int) (h : H t = some (.dK (tk c a b))) : DPut H t (.str "left") (.int x) (upd H t (.dK (tk c a x))) := by
  have g := DPut.k (k := (Sum.inr "left" : Key)) (v := .int x) h (small1000 (by show 3 ≤ 1000; decide))
  rw [tk_put_left] at g
  exact g
theorem Tape.fresh {H : Hp} {t c p : Addr} {n : Nat} (h : Tape H t c n) (hp : H p = none) : p ≠ t := by
  obtain ⟨o, e⟩ := h.at_t
  exact (ne_of_none e hp).symm
theorem Tape.fresh_c {H : Hp} {t c p : Addr} {n : Nat} (h : Tape H t c n) (hp : H p = none) : p ≠ c := by
  obtain ⟨o, e⟩ := h.at_c
  exact (ne_of_none e hp).symm
/-! ### a list beside the empty list -/
section
variable {X : Cx}
def rEqNil (K : PySem.W.Frag) (neg : Bool) : R2 := fun x y H Q => ∃ a b xs, x = .ref a ∧ y = .ref b ∧ SqL K H a xs ∧ SqL K H b [] ∧ Q (.bl (if neg = true then !xs.isEmpty else xs.isEmpty)) H
theorem op_eqNil (hu : X.A.units + 1 < cLine) : OpR X (compareOp .Eq) (rEqNil X.K false) := by
  intro pins s σ H x y v u Q I rx ry h
  obtain ⟨a, b, xs, rfl, rfl, ha, hb, q⟩ := h
  cases rx
  cases ry
  obtain ⟨us, vs, pl, _⟩ := I.list ha
  obtain ⟨ws, vs2, pl2, _⟩ := I.list hb
  cases vs2
  have l := vs.length
  cases xs with
  | nil =>
    cases vs
    exact SeqAt.RcAt.lists (e := fun _ => true) pl.isList pl2.isList rfl (by omega) (fun j h1 => absurd h1 (Nat.not_lt_zero _)) _ _ _ _ ⟨.bl true, H, I, rfl, q⟩
  | cons z zs => exact SeqAt.RcAt.lists_lengths pl.isList pl2.isList (by rw [List.size_toArray, ← l]; rfl) (by omega) _ _ _ _ ⟨.bl false, H, I, rfl, q⟩
theorem op_neNil (hu : X.A.units + 1 < cLine) : OpR X (compareOp .NotEq) (rEqNil X.K true) := by
  intro pins s σ H x y v u Q I rx ry h
  obtain ⟨a, b, xs, rfl, rfl, ha, hb, q⟩ := h
  cases rx
  cases ry
  obtain ⟨us, vs, pl, _⟩ := I.list ha
  obtain ⟨ws, vs2, pl2, _⟩ := I.list hb
  cases vs2
  have l := vs.length
  cases xs with
  | nil =>
    cases vs
    exact SeqAt.RcNeAt.lists (e := fun _ => true) pl.isList pl2.isList rfl (by omega) (fun j h1 => absurd h1 (Nat.not_lt_zero _)) _ _ _ _ ⟨.bl false, H, I, rfl, q⟩
  | cons z zs => exact SeqAt.RcNeAt.lists_lengths pl.isList pl2.isList (by rw [List.size_toArray, ← l]; rfl) (by omega) _ _ _ _ ⟨.bl true, H, I, rfl, q⟩
end
/-! ### comprehensions that leave what is known as it is -/
theorem take_sel {α β : Type} (t : α → Bool) (f : α → β) {xs : List α} {i : Nat} {x : α} (h : xs[i]? = some x) :
    ((xs.take (i + 1)).filter t).map f = ((xs.take i).filter t).map f ++ (if t x = true then [f x] else []) := by
  rw [List.take_add_one, h, List.filter_append, List.map_append]
  by_cases ht : t x = true
  · rw [if_pos ht]
    simp [ht]
  · rw [if_neg ht]
    simp [ht]
section
variable {K : PySem.W.Frag} {a : Addr} {xs : List V} {tt : TT} {te : TE} {vs : List Nat} {σ : L2.St} {H : Hp} {D : Addr} {Qd : Hp → Prop} {j : Nat}
/-- what a turn asks: the test, the item -/
structure SelT (H : Hp) (σ : L2.St) (vs : List Nat) (j : Nat) (tt : TT) (te : TE) (x : V) (b : Bool) (y : V) : Prop where
  wip : wipe ((wipe σ vs).set j (some x)) vs = wipe σ vs
  tst : ∀ H', Same H H' → ∀ R : Bool → Hp → Prop, (∀ H'', Same H' H'' → R b H'') → tt ((wipe σ vs).set j (some x)) H' R
  elt : b = true → ∀ H', Same H H' → ∀ R : VK, (∀ H'', Same H' H'' → R y H'') → te ((wipe σ vs).set j (some x)) H' R
theorem sel_turn {x y : V} {b : Bool} {acc : List V} {H' : Hp} {P : Hp → Prop} (hD : H D = none) (s : SelT H σ vs j tt te x b y) (hs : Same H H') (ha : H' D = some (.lst acc)) (hz : acc.length < sizeLine)
    (k : ∀ H'', Same H H'' → H'' D = some (.lst (acc ++ (if b = true then [y] else []))) → P H'') :
    gName j x (wipe σ vs) H' fun σ2 H2 => wipe σ2 vs = wipe σ vs ∧ tt σ2 H2 fun c H3 => if c = true then te σ2 H3 fun y H4 => ∃ acc, H4 D = some (.lst acc) ∧ acc.length < sizeLine ∧ P (upd H4 D (.lst (acc ++ [y]))) else P H3 := by
  refine ⟨s.wip, s.tst H' hs _ fun H3 s3 => ?_⟩
  have h3 := s3 D _ ha
  cases b with
  | false =>
    refine iteF (k H3 (hs.trans s3) ?_)
    rw [h3, if_neg Bool.false_ne_true, List.append_nil]
  | true =>
    refine iteT (s.elt rfl H3 (hs.trans s3) _ fun H4 s4 => ⟨acc, s4 D _ h3, hz, k _ (fun c o e => ?_) ?_⟩)
    · rw [upd_ne (ne_of_none e hD)]
      exact s4 c o (s3 c o (hs c o e))
    · rw [upd_same, if_pos rfl]
theorem lc_sel_list (t : V → Bool) (f : V → V) (hx : SqL K H a xs) (hD : H D = none) (hz : xs.length ≤ 1000000) (hs : ∀ x ∈ xs, SelT H σ vs j tt te x (t x) (f x)) (k : ∀ H', Same H H' → H' D = some (.lst ((xs.filter t).map f)) → Qd H') :
    ∃ W : Nat → Nat → Hp → Prop, (∃ m, W 0 m (upd H D (.lst []))) ∧ ∀ i m H, W i m H →
      ((Itl K a).stop i H ∧ Qd H) ∨ ((Itl K a).go i H ∧ ∃ Nx : Hp → Prop, (∀ H', Nx H' → ∃ m', m' < m ∧ W (i + 1) m' H') ∧ ∀ x H', (Itl K a).yld i H x H' → gName j x (wipe σ vs) H' fun σ2 H2 => wipe σ2 vs = wipe σ vs ∧ tt σ2 H2 fun b H3 =>
        if b = true then te σ2 H3 fun y H4 => ∃ acc, H4 D = some (.lst acc) ∧ acc.length < sizeLine ∧ Nx (upd H4 D (.lst (acc ++ [y]))) else Nx H3) := by
  have line : 1000000 < sizeLine := by decide
  refine lc_list (xs := xs) (fun i H' => Same H H' ∧ H' D = some (.lst (((xs.take i).filter t).map f))) ⟨same_new hD, upd_same⟩ (fun i H' _ p => p.1.seq hx) (fun i x H' hi p => ?_) fun H' p => k H' p.1 (by rw [p.2, List.take_length])
  refine sel_turn hD (hs x (List.mem_of_getElem? hi)) p.1 p.2 ?_ fun H'' s'' e => ⟨s'', by rw [e, take_sel t f hi]⟩
  have l1 := List.length_filter_le t (xs.take i)
  have l2 := List.length_take_le i xs
  have l3 : (xs.take i).length ≤ xs.length := by rw [List.length_take]; omega
  rw [List.length_map]
  omega
theorem Same.seqT {H H' : Hp} (e : Same H H') (h : SqT K H a xs) : SqT K H' a xs := by
  rcases h with (h | ⟨o, h⟩) | h
  · exact .inl (.inl (e _ _ h))
  · exact .inl (.inr ⟨o, e _ _ h⟩)
  · exact .inr h
theorem lc_sel_tup (t : V → Bool) (f : V → V) (hx : SqT K H a xs) (hD : H D = none) (hz : xs.length ≤ 1000000) (hs : ∀ x ∈ xs, SelT H σ vs j tt te x (t x) (f x)) (k : ∀ H', Same H H' → H' D = some (.lst ((xs.filter t).map f)) → Qd H') :
    ∃ W : Nat → Nat → Hp → Prop, (∃ m, W 0 m (upd H D (.lst []))) ∧ ∀ i m H, W i m H →
      ((Itt K a).stop i H ∧ Qd H) ∨ ((Itt K a).go i H ∧ ∃ Nx : Hp → Prop, (∀ H', Nx H' → ∃ m', m' < m ∧ W (i + 1) m' H') ∧ ∀ x H', (Itt K a).yld i H x H' → gName j x (wipe σ vs) H' fun σ2 H2 => wipe σ2 vs = wipe σ vs ∧ tt σ2 H2 fun b H3 =>
        if b = true then te σ2 H3 fun y H4 => ∃ acc, H4 D = some (.lst acc) ∧ acc.length < sizeLine ∧ Nx (upd H4 D (.lst (acc ++ [y]))) else Nx H3) := by
  have line : 1000000 < sizeLine := by decide
  refine lc_tup (xs := xs) (fun i H' => Same H H' ∧ H' D = some (.lst (((xs.take i).filter t).map f))) ⟨same_new hD, upd_same⟩ (fun i H' _ p => Same.seqT p.1 hx) (fun i x H' hi p => ?_) fun H' p => k H' p.1 (by rw [p.2, List.take_length])
  refine sel_turn hD (hs x (List.mem_of_getElem? hi)) p.1 p.2 ?_ fun H'' s'' e => ⟨s'', by rw [e, take_sel t f hi]⟩
  have l1 := List.length_filter_le t (xs.take i)
  have l3 : (xs.take i).length ≤ xs.length := by rw [List.length_take]; omega
  rw [List.length_map]
  omega
theorem take_range {n i : Nat} (h : i < n) : (List.range n)[i]? = some i := by
  rw [List.getElem?_range h]
theorem lc_sel_range {lo : Int} {n : Nat} (t : Nat → Bool) (f : Nat → V) (hD : H D = none) (hz : n ≤ 1000000) (hs : ∀ i, i < n → SelT H σ vs j tt te (.int (lo + i)) (t i) (f i)) (k : ∀ H', Same H H' → H' D = some (.lst (((List.range n).filter t).map f)) → Qd H') :
    ∃ W : Nat → Nat → Hp → Prop, (∃ m, W 0 m (upd H D (.lst []))) ∧ ∀ i m H, W i m H →
      ((Itr lo n).stop i H ∧ Qd H) ∨ ((Itr lo n).go i H ∧ ∃ Nx : Hp → Prop, (∀ H', Nx H' → ∃ m', m' < m ∧ W (i + 1) m' H') ∧ ∀ x H', (Itr lo n).yld i H x H' → gName j x (wipe σ vs) H' fun σ2 H2 => wipe σ2 vs = wipe σ vs ∧ tt σ2 H2 fun b H3 =>
        if b = true then te σ2 H3 fun y H4 => ∃ acc, H4 D = some (.lst acc) ∧ acc.length < sizeLine ∧ Nx (upd H4 D (.lst (acc ++ [y]))) else Nx H3) := by
  have line : 1000000 < sizeLine := by decide
  refine lc_range (fun i H' => Same H H' ∧ H' D = some (.lst ((((List.range n).take i).filter t).map f))) ⟨same_new hD, upd_same⟩ (fun i H' hi p => ?_) fun H' p => k H' p.1 (by rw [p.2, List.take_of_length_le (by rw [List.length_range]; omega)])
  refine sel_turn hD (hs i hi) p.1 p.2 ?_ fun H'' s'' e => ⟨s'', by rw [e, take_sel t f (take_range hi)]⟩
  have l1 := List.length_filter_le t ((List.range n).take i)
  have l3 : ((List.range n).take i).length ≤ n := by rw [List.length_take, List.length_range]; omega
  rw [List.length_map]
  omega
end
theorem filter_all {α : Type} (xs : List α) : xs.filter (fun _ => true) = xs := List.filter_eq_self.mpr fun _ _ => rfl
theorem Kp.free {t D : Addr} {H H' : Hp} (k : Kp t H H') (h : H' D = none) (n : D ≠ t) : H D = none := by
  cases e : H D with
  | none => rfl
  | some o =>
    rw [k D o e n] at h
    cases h
theorem Kp.mut {t p : Addr} {H H' : Hp} {o : HO} (k : Kp t H H') (h : H p = none) : Kp t H (upd H' p o) := fun b u e n => by
  rw [upd_ne (ne_of_none e h)]
  exact k b u e n
theorem Tape.mut {H : Hp} {t c p : Addr} {n : Nat} {o : HO} (h : Tape H t c n) (n1 : p ≠ t) (n2 : p ≠ c) : Tape (upd H p o) t c n := h.stay fun b u e z => by
  rw [upd_ne]
  · exact e
  · rcases z with rfl | rfl
    · exact n1.symm
    · exact n2.symm
theorem yes_go {σ : L2.St} {H : Hp} {A B : Hp → Prop} (h : A H) : tYes σ H (fun b H' => if b = true then A H' else B H') := by
  show (if true = true then A H else B H)
  rw [if_pos rfl]
  exact h
/-! ### d.update(e) of two dicts -/
theorem mt_update {X : Cx} : MtR X "dict.update" (fun x xs H Q => ∃ (a b : Addr) (ks ms : List (Key × V)), x = .ref a ∧ xs = [.ref b] ∧ H a = some (.dK ks) ∧ H b = some (.dK ms) ∧ a ≠ b ∧ ks.length + ms.length ≤ sizeLine ∧
    Q .non (upd H a (.dK (mergeK ks ms)))) := by
  intro pins s σ H x xs v us Q I rx rxs h
  obtain ⟨a, b, ks, ms, rfl, rfl, ha, hb, ne, few, q⟩ := h
  cases rx
  obtain ⟨u, rfl, ru⟩ := vals1 rxs
  cases ru
  obtain ⟨za, da, va, ra, dda⟩ := dk_of I.hok ha
  obtain ⟨zb, db, vb, rb, ddb⟩ := dk_of I.hok hb
  refine call_meetsIn PySem.F.slot_dict_update dda.typeIs PySem.F.entry_dict_update (PySem.F.args_dict_update_2 _ _) (meets_dict_update (mixKind X.prog X.w) a b ne db) ⟨va, vb, dda, ddb, by rw [← ra.length, ← rb.length]; exact few, fun h' d1 d2 same => ?_⟩
  have there : ∃ o, h'.get? a = some o := by
    obtain ⟨o, _, _, ho, _⟩ := id d1
    exact ⟨o, ho⟩
  have small : (mergeK ks ms).length ≤ sizeLine := Nat.le_trans (length_mergeK ms ks) few
  exact ⟨.non, _, d_write (t' := s.toks) I (by rw [ha]; exact True.intro) same there (dk_new small da (rb.merge ra) d1), rfl, q⟩
/-! ### rules whose reading names the written part, for use within a comprehension -/
section
variable {X : Cx} {K : PySem.W.Frag}
theorem op_inK (h : X.K = K) : OpR X (compareOp .In) (rIn K false) := h ▸ op_in_seq
theorem op_notInK (h : X.K = K) : OpR X (compareOp .NotIn) (rIn K true) := h ▸ op_notIn_seq
theorem op_eqNilK (h : X.K = K) (hu : X.A.units + 1 < cLine) : OpR X (compareOp .Eq) (rEqNil K false) := h ▸ op_eqNil hu
theorem op_neNilK (h : X.K = K) (hu : X.A.units + 1 < cLine) : OpR X (compareOp .NotEq) (rEqNil K true) := h ▸ op_neNil hu
theorem ix_listK (h : X.K = K) : IxR X (rIxL K) := h ▸ ix_list
theorem ix_tupK (h : X.K = K) : IxR X (rIxT K) := h ▸ ix_tup
theorem ix_seqK (h : X.K = K) : IxR X (rIx K) := h ▸ ix_seq
theorem len_seqK (h : X.K = K) : CallR X (.builtin "len") (fun xs H Q => ∃ p ys, xs = [.ref p] ∧ (SqL K H p ys ∨ SqT K H p ys) ∧ Q (.int (ys.length : Nat)) H) := h ▸ call_len_seq
theorem pi_listK {tg l : Expr} {tl : TE} (h : X.K = K) (hl : PE X l tl) : PI X tg l (iList K tl) := h ▸ pi_list hl
theorem pi_tupK {tg l : Expr} {tl : TE} (h : X.K = K) (hl : PE X l tl) : PI X tg l (iTup K tl) := h ▸ pi_tup hl
end
theorem bd_is_shown : BindsAll "is_shown" s_is_shown ["clauses", "puts", "rows", "mark"] := fun _ _ _ _ _ _ us hl => match us, hl with | [_, _, _, _], _ => rfl
theorem bd__bring_all : BindsAll "_bring_all" s__bring_all ["clauses", "rows", "on"] := fun _ _ _ _ _ _ us hl => match us, hl with | [_, _, _], _ => rfl
theorem bd__is_broken : BindsAll "_is_broken" s__is_broken ["clauses", "row", "on"] := fun _ _ _ _ _ _ us hl => match us, hl with | [_, _, _], _ => rfl
theorem bd__is_number_of : BindsAll "_is_number_of" s__is_number_of ["clauses", "row"] := fun _ _ _ _ _ _ us hl => match us, hl with | [_, _], _ => rfl
theorem bd__left_of : BindsAll "_left_of" s__left_of ["clause", "on"] := fun _ _ _ _ _ _ us hl => match us, hl with | [_, _], _ => rfl
theorem bd__law_begun : BindsAll "_law_begun" s__law_begun ["_law_script"] := fun _ _ _ _ _ _ us hl => match us, hl with | [_], _ => rfl
theorem bd__law_draw : BindsAll "_law_draw" s__law_draw ["_law_tape", "_law_many"] := fun _ _ _ _ _ _ us hl => match us, hl with | [_, _], _ => rfl
theorem bd__law_pick : BindsAll "_law_pick" s__law_pick ["_law_tape", "_law_some"] := fun _ _ _ _ _ _ us hl => match us, hl with | [_, _], _ => rfl
theorem bd__law_far_marks : BindsAll "_law_far_marks" s__law_far_marks ["_law_tape", "_law_many"] := fun _ _ _ _ _ _ us hl => match us, hl with | [_, _], _ => rfl
theorem bd__law_system : BindsAll "_law_system" s__law_system ["_law_tape", "_law_marks", "_law_many"] := fun _ _ _ _ _ _ us hl => match us, hl with | [_, _, _], _ => rfl
theorem bd__law_puts : BindsAll "_law_puts" s__law_puts ["_law_tape", "_law_marks"] := fun _ _ _ _ _ _ us hl => match us, hl with | [_, _], _ => rfl
theorem bd__law_shows : BindsAll "_law_shows" s__law_shows ["_law_clauses", "_law_puts_here", "_law_rows", "_law_mark"] := fun _ _ _ _ _ _ us hl => match us, hl with | [_, _, _, _], _ => rfl
theorem bd__law_gone : BindsAll "_law_gone" s__law_gone ["_law_tape", "_law_clauses", "_law_puts_here"] := fun _ _ _ _ _ _ us hl => match us, hl with | [_, _, _], _ => rfl
theorem bd__law_bent : BindsAll "_law_bent" s__law_bent ["_law_tape", "_law_rows", "_law_many"] := fun _ _ _ _ _ _ us hl => match us, hl with | [_, _, _], _ => rfl
theorem bd_law : BindsAll "law" s_law ["_law_script"] := fun _ _ _ _ _ _ us hl => match us, hl with | [_], _ => rfl
structure Top (K : PySem.W.Frag) (mg : Str → Option Value) : Prop where
  d_is_shown : At K mg "is_shown" s_is_shown
  d__bring_all : At K mg "_bring_all" s__bring_all
  d__is_broken : At K mg "_is_broken" s__is_broken
  d__is_number_of : At K mg "_is_number_of" s__is_number_of
  d__left_of : At K mg "_left_of" s__left_of
  d__law_begun : At K mg "_law_begun" s__law_begun
  d__law_draw : At K mg "_law_draw" s__law_draw
  d__law_pick : At K mg "_law_pick" s__law_pick
  d__law_far_marks : At K mg "_law_far_marks" s__law_far_marks
  d__law_system : At K mg "_law_system" s__law_system
  d__law_puts : At K mg "_law_puts" s__law_puts
  d__law_shows : At K mg "_law_shows" s__law_shows
  d__law_gone : At K mg "_law_gone" s__law_gone
  d__law_bent : At K mg "_law_bent" s__law_bent
  d_law : At K mg "law" s_law
  b_len : mg "len" = none
  b_range : mg "range" = none
  b_list : mg "list" = none
  b_min : mg "min" = none
  b_tuple : mg "tuple" = none
  b_dict : mg "dict" = none
  b_isinstance : mg "isinstance" = none
  b_bool : mg "bool" = none
  b_int : mg "int" = none
  b_max : mg "max" = none
  b_repr : mg "repr" = none
/-! ### the draws -/
def spDraw : Sp := fun vs H Q _ => ∃ (t c : Addr) (m : Int) (n : Nat), vs = [.ref t, .int m] ∧ Tape H t c n ∧ n < 2 ^ 40 ∧ 0 < m ∧ m < 2 ^ 8000 ∧
  ∀ (H' : Hp) (r : Int), 0 ≤ r → r < m → Tape H' t c (n + 1) → Kp t H H' → Q (.int r) H'
theorem cell_at {ns : List Int} {spot : Int} (h0 : 0 < ns.length) (hs : 0 ≤ spot) : ∃ x, atI (ns.map V.int) (spot % ((ns.map V.int).length : Int)) = some (.int x) := by
  rw [List.length_map]
  have hp : (0 : Int) < (ns.length : Int) := by omega
  have h1 := Int.emod_nonneg spot (show (ns.length : Int) ≠ 0 by omega)
  have h2 := Int.emod_lt_of_pos spot hp
  have h3 : (spot % (ns.length : Int)).toNat < ns.length := by omega
  refine ⟨ns[(spot % (ns.length : Int)).toNat], at_of (j := (spot % (ns.length : Int)).toNat) (by omega) ?_⟩
  rw [List.getElem?_map, List.getElem?_eq_getElem h3]
  rfl
theorem log2_small {m : Int} (h0 : 0 < m) (h : m < 2 ^ 8000) : m.natAbs.log2 < 9000 := by
  have h2 : m.natAbs < 2 ^ 8000 := by
    have e : ((2 ^ 8000 : Nat) : Int) = (2 : Int) ^ 8000 := by rw [Int.natCast_pow]; rfl
    omega
  exact Nat.lt_of_lt_of_le (PySem.Flt.log2_lt_of (by decide) h2) (by decide)
theorem pow_ok {x spot : Int} {n : Nat} (h0 : 0 ≤ spot) (h1 : spot ≤ n) (h2 : n < 2 ^ 40) : CPow (x % 2147483647 + 69621 * spot + 48271) 17 := by
  have a := Int.emod_nonneg x (show (2147483647 : Int) ≠ 0 by decide)
  have b := Int.emod_lt_of_pos x (show (0 : Int) < 2147483647 by decide)
  refine ⟨by decide, by decide, ?_⟩
  have e : (2 : Nat) ^ 64 = 18446744073709551616 := by decide
  rw [e]
  omega
section
variable {P : Program} {w : World} {K : PySem.W.Frag} {mg : Str → Option Value} {base : Heap}
theorem has_draw (T : Top K mg) : Has P w K mg base 1 "_law_draw" ["_law_tape", "_law_many"] spDraw := by
  refine has_of T.d__law_draw sc__law_draw bd__law_draw (fun vs H Q E h => ?_) (fun f cdv A outer s H vs Q E hr h => ?_)
  · obtain ⟨t, c, m, n, rfl, _⟩ := h
    rfl
  · have hu := hu_of hr
    have nd := sc__law_draw.nd
    obtain ⟨t, c, m, n, rfl, ⟨ns, spot, left, tp, hs⟩, hn, hm, hm2, k⟩ := h
    refine ⟨_, (C8.pss_cut (ps_if (pt_cmpR op_lt (pe_dget hu (pv 0) pe_str (fun _ _ => rfl)) (pv 1) (nomark _)) (pss_cons (ps_par (i := 2) (j := 3) (by rfl) nd rfl rfl (by decide) rfl rfl (pa_cons (pe_dget hu (pv 0) pe_str (fun _ _ => rfl)) (pa_cons (pe_callB call_len_seq (by rfl) T.b_len (by decide +kernel) (pa_cons (pe_dget hu (pv 0) pe_str (fun _ _ => rfl)) pa_nil)) pa_nil)) (by rfl))
    (pss_cons (ps_asg (pe_tup (pa_cons (pe_ix ix_list (pe_dget hu (pv 0) pe_str (fun _ _ => rfl)) (pe_op op_mod (pv 2) (pv 3)) (fun _ _ => rfl)) (pa_cons (pe_op op_add (pv 2) pe_int) pa_nil))) (pg_tup (by rfl) (pgs_cons (pg_name (i := 4) nd rfl (.inl rfl)) (pgs_cons (pg_sub (pv 0) pe_str (set_dict hu)) pgs_nil))))
    (pss_cons (ps_dput hu (pv 0) pe_str (pe_op op_mod (pe_op op_pow (pe_op op_add (pe_op op_add (pe_op op_mod (pv 4) pe_int) (pe_op op_mul pe_int (pv 2))) pe_int) pe_int) (pe_op op_add (pe_op op_pow pe_int pe_int) pe_int)) rfl)
    (pss_one (ps_if (PW.pt (pw_and (pt_cmpR op_ge (pv 4) (pe_op op_pow pe_int pe_int) (nomark _)) (pw_and1 (pt_cmpR op_lt (pv 2) (pv 3) (nomark _))))) (pss_one (ps_dput hu (pv 0) pe_str (pe_op op_sub (pv 4) (pe_op op_pow pe_int pe_int)) rfl)) pss_nil))))) pss_nil)
    (pss_cons (ps_asg (pe_tup (pa_cons (pe_op op_mod (pe_dget hu (pv 0) pe_str (fun _ _ => rfl)) (pv 1)) (pa_cons (pe_op op_fdivW (pe_dget hu (pv 0) pe_str (fun _ _ => rfl)) (pv 1)) pa_nil))) (pg_tup (by rfl) (pgs_cons (pg_name (i := 5) nd rfl (.inl rfl)) (pgs_cons (pg_sub (pv 0) pe_str (set_dict hu)) pgs_nil))))
    (pss_one (ps_ret (pv 5))))), ?_⟩
    refine ⟨fun σ' H' => ∃ (v2 v3 v4 v5 : Option V) (spot' left' : Int), σ' = [some (.ref t), some (.int m), v2, v3, v4, v5] ∧ TapeC H' t c ns spot' left' ∧ spot' ≤ ((n + 1 : Nat) : Int) ∧ Kp t H H', ?_, ?_⟩
    · refine ⟨_, rfl, t, _, rfl, dg_left tp.d, _, rfl, _, _, rfl, rfl, _, rfl, ite2 (fun _ => ?_) (fun _ => ?_)⟩
      · obtain ⟨x, hx⟩ := cell_at tp.ne tp.s0
        refine ⟨_, rfl, t, _, rfl, dg_spot tp.d, _, rfl, t, _, rfl, dg_cells tp.d, c, _, rfl, .inl (SqL.of tp.l), _, _, rfl, ?_⟩
        refine ⟨_, rfl, t, _, rfl, dg_cells tp.d, _, rfl, _, rfl, _, _, rfl, rfl, ?_, c, _, _, _, rfl, rfl, SqL.of tp.l, hx, _, rfl, _, _, rfl, rfl, by show 2 ≤ sizeLine; decide, fun p hp => ?_⟩
        · show (0 : Int) < ((ns.map V.int).length : Int)
          rw [List.length_map]
          have := tp.ne
          omega
        have h1 : (upd H p (.tup [.int x, .int (spot + 1)])) t = some (.dK (tk c spot left)) := by
          rw [upd_ne (ne_of_none tp.d hp)]
          exact tp.d
        refine ⟨p, _, rfl, SqT.of upd_same, rfl, _, _, rfl, _, _, rfl, _, rfl, t, _, rfl, dp_spot _ h1, rfl, ?_⟩
        have c1 : (upd (upd H p (.tup [.int x, .int (spot + 1)])) t (.dK (tk c (spot + 1) left))) c = some (.lst (ns.map V.int)) := by
          rw [upd_ne (show c ≠ t from ne_of tp.l tp.d (by intro z; cases z)), upd_ne (ne_of_none tp.l hp)]
          exact tp.l
        refine ⟨_, rfl, _, _, rfl, rfl, by show (0 : Int) < 2147483647; decide, _, rfl, _, _, rfl, rfl, .inl ⟨by decide, by decide⟩, _, _, rfl, rfl, _, _, rfl, rfl, _, _, rfl, rfl, pow_ok tp.s0 hs hn, _, _, rfl, rfl, ⟨by decide, by decide, by decide⟩, _, _, rfl, rfl, _, _, rfl, rfl, ?_, _, rfl, t, _, rfl, dp_left _ upd_same, ?_⟩
        · show (0 : Int) < 10 ^ (50 : Int).toNat + 151
          decide
        have kp : ∀ z, Kp t H (upd (upd (upd H p (.tup [.int x, .int (spot + 1)])) t (.dK (tk c (spot + 1) left))) t (.dK (tk c (spot + 1) z))) := fun z => ((Kp.new hp).trans Kp.at).trans Kp.at
        have tq : ∀ z, 0 ≤ z → TapeC (upd (upd (upd H p (.tup [.int x, .int (spot + 1)])) t (.dK (tk c (spot + 1) left))) t (.dK (tk c (spot + 1) z))) t c ns (spot + 1) z := fun z hz =>
          ⟨upd_same, by rw [upd_ne (show c ≠ t from ne_of tp.l tp.d (by intro z; cases z))]; exact c1, tp.ne, tp.lt, by have := tp.s0; omega, hz⟩
        have h0 : ∀ a : Int, 0 ≤ a % (10 ^ (50 : Int).toNat + 151) := fun a => Int.emod_nonneg _ (by decide)
        refine ⟨_, rfl, _, _, rfl, rfl, ⟨by decide, by decide, by decide⟩, _, _, rfl, rfl, _, rfl, ite2 (fun hc => ?_) (fun _ => iteF ?_)⟩
        · refine ⟨_, rfl, _, rfl, _, _, rfl, rfl, _, rfl, ite2 (fun _ => ?_) (fun _ => ?_)⟩
          · refine ⟨_, rfl, _, _, rfl, rfl, ⟨by decide, by decide, by decide⟩, _, _, rfl, rfl, _, rfl, t, _, rfl, dp_left _ upd_same, ?_⟩
            have hz : (10 : Int) ^ (18 : Int).toNat ≤ x := of_decide_eq_true hc
            exact ⟨_, _, _, _, spot + 1, x - 10 ^ (18 : Int).toNat, rfl, ⟨upd_same, by rw [upd_ne (show c ≠ t from ne_of tp.l tp.d (by intro z; cases z))]; exact (tq _ (h0 _)).l, tp.ne, tp.lt, by have := tp.s0; omega, by omega⟩, by omega, (kp _).trans Kp.at⟩
          · exact ⟨_, _, _, _, _, _, rfl, tq _ (h0 _), by omega, kp _⟩
        · exact ⟨_, _, _, _, _, _, rfl, tq _ (h0 _), by omega, kp _⟩
      · exact ⟨_, _, _, _, _, _, rfl, tp, by omega, Kp.refl _⟩
    · rintro σ' H' ⟨v2, v3, v4, v5, spot', left', rfl, tp', hs', kp⟩
      refine ⟨_, rfl, t, _, rfl, dg_left tp'.d, _, rfl, _, _, rfl, rfl, hm, _, rfl, t, _, rfl, dg_left tp'.d, _, rfl, _, _, rfl, rfl, ⟨hm, ?_⟩, by show 2 ≤ sizeLine; decide, fun p hp => ?_⟩
      · exact log2_small hm hm2
      have h1 : ∀ o, (upd H' p o) t = some (.dK (tk c spot' left')) := fun o => by
          rw [upd_ne (ne_of_none tp'.d hp)]
          exact tp'.d
      refine ⟨p, _, rfl, SqT.of upd_same, rfl, _, _, rfl, _, _, rfl, _, rfl, t, _, rfl, dp_left _ (h1 _), rfl, ?_⟩
      refine ⟨_, rfl, k _ _ (Int.emod_nonneg _ (by omega)) (Int.emod_lt_of_pos _ hm) ?_ ?_⟩
      · exact ⟨ns, spot', _, ⟨upd_same, by rw [upd_ne (show c ≠ t from ne_of tp'.l tp'.d (by intro z; cases z)), upd_ne (ne_of_none tp'.l hp)]; exact tp'.l, tp'.ne, tp'.lt, tp'.s0, Int.ediv_nonneg tp'.l0 (by omega)⟩, hs'⟩
      · exact (kp.trans (Kp.new hp)).trans Kp.at
/-- a pick from a list or a tuple -/
def spPick (K : PySem.W.Frag) : Sp := fun vs H Q _ => ∃ (t c a : Addr) (xs : List V) (n : Nat), vs = [.ref t, .ref a] ∧ Tape H t c n ∧ n < 2 ^ 40 ∧ (∀ H', Kp t H H' → SqL K H' a xs ∨ SqT K H' a xs) ∧ 0 < xs.length ∧ xs.length ≤ 1000000 ∧
  ∀ (H' : Hp) (i : Nat) (v : V), xs[i]? = some v → Tape H' t c (n + 1) → Kp t H H' → Q v H'
theorem has_pick (T : Top K mg) (h__law_draw : Has P w K mg base 1 "_law_draw" ["_law_tape", "_law_many"] spDraw) : Has P w K mg base 2 "_law_pick" ["_law_tape", "_law_some"] (spPick K) := by
  refine has_of T.d__law_pick sc__law_pick bd__law_pick (fun vs H Q E h => ?_) (fun f cdv A outer s H vs Q E hr h => ?_)
  · obtain ⟨t, c, a, xs, n, rfl, _⟩ := h
    rfl
  · have hu := hu_of hr
    have nd := sc__law_pick.nd
    obtain ⟨t, c, a, xs, n, rfl, tp, hn, hs, h0, h1, k⟩ := h
    refine ⟨_, (pss_one (ps_ret (pe_ix ix_seq (pv 1) (pe_has h__law_draw (hr.mono (by omega)) (by rfl) (pa_cons (pv 0) (pa_cons (pe_callB call_len_seq (by rfl) T.b_len (by decide +kernel) (pa_cons (pv 1) pa_nil)) pa_nil))) (fun _ _ => rfl)))), ?_⟩
    refine ⟨_, rfl, _, rfl, _, rfl, a, xs, rfl, hs H (Kp.refl _), t, c, _, n, rfl, tp, hn, by omega, ?_, fun H' r r0 r1 tp' kp => ?_⟩
    · exact Int.lt_of_le_of_lt (Int.ofNat_le.mpr h1) (by decide +kernel)
    have hi : r.toNat < xs.length := by omega
    have g : xs[r.toNat]? = some xs[r.toNat] := List.getElem?_eq_getElem hi
    rcases hs H' kp with z | z
    · exact .inl ⟨a, xs, r, _, rfl, rfl, z, at_of (by omega) g, k H' _ _ g tp' kp⟩
    · exact .inr (.inl ⟨a, xs, r, _, rfl, rfl, z, at_of (by omega) g, k H' _ _ g tp' kp⟩)
/-- the tape's beginning -/
def spBegun (K : PySem.W.Frag) : Sp := fun vs H Q _ => ∃ (a : Addr) (ns : List Int), vs = [.ref a] ∧ SqL K H a (ns.map V.int) ∧ ns.length ≤ 63 ∧
  ∀ (H' : Hp) (t c : Addr), H t = none → H c = none → Same H H' → Tape H' t c 0 → Q (.ref t) H'
theorem has_begun (T : Top K mg) : Has P w K mg base 1 "_law_begun" ["_law_script"] (spBegun K) := by
  refine has_of T.d__law_begun sc__law_begun bd__law_begun (fun vs H Q E h => ?_) (fun f cdv A outer s H vs Q E hr h => ?_)
  · obtain ⟨a, ns, rfl, _⟩ := h
    rfl
  · have hu := hu_of hr
    have nd := sc__law_begun.nd
    obtain ⟨a, ns, rfl, hS, hl, k⟩ := h
    refine ⟨_, (pss_one (ps_ret (pe_disp (pps_cons pe_str (pe_orT (pe_slice sl_list (pv 0) po_none (po_some pe_int)) (pe_one (pe_lst (pa_cons pe_int pa_nil)))) (pps_cons pe_str pe_int (pps_cons pe_str pe_int pps_nil))) (by rfl) (by rfl) (fun z => by cases z) (by decide)))), ?_⟩
    intro t ht
    have s1 := same_new (o := .dK []) ht
    refine ⟨_, rfl, 63, rfl, a, _, rfl, s1.seq hS, fun q hq => ?_⟩
    have ec : cutV (ns.map V.int) none (some 63) = ns.map V.int := by
      unfold cutV
      rw [HT.sIx_none, show HT.sIx (ns.map V.int).length (ns.map V.int).length (some 63) = min 63 (ns.map V.int).length from HT.sIx_nat _ _ 63, List.drop_zero, List.length_map]
      refine List.take_of_length_le ?_
      rw [List.length_map]
      omega
    rw [ec]
    have nqt : q ≠ t := fun e => by
      rw [e, upd_same] at hq
      cases hq
    have nq : H q = none := by
      rw [← hq, upd_ne nqt]
    cases hns : ns with
    | cons z zs =>
      refine ⟨true, .inl ⟨_, SqL.of upd_same, rfl⟩, iteT ?_⟩
      refine ⟨by rw [upd_ne nqt.symm]; exact upd_same, tk q 0 0, rfl, by show 3 ≤ 15; decide, ?_⟩
      refine k _ t q ht nq (fun b o e => ?_) ⟨z :: zs, 0, 0, ⟨upd_same, by rw [upd_ne nqt]; exact upd_same, by rw [List.length_cons]; omega, by rw [← hns]; exact hl, by decide, by decide⟩, by decide⟩
      rw [upd_ne (ne_of_none e ht), upd_ne (ne_of_none e nq), upd_ne (ne_of_none e ht)]
      exact e
    | nil =>
      refine ⟨false, .inl ⟨_, SqL.of upd_same, rfl⟩, iteF ?_⟩
      refine ⟨by show 1 ≤ sizeLine; decide, fun p hp => ?_⟩
      have npq : p ≠ q := fun e => by
        rw [e, upd_same] at hp
        cases hp
      have npt : p ≠ t := fun e => by
        rw [e, upd_ne nqt.symm, upd_same] at hp
        cases hp
      have np : H p = none := by
        rw [← hp, upd_ne npq, upd_ne npt]
      refine ⟨by rw [upd_ne npt.symm, upd_ne nqt.symm]; exact upd_same, tk p 0 0, rfl, by show 3 ≤ 15; decide, ?_⟩
      refine k _ t p ht np (fun b o e => ?_) ⟨[0], 0, 0, ⟨upd_same, by rw [upd_ne npt]; exact upd_same, by decide, by decide, by decide, by decide⟩, by decide⟩
      rw [upd_ne (ne_of_none e ht), upd_ne (ne_of_none e np), upd_ne (ne_of_none e nq), upd_ne (ne_of_none e ht)]
      exact e
end

/-! ### steps by clauses, as plain functions -/
def tru (on : List Int) : List (Key × V) := on.map fun k => ((Sum.inl k : Key), V.bl true)
def ins (on : List Int) (k : Int) : List Int := if k ∈ on then on else on ++ [k]
theorem tru_val (on : List Int) (k : Int) : valV (tru on) (Sum.inl k : Key) = if k ∈ on then some (V.bl true) else none := by
  induction on with
  | nil => rfl
  | cons a r ih =>
    show valV (((Sum.inl a : Key), V.bl true) :: tru r) (Sum.inl k : Key) = _
    by_cases h : a = k
    · rw [valV_pos (by rw [h]), if_pos (by rw [h]; exact List.mem_cons_self)]
    · rw [valV_neg (fun e => h (Sum.inl.inj e)), ih]
      by_cases hm : k ∈ r
      · rw [if_pos hm, if_pos (List.mem_cons_of_mem _ hm)]
      · rw [if_neg hm, if_neg]
        intro z
        rcases List.mem_cons.mp z with e | e
        · exact h e.symm
        · exact hm e
theorem tru_some (on : List Int) (k : Int) : (valV (tru on) (Sum.inl k : Key)).isSome = decide (k ∈ on) := by
  rw [tru_val]
  by_cases h : k ∈ on
  · rw [if_pos h, decide_eq_true h]
    rfl
  · rw [if_neg h, decide_eq_false h]
    rfl
theorem tru_put (on : List Int) (k : Int) : putK (tru on) (Sum.inl k : Key) (V.bl true) = tru (ins on k) := by
  unfold ins
  by_cases h : k ∈ on
  · rw [if_pos h]
    unfold putK
    rw [if_pos (by rw [valV_any, tru_some, decide_eq_true h])]
    unfold tru
    rw [List.map_map]
    refine List.map_congr_left fun a ha => ?_
    show (if ((Sum.inl a : Key), V.bl true).1 = Sum.inl k then _ else _) = _
    by_cases e : (Sum.inl a : Key) = Sum.inl k
    · rw [if_pos e]
    · rw [if_neg e]
  · rw [if_neg h, putK_new _ (by rw [tru_val, if_neg h])]
    unfold tru
    rw [List.map_append]
    rfl
theorem tru_merge : ∀ (b a : List Int), mergeK (tru a) (tru b) = tru (b.foldl ins a)
  | [], a => rfl
  | k :: r, a => by
    show mergeK (putK (tru a) (Sum.inl k : Key) (V.bl true)) (tru r) = _
    rw [tru_put, tru_merge r]
    rfl
theorem ins_len (on : List Int) (k : Int) : (ins on k).length ≤ on.length + 1 := by
  unfold ins
  split
  · omega
  · rw [List.length_append]
    exact Nat.le_refl _
theorem fold_len : ∀ (b a : List Int), (b.foldl ins a).length ≤ a.length + b.length
  | [], a => Nat.le_refl _
  | k :: r, a => by
    have h := fold_len r (ins a k)
    have h2 := ins_len a k
    show (r.foldl ins (ins a k)).length ≤ a.length + (r.length + 1)
    omega
/-- the marks of a clause that aren't off -/
def left (on c : List Int) : List Int := c.filter fun m => !decide (-m ∈ on)
/-- the clause of a number -/
def clAt (cs : List (List Int)) (r : Int) : Option (List Int) := if 0 ≤ r ∧ r < cs.length then cs[r.toNat]? else none
def step (cs : List (List Int)) (on : List Int) (r : Int) : Option (List Int) :=
  match clAt cs r with
  | none => none
  | some c => match left on c with
    | [x] => if x ∈ on then none else some (ins on x)
    | _ => none
def bring (cs : List (List Int)) : List Int → List Int → Option (List Int)
  | [], on => some on
  | r :: rs, on => match step cs on r with
    | none => none
    | some on' => bring cs rs on'
def broken (cs : List (List Int)) (on : List Int) (r : Int) : Bool :=
  match clAt cs r with
  | none => false
  | some c => (left on c).isEmpty
/-- what the program tells -/
def shownP (cs : List (List Int)) (ps rs : List Int) : Option Int → Bool
  | none => match rs.getLast? with
    | none => false
    | some r => match bring cs rs.dropLast (ps.foldl ins []) with
      | none => false
      | some on => broken cs on r
  | some m => match bring cs rs (ps.foldl ins []) with
    | none => false
    | some on => decide (m ∈ on)
/-- the law's own walk -/
def stepL (cs : List (List Int)) (on : List Int) (r : Int) : Option (List Int × Bool) :=
  match clAt cs r with
  | none => none
  | some c => if (left on c).length > 1 ∨ ((left on c).filter fun m => decide (m ∈ on)) ≠ [] then none else some ((left on c).foldl ins on, (left on c).isEmpty)
def walkL (cs : List (List Int)) : List Int → List Int → Bool → Option (List Int × Bool)
  | [], on, e => some (on, e)
  | r :: rs, on, e => if e = true then none else match stepL cs on r with
    | none => none
    | some (on', e') => walkL cs rs on' e'
def shownL (cs : List (List Int)) (ps rs : List Int) (m : Option Int) : Bool :=
  match walkL cs rs (ps.foldl ins []) false with
  | none => false
  | some (on, e) => match m with
    | none => e
    | some k => !e && decide (k ∈ on)
theorem stepL_of (cs : List (List Int)) (on : List Int) (r : Int) : stepL cs on r = match step cs on r with
    | some on' => some (on', false)
    | none => if broken cs on r = true then some (on, true) else none := by
  unfold stepL step broken
  cases clAt cs r with
  | none => rfl
  | some c =>
    show (if (left on c).length > 1 ∨ ((left on c).filter fun m => decide (m ∈ on)) ≠ [] then none else some ((left on c).foldl ins on, (left on c).isEmpty)) = match (match left on c with | [x] => if x ∈ on then none else some (ins on x) | _ => none) with
      | some on' => some (on', false)
      | none => if (left on c).isEmpty = true then some (on, true) else none
    cases left on c with
    | nil => simp
    | cons x r =>
      cases r with
      | nil =>
        by_cases h : x ∈ on
        · simp [h]
        · simp [h, ins]
      | cons y r => simp
theorem walk_ended (cs : List (List Int)) (rs on : List Int) : walkL cs rs on true = if rs = [] then some (on, true) else none := by
  cases rs with
  | nil => rfl
  | cons r rs => simp [walkL]
theorem walk_mark (cs : List (List Int)) (k : Int) : ∀ (rs on : List Int), (match walkL cs rs on false with
    | none => false
    | some (o, e) => !e && decide (k ∈ o)) = match bring cs rs on with
    | none => false
    | some o => decide (k ∈ o)
  | [], on => rfl
  | r :: rs, on => by
    simp only [walkL, bring]
    rw [if_neg Bool.false_ne_true, stepL_of]
    cases step cs on r with
    | some on' => exact walk_mark cs k rs on'
    | none =>
      by_cases hb : broken cs on r = true
      · simp only [hb, if_true]
        rw [walk_ended]
        cases rs with
        | nil => rfl
        | cons a b => rfl
      · simp only [hb]
        rfl
theorem walk_none (cs : List (List Int)) : ∀ (rs on : List Int), (match walkL cs rs on false with
    | none => false
    | some (_, e) => e) = match rs.getLast? with
    | none => false
    | some r => match bring cs rs.dropLast on with
      | none => false
      | some o => broken cs o r
  | [], on => rfl
  | [r], on => by
    simp only [walkL, bring, List.getLast?_singleton, List.dropLast_singleton]
    rw [if_neg Bool.false_ne_true, stepL_of]
    cases hs : step cs on r with
    | some on' =>
      have nb : broken cs on r = false := by
        unfold step at hs
        unfold broken
        cases hc : clAt cs r with
        | none => rfl
        | some c =>
          rw [hc] at hs
          simp only at hs ⊢
          cases hl : left on c with
          | nil =>
            rw [hl] at hs
            cases hs
          | cons x y => rfl
      rw [nb]
    | none =>
      by_cases hb : broken cs on r = true
      · simp only [hb, if_true]
      · simp only [hb]
        simp
  | r :: r2 :: rs, on => by
    have e1 : (r :: r2 :: rs).getLast? = (r2 :: rs).getLast? := by rw [List.getLast?_cons_cons]
    have e2 : (r :: r2 :: rs).dropLast = r :: (r2 :: rs).dropLast := rfl
    rw [e1, e2]
    simp only [bring]
    rw [show walkL cs (r :: r2 :: rs) on false = match stepL cs on r with | none => none | some (on', e') => walkL cs (r2 :: rs) on' e' by
      show (if false = true then none else _) = _
      rw [if_neg Bool.false_ne_true]]
    rw [stepL_of]
    cases step cs on r with
    | some on' => exact walk_none cs (r2 :: rs) on'
    | none =>
      have z : (match (r2 :: rs).getLast? with | none => false | some r => false) = false := by
        cases (r2 :: rs).getLast? <;> rfl
      by_cases hb : broken cs on r = true
      · simp only [hb, if_true]
        rw [walk_ended]
        simp only [reduceCtorEq, if_false]
        exact z.symm
      · simp only [hb]
        exact z.symm
theorem shown_eq (cs : List (List Int)) (ps rs : List Int) (m : Option Int) : shownL cs ps rs m = shownP cs ps rs m := by
  unfold shownL shownP
  cases m with
  | none => exact walk_none cs rs _
  | some k => exact walk_mark cs k rs _

/-! ### name = {k: v for ..} on one line, the name a local -/
section
variable {X : Cx}
theorem sw_dict {kx vx : Expr} {gs : List Comprehension} {scope : Scope} {pos py : Pos} {y : PySem.Str} {l : Nat} {env : Env} (hk : env.scope.kind = .function) (hy : env.scope.names.lookup y = some .local) (hl : (py.line == pos.line) = true)
    (no : (scope.names.any fun (n, k) => n == y && (k == .local || k == .cell)) = false) : swapsWith (.DictComp kx vx gs scope pos) (some (.Name y py)) l env = pure true := by
  have e1 : env.kindOf y = some .local := hy
  have e2 : env.blockKind = .function := by
    unfold Env.blockKind
    rw [hk]
    rfl
  unfold swapsWith
  simp only [e1, e2, no, hl, Expr.pos]
  rfl
theorem ps_setDc {i : Nat} {y : PySem.Str} {py : Pos} {kx vx tg iter : Expr} {ifs : List Expr} {scope : Scope} {own : List (PySem.Str × Nat)} {pos spos : Pos} {wi : TI} {g : TG} {tt : TT} {tk tv : TE} (hc : X.calm = true) (hN : X.N.Nodup) (hy : X.N[i]? = some y)
    (hl : X.env.scope.names.lookup y = some .local) (hsw : swapsWith (.DictComp kx vx [⟨tg, iter, ifs, 0⟩] scope pos) (some (.Name y py)) spos.line X.env = pure true) (hi : PI X tg iter wi) (ok : BlkOk X.N X.env.scope scope own)
    (hg : ∀ (s : Shared) (H : Hp) (C : Addr) (cl : List (PySem.Str × Addr)) (fp : List Addr), PG (X.blk s H scope (compEnvC scope cl C X.env) fp) tg g)
    (ht : ∀ (s : Shared) (H : Hp) (C : Addr) (cl : List (PySem.Str × Addr)) (fp : List Addr), PTs (X.blk s H scope (compEnvC scope cl C X.env) fp) ifs tt)
    (hk : ∀ (s : Shared) (H : Hp) (C : Addr) (cl : List (PySem.Str × Addr)) (fp : List Addr), PE (X.blk s H scope (compEnvC scope cl C X.env) fp) kx tk)
    (he : ∀ (s : Shared) (H : Hp) (C : Addr) (cl : List (PySem.Str × Addr)) (fp : List Addr), PE (X.blk s H scope (compEnvC scope cl C X.env) fp) vx tv) (hs : ∀ x, foldedSetIterable iter X.env x = pure x := by intro _; rfl) :
    PS X (.Assign [.Name y py] (.DictComp kx vx [⟨tg, iter, ifs, 0⟩] scope pos) spos) (tAsg (tDc wi g tt tk tv (own.map (·.2))) (gName i)) := by
  refine ⟨fun pins s σ H D I rd => ?_⟩
  have rd : tDc wi g tt tk tv (own.map (·.2)) σ H (fun x Ha => gName i x σ Ha D.nx) := rd
  rw [exec_Assign_Name_used _ _ _ _ hsw]
  refine wpAny_bind (wpAny_standAt (wpAny_bind ?_))
  rw [arm_evalThenUse_DictComp]
  refine wpAny_bind (thn (dc_core (Qf := fun _ sz => SP X pins D .next sz) hc hN I hi ok hg ht hk he hs rd fun Z C sa m Ha Ia q ns free => ?_) fun _ sz hz => wpAny_pure (wpAny_pure hz))
  refine wpAny_assign_Name (store_ok2 (v := V.ref Z) Ia hN hy (.inl hl) rfl (fun sb Ib ⟨a, same, where_⟩ => ?_) (.inr hl))
  have away : C ≠ a := where_.elim (fun z => z ▸ free.2.1) fun z e => free.2.2.2.2.1 y a z e.symm
  refine ⟨m, ns.sameBut same away, fun h3 same3 => ⟨_, Ha, Ib.turned (t' := sb.toks) (fun b o hb e => (same3.2 b hb).trans e) free.1 free.2.1 free.2.2.2.1 free.2.2.2.2.1 free.2.2.2.2.2, q⟩⟩
end
/-- over a list that stays: {x: True for x in xs}, xs whole numbers -/
theorem dc_list {K : PySem.W.Frag} {a : Addr} {ns : List Int} {te tv : TE} {vs : List Nat} {σ : L2.St} {H : Hp} {D : Addr} {Qd : Hp → Prop} {j : Nat} (hx : SqL K H a (ns.map V.int)) (hD : H D = none) (hz : ns.length ≤ 1000000)
    (wip : ∀ n, wipe ((wipe σ vs).set j (some (.int n))) vs = wipe σ vs) (hk : ∀ n H' R, R (.int n) H' → te ((wipe σ vs).set j (some (.int n))) H' R) (hv : ∀ n H' R, R (.bl true) H' → tv ((wipe σ vs).set j (some (.int n))) H' R)
    (k : ∀ H', Same H H' → H' D = some (.dK (tru (ns.foldl ins []))) → Qd H') :
    ∃ W : Nat → Nat → Hp → Prop, (∃ m, W 0 m (upd H D (.dK []))) ∧ ∀ i m Hc, W i m Hc →
      ((Itl K a).stop i Hc ∧ Qd Hc) ∨ ((Itl K a).go i Hc ∧ ∃ Nx : Hp → Prop, (∀ H', Nx H' → ∃ m', m' < m ∧ W (i + 1) m' H') ∧ ∀ x H', (Itl K a).yld i Hc x H' → gName j x (wipe σ vs) H' fun σ2 H2 => wipe σ2 vs = wipe σ vs ∧ tYes σ2 H2 fun b H3 =>
        if b = true then te σ2 H3 fun y H4 => tv σ2 H4 fun z H5 => ∃ kvs k, y = kV k ∧ H5 D = some (.dK kvs) ∧ kvs.length < sizeLine ∧ Nx (upd H5 D (.dK (putK kvs k z))) else Nx H3) := by
  have line : 1000000 < sizeLine := by decide
  refine ⟨fun i m Hc => m = ns.length - i ∧ i ≤ ns.length ∧ Same H Hc ∧ Hc D = some (.dK (tru ((ns.take i).foldl ins []))), ⟨ns.length, rfl, Nat.zero_le _, same_new hD, upd_same⟩, ?_⟩
  rintro i m Hc ⟨rfl, hi, sm, hd⟩
  have at_a := sm.seq hx
  by_cases lt : i < ns.length
  · have g : (ns.map V.int)[i]? = some (.int ns[i]) := by
      rw [List.getElem?_map, List.getElem?_eq_getElem lt]
      rfl
    refine .inr ⟨⟨_, _, at_a, g⟩, fun Hd => Same H Hd ∧ Hd D = some (.dK (tru ((ns.take (i + 1)).foldl ins []))), fun Hd h => ⟨ns.length - (i + 1), by omega, rfl, lt, h⟩, ?_⟩
    rintro x Hd ⟨rfl, hy⟩
    have ex := Option.some.inj (g.symm.trans (hy _ at_a))
    subst ex
    refine ⟨wip _, yes_go (hk _ _ _ (hv _ _ _ ⟨_, Sum.inl ns[i], rfl, hd, ?_, ?_, ?_⟩))⟩
    · have l := fold_len (ns.take i) []
      have l2 : (ns.take i).length ≤ ns.length := by rw [List.length_take]; omega
      unfold tru
      rw [List.length_map]
      simp only [List.length_nil, Nat.zero_add] at l
      omega
    · intro b o e
      rw [upd_ne (ne_of_none e hD)]
      exact sm b o e
    · rw [upd_same, tru_put, List.take_add_one, List.getElem?_eq_getElem lt, List.foldl_append]
      rfl
  · have e : i = ns.length := by omega
    subst e
    rw [List.take_length] at hd
    exact .inl ⟨⟨_, at_a, by rw [List.length_map]; exact Nat.le_refl _⟩, k Hc sm hd⟩

/-! ### clauses as they stand in the heap -/
structure Cs (H : Hp) (a : Addr) (qs : List Addr) (cs : List (List Int)) : Prop where
  l : H a = some (.lst (qs.map V.ref))
  n : qs.length = cs.length
  t : ∀ (i : Nat) q c, qs[i]? = some q → cs[i]? = some c → H q = some (.tup (c.map V.int))
theorem Cs.same {H H' : Hp} {a : Addr} {qs : List Addr} {cs : List (List Int)} (h : Cs H a qs cs) (s : Same H H') : Cs H' a qs cs := ⟨s _ _ h.l, h.n, fun i q c hq hc => s _ _ (h.t i q c hq hc)⟩
theorem Cs.kp {H H' : Hp} {a d : Addr} {qs : List Addr} {cs : List (List Int)} {kvs : List (Key × V)} (h : Cs H a qs cs) (hd : H d = some (.dK kvs)) (k : Kp d H H') : Cs H' a qs cs :=
  ⟨k _ _ h.l (ne_of h.l hd (by intro z; cases z)), h.n, fun i q c hq hc => k _ _ (h.t i q c hq hc) (ne_of (h.t i q c hq hc) hd (by intro z; cases z))⟩
theorem clAt_some {cs : List (List Int)} {r : Int} {c : List Int} (h : clAt cs r = some c) : 0 ≤ r ∧ r < cs.length ∧ cs[r.toNat]? = some c := by
  unfold clAt at h
  split at h
  · rename_i e
    exact ⟨e.1, e.2, h⟩
  · cases h
theorem clAt_in {cs : List (List Int)} {r : Int} (h0 : 0 ≤ r) (h1 : r < cs.length) : ∃ c, clAt cs r = some c := by
  unfold clAt
  rw [if_pos ⟨h0, h1⟩]
  exact ⟨_, List.getElem?_eq_getElem (by omega)⟩
theorem Cs.at {H : Hp} {a : Addr} {qs : List Addr} {cs : List (List Int)} (h : Cs H a qs cs) {r : Int} {c : List Int} (hc : clAt cs r = some c) : ∃ q, atI (qs.map V.ref) r = some (.ref q) ∧ H q = some (.tup (c.map V.int)) := by
  obtain ⟨h0, h1, h2⟩ := clAt_some hc
  have hn := h.n
  have l : r.toNat < qs.length := by omega
  refine ⟨qs[r.toNat], at_of (j := r.toNat) (by omega) ?_, h.t _ _ _ (List.getElem?_eq_getElem l) h2⟩
  rw [List.getElem?_map, List.getElem?_eq_getElem l]
  rfl
theorem len_zero (l : List Int) : decide (V.int ((l.map V.int).length : Nat) = V.int 0) = l.isEmpty := by
  cases l with
  | nil => rfl
  | cons y r =>
    refine decide_eq_false fun z => ?_
    have z2 := V.int.inj z
    rw [List.length_map, List.length_cons] at z2
    omega
theorem drop_at {α : Type} {xs : List α} {i : Nat} {x : α} (h : xs[i]? = some x) : xs.drop i = x :: xs.drop (i + 1) := by
  obtain ⟨l, e⟩ := List.getElem?_eq_some_iff.mp h
  rw [List.drop_eq_getElem_cons l, e]
theorem int_at {rs : List Int} {i : Nat} {x : V} (h : (rs.map V.int)[i]? = some x) : ∃ r, x = .int r ∧ rs[i]? = some r := by
  rw [List.getElem?_map] at h
  cases e : rs[i]? with
  | none =>
    rw [e] at h
    cases h
  | some r =>
    rw [e] at h
    exact ⟨r, (Option.some.inj h).symm, rfl⟩
/-- the truth that is told of a number of a clause -/
def numB (cs : List (List Int)) (r : Int) : Bool := decide (0 ≤ r) && decide (r < cs.length)
theorem numB_at (cs : List (List Int)) (r : Int) : numB cs r = (clAt cs r).isSome := by
  unfold numB clAt
  by_cases h0 : 0 ≤ r
  · by_cases h1 : r < cs.length
    · rw [decide_eq_true h0, decide_eq_true h1, if_pos ⟨h0, h1⟩, List.getElem?_eq_getElem (by omega)]
      rfl
    · rw [decide_eq_false h1, if_neg (fun z => h1 z.2), Bool.and_false]
      rfl
  · rw [decide_eq_false h0, if_neg (fun z => h0 z.1), Bool.false_and]
    rfl
def spNum : Sp := fun vs H Q _ => ∃ (a : Addr) (r : Int) (qs : List Addr) (cs : List (List Int)), vs = [.ref a, .int r] ∧ Cs H a qs cs ∧ Q (.bl (numB cs r)) H
def spLeft : Sp := fun vs H Q _ => ∃ (q d : Addr) (c on : List Int), vs = [.ref q, .ref d] ∧ H q = some (.tup (c.map V.int)) ∧ H d = some (.dK (tru on)) ∧ c.length ≤ 1000 ∧
  ∀ (H' : Hp) (p : Addr), H p = none → Same H H' → H' p = some (.lst ((left on c).map V.int)) → Q (.ref p) H'
def spBroken : Sp := fun vs H Q _ => ∃ (a d : Addr) (r : Int) (qs : List Addr) (cs : List (List Int)) (on : List Int), vs = [.ref a, .int r, .ref d] ∧ Cs H a qs cs ∧ H d = some (.dK (tru on)) ∧ (∀ c ∈ cs, c.length ≤ 1000) ∧
  ∀ H', Same H H' → Q (.bl (broken cs on r)) H'
def spBring (K : PySem.W.Frag) : Sp := fun vs H Q _ => ∃ (a b d : Addr) (rs : List Int) (qs : List Addr) (cs : List (List Int)) (on : List Int), vs = [.ref a, .ref b, .ref d] ∧ Cs H a qs cs ∧ H b = some (.lst (rs.map V.int)) ∧ H d = some (.dK (tru on)) ∧
  (∀ c ∈ cs, c.length ≤ 1000) ∧ on.length + rs.length ≤ 100000 ∧ ∀ H', Kp d H H' → (∀ on', bring cs rs on = some on' → H' d = some (.dK (tru on'))) → Q (.bl (bring cs rs on).isSome) H'
def optV : Option Int → V
  | none => .non
  | some i => .int i
def spShown : Sp := fun vs H Q _ => ∃ (a b e : Addr) (m : Option Int) (ps rs : List Int) (qs : List Addr) (cs : List (List Int)), vs = [.ref a, .ref e, .ref b, optV m] ∧ Cs H a qs cs ∧ H b = some (.lst (rs.map V.int)) ∧ H e = some (.lst (ps.map V.int)) ∧
  (∀ c ∈ cs, c.length ≤ 1000) ∧ ps.length + rs.length ≤ 10000 ∧ ∀ H', Same H H' → Q (.bl (shownP cs ps rs m)) H'
section
variable {P : Program} {w : World} {K : PySem.W.Frag} {mg : Str → Option Value} {base : Heap}
theorem has_num (T : Top K mg) : Has P w K mg base 1 "_is_number_of" ["clauses", "row"] spNum := by
  refine has_of T.d__is_number_of sc__is_number_of bd__is_number_of (fun vs H Q E h => ?_) (fun f cdv A outer s H vs Q E hr h => ?_)
  · obtain ⟨a, r, qs, cs, rfl, _⟩ := h
    rfl
  · have hu := hu_of hr
    have nd := sc__is_number_of.nd
    obtain ⟨a, r, qs, cs, rfl, hc, k⟩ := h
    refine ⟨_, (pss_one (ps_ret (pe_chain op_le op_lt pe_int (pv 1) (pe_callB call_len_seq (by rfl) T.b_len (by decide +kernel) (pa_cons (pv 0) pa_nil))))), ?_⟩
    refine ⟨_, rfl, _, _, rfl, rfl, _, rfl, ite2 (fun h0 => ?_) (fun h0 => ?_)⟩
    · refine ⟨_, rfl, a, _, rfl, .inl (SqL.of hc.l), _, _, rfl, rfl, ?_⟩
      have e : numB cs r = decide (r < ((qs.map V.ref).length : Int)) := by
        unfold numB
        rw [show decide (0 ≤ r) = true from h0, Bool.true_and, List.length_map, hc.n]
      rw [e] at k
      exact k
    · have e : numB cs r = false := by
        unfold numB
        rw [show decide (0 ≤ r) = false from Bool.eq_false_iff.mpr h0, Bool.false_and]
      rw [e] at k
      exact k
theorem has_left (T : Top K mg) : Has P w K mg base 1 "_left_of" ["clause", "on"] spLeft := by
  refine has_of T.d__left_of sc__left_of bd__left_of (fun vs H Q E h => ?_) (fun f cdv A outer s H vs Q E hr h => ?_)
  · obtain ⟨q, d, c, on, rfl, _⟩ := h
    rfl
  · have hu := hu_of hr
    have nd := sc__left_of.nd
    obtain ⟨q, d, c, on, rfl, hq, hd, hl, k⟩ := h
    refine ⟨_, (pss_one (ps_ret (pe_lc (own := [("mark", 2)]) (by rfl) nd (pi_tup (pv 0)) (blkOk_by (own := [("mark", 2)]) (N := nm__left_of) (sc := defScope s__left_of) (by decide +kernel)) (fun _ _ _ _ _ => pg_name (i := 2) nd rfl (.inl rfl)) (fun _ _ _ _ _ => pts_one (pt_cmp (pc_dnotin hu (pe_un un_neg (pv 2)) (pv 1)))) (fun _ _ _ _ _ => (pv 2))))), ?_⟩
    refine ⟨_, rfl, q, rfl, ⟨_, SqT.of hq⟩, fun D hD => lc_sel_tup (fun x => match x with | .int m => !decide (-m ∈ on) | _ => false) (fun x => x) (SqT.of hq) hD (by rw [List.length_map]; omega) (fun x hm => ?_) fun H1 s1 h1 => ?_⟩
    · obtain ⟨m, _, rfl⟩ := List.mem_map.mp hm
      refine ⟨rfl, fun H' s' R g => ⟨_, rfl, m, rfl, _, rfl, d, _, rfl, DGet.k (k := Sum.inl (-m)) (s' _ _ hd), _, rfl, ?_⟩, fun _ H' s' R g => ⟨_, rfl, g H' (Same.refl _)⟩⟩
      rw [tru_some]
      exact g H' (Same.refl _)
    · refine k H1 D hD s1 ?_
      rw [h1, List.map_id', left, List.filter_map]
      rfl
theorem has_broken (T : Top K mg) (h__is_number_of : Has P w K mg base 1 "_is_number_of" ["clauses", "row"] spNum) (h__left_of : Has P w K mg base 1 "_left_of" ["clause", "on"] spLeft) :
    Has P w K mg base 2 "_is_broken" ["clauses", "row", "on"] spBroken := by
  refine has_of T.d__is_broken sc__is_broken bd__is_broken (fun vs H Q E h => ?_) (fun f cdv A outer s H vs Q E hr h => ?_)
  · obtain ⟨a, d, r, qs, cs, on, rfl, _⟩ := h
    rfl
  · have hu := hu_of hr
    have nd := sc__is_broken.nd
    obtain ⟨a, d, r, qs, cs, on, rfl, hc, hd, hw, k⟩ := h
    refine ⟨_, (pss_one (ps_ret (pe_and (pe_has h__is_number_of (hr.mono (by omega)) (by rfl) (pa_cons (pv 0) (pa_cons (pv 1) pa_nil))) (pe_one (pe_cmpR op_eq (pe_callB call_len_seq (by rfl) T.b_len (by decide +kernel) (pa_cons (pe_has h__left_of (hr.mono (by omega)) (by rfl) (pa_cons (pe_ix ix_list (pv 0) (pv 1) (fun _ _ => rfl)) (pa_cons (pv 2) pa_nil))) pa_nil)) pe_int (nomark _)))))), ?_⟩
    refine ⟨_, rfl, _, rfl, a, r, qs, cs, rfl, hc, _, rfl, ?_⟩
    have k' := k
    unfold broken at k'
    rw [numB_at]
    cases hx : clAt cs r with
    | none =>
      rw [hx] at k'
      exact iteF (k' H (Same.refl H))
    | some c =>
      rw [hx] at k'
      obtain ⟨q, eq, hq⟩ := hc.at hx
      have hm : c ∈ cs := List.mem_of_getElem? (clAt_some hx).2.2
      refine iteT ⟨_, rfl, _, rfl, a, _, _, _, rfl, rfl, SqL.of hc.l, eq, _, rfl, q, d, c, on, rfl, hq, hd, hw c hm, fun H1 p hp s1 h1 => ⟨p, _, rfl, .inl (SqL.of h1), rfl, ?_⟩⟩
      have e := len_zero (left on c)
      rw [e]
      exact k' H1 s1
theorem has_bring (T : Top K mg) (h__is_number_of : Has P w K mg base 1 "_is_number_of" ["clauses", "row"] spNum) (h__left_of : Has P w K mg base 1 "_left_of" ["clause", "on"] spLeft) :
    Has P w K mg base 2 "_bring_all" ["clauses", "rows", "on"] (spBring K) := by
  refine has_of T.d__bring_all sc__bring_all bd__bring_all (fun vs H Q E h => ?_) (fun f cdv A outer s H vs Q E hr h => ?_)
  · obtain ⟨a, b, d, rs, qs, cs, on, rfl, _⟩ := h
    rfl
  · have hu := hu_of hr
    have nd := sc__bring_all.nd
    obtain ⟨a, b, d, rs, qs, cs, on, rfl, hc, hb, hd, hw, hz, k⟩ := h
    refine ⟨_, (pss_cons (ps_for PassesOwn.never rfl (pi_list (pv 1)) (pg_name (i := 3) nd rfl (.inl rfl))
      (pss_cons (ps_if (pt_not (pt_val (pe_has h__is_number_of (hr.mono (by omega)) (by rfl) (pa_cons (pv 0) (pa_cons (pv 3) pa_nil))))) (pss_one (ps_ret pe_bl)) pss_nil)
    (pss_cons (ps_set (i := 4) nd rfl (.inl rfl) (pe_has h__left_of (hr.mono (by omega)) (by rfl) (pa_cons (pe_ix ix_list (pv 0) (pv 3) (fun _ _ => rfl)) (pa_cons (pv 2) pa_nil))))
    (pss_cons (ps_if (PW.pt (pw_or (pt_cmpR op_ne (pe_callB call_len_seq (by rfl) T.b_len (by decide +kernel) (pa_cons (pv 4) pa_nil)) pe_int (nomark _)) (pw_or1 (pt_cmp (pc_din hu (pe_ix ix_list (pv 4) pe_int (fun _ _ => rfl)) (pv 2)))))) (pss_one (ps_ret pe_bl)) pss_nil)
    (pss_one (ps_dput hu (pv 2) (pe_ix ix_list (pv 4) pe_int (fun _ _ => rfl)) pe_bl rfl))))))
    (pss_one (ps_ret pe_bl))), ?_⟩
    have nb : b ≠ d := ne_of hb hd (by intro z; cases z)
    have line : 1000000 < sizeLine := by decide
    refine ⟨_, rfl, b, rfl, ⟨_, SqL.of hb⟩, for_list (K := K) (a := b) (xs := rs.map V.int) (fun i σ H' => ∃ v3 v4 o, σ = [some (.ref a), some (.ref b), some (.ref d), v3, v4] ∧ Kp d H H' ∧ H' d = some (.dK (tru o)) ∧ bring cs rs on = bring cs (rs.drop i) o ∧ o.length ≤ on.length + i)
      ⟨none, none, on, rfl, Kp.refl _, hd, rfl, Nat.le_refl _⟩ ?_ ?_ ?_⟩
    · rintro i σ H' _ ⟨_, _, _, _, kp, _⟩
      exact SqL.of (kp _ _ hb nb)
    · rintro i x σ H' hi ⟨v3, v4, o, rfl, kp, ho, eb, lo⟩
      obtain ⟨r, rfl, hr⟩ := int_at hi
      have li : i < rs.length := (List.getElem?_eq_some_iff.mp hr).1
      rw [drop_at hr] at eb
      have hc' : Cs H' a qs cs := hc.kp hd kp
      have no : ∀ H2, Same H' H2 → bring cs rs on = none → Q (.bl false) H2 := fun H2 s2 e => by
        have z := k H2 (kp.trans (Kp.same s2)) (fun on' e2 => by rw [e] at e2; cases e2)
        rw [e] at z
        exact z
      refine ⟨_, rfl, _, rfl, a, r, qs, cs, rfl, hc', _, rfl, ?_⟩
      rw [numB_at]
      cases hx : clAt cs r with
      | none =>
        refine iteT (no H' (Same.refl _) ?_)
        rw [eb]
        show (match step cs o r with | none => none | some on' => bring cs (rs.drop (i + 1)) on') = none
        unfold step
        rw [hx]
      | some c =>
        obtain ⟨q, eq, hq⟩ := hc'.at hx
        have hm : c ∈ cs := List.mem_of_getElem? (clAt_some hx).2.2
        refine iteF ⟨_, rfl, _, rfl, a, _, _, _, rfl, rfl, SqL.of hc'.l, eq, _, rfl, q, d, c, o, rfl, hq, ho, hw c hm, fun H2 p np s2 h2 => ?_⟩
        have es : bring cs rs on = match (match left o c with | [x] => if x ∈ o then none else some (ins o x) | _ => none) with | none => none | some on' => bring cs (rs.drop (i + 1)) on' := by
          rw [eb]
          show (match step cs o r with | none => none | some on' => bring cs (rs.drop (i + 1)) on') = _
          unfold step
          rw [hx]
          all_goals rfl
        refine ⟨_, rfl, p, _, rfl, .inl (SqL.of h2), rfl, _, rfl, ?_⟩
        cases hl : left o c with
        | nil =>
          rw [hl] at es
          exact iteT (iteT (no H2 s2 es))
        | cons y ys =>
          cases ys with
          | cons z zs =>
            rw [hl] at es
            have e1 : decide (V.int (((y :: z :: zs).map V.int).length : Nat) = V.int 1) = false := decide_eq_false fun e => by
              have e2 := V.int.inj e
              rw [List.length_map, List.length_cons, List.length_cons] at e2
              omega
            rw [e1]
            exact iteT (iteT (no H2 s2 es))
          | nil =>
            rw [hl] at es h2
            refine iteF ⟨_, rfl, p, _, _, _, rfl, rfl, SqL.of h2, atI_nat (j := 0) rfl, _, rfl, d, _, rfl, DGet.k (k := Sum.inl y) (s2 _ _ ho), _, rfl, ?_⟩
            rw [tru_some]
            refine ite2 (fun m => ?_) (fun m => ?_)
            · have m' := of_decide_eq_true m
              simp only [if_pos m'] at es
              exact no H2 s2 es
            · have m' : ¬ y ∈ o := fun z => m (decide_eq_true z)
              simp only [if_neg m'] at es
              have ll : (tru o).length ≤ 1000000 := by
                unfold tru
                rw [List.length_map]
                omega
              refine ⟨_, rfl, _, rfl, p, _, _, _, rfl, rfl, SqL.of h2, atI_nat (j := 0) rfl, d, _, rfl, DPut.k (k := Sum.inl y) (v := V.bl true) (s2 _ _ ho) (by omega), ?_⟩
              rw [tru_put]
              refine ⟨_, _, ins o y, rfl, (kp.trans (Kp.same s2)).trans Kp.at, upd_same, es, ?_⟩
              have := ins_len o y
              omega
    · rintro σ H' ⟨v3, v4, o, rfl, kp, ho, eb, lo⟩
      rw [List.length_map, List.drop_length] at eb
      have e : bring cs rs on = some o := eb
      have z := k H' kp (fun on' e2 => by
        rw [e] at e2
        cases e2
        exact ho)
      rw [e] at z
      exact z
theorem tru_fold (ps : List Int) : mergeK [] (tru ps) = tru (ps.foldl ins []) := tru_merge ps []
theorem getLast_at {rs : List Int} {r : Int} (h : rs.getLast? = some r) : atI (rs.map V.int) (-1) = some (.int r) := by
  obtain ⟨ys, rfl⟩ := List.getLast?_eq_some_iff.mp h
  rw [List.map_append]
  exact atI_last _ _
theorem cut_init (xs : List V) : cutV xs none (some (-1)) = xs.dropLast := by
  unfold cutV
  rw [HT.sIx_none, List.drop_zero, List.dropLast_eq_take]
  congr 1
  show (if (-1 : Int) < 0 then ((-1 : Int) + (xs.length : Int)).toNat else min (-1 : Int).toNat xs.length) - 0 = xs.length - 1
  rw [if_pos (by decide)]
  omega
theorem has_shown (T : Top K mg) (h__bring_all : Has P w K mg base 2 "_bring_all" ["clauses", "rows", "on"] (spBring K)) (h__is_broken : Has P w K mg base 2 "_is_broken" ["clauses", "row", "on"] spBroken) :
    Has P w K mg base 3 "is_shown" ["clauses", "puts", "rows", "mark"] spShown := by
  refine has_of T.d_is_shown sc_is_shown bd_is_shown (fun vs H Q E h => ?_) (fun f cdv A outer s H vs Q E hr h => ?_)
  · obtain ⟨a, b, e, m, ps, rs, qs, cs, rfl, _⟩ := h
    rfl
  · have hu := hu_of hr
    have nd := sc_is_shown.nd
    obtain ⟨a, b, e, m, ps, rs, qs, cs, rfl, hc, hb, he, hw, hz, k⟩ := h
    refine ⟨_, (pss_cons (ps_setDc (i := 4) (own := [("put", 5)]) (by rfl) nd rfl rfl (sw_dict rfl rfl rfl (by decide +kernel)) (pi_list (pv 1)) (blkOk_by (own := [("put", 5)]) (N := nm_is_shown) (sc := defScope s_is_shown) (by decide +kernel)) (fun _ _ _ _ _ => pg_name (i := 5) nd rfl (.inl rfl)) (fun _ _ _ _ _ => pts_nil) (fun _ _ _ _ _ => (pv 5)) (fun _ _ _ _ _ => pe_bl))
    (pss_cons (ps_if (pt_cmpR op_isN (pv 3) pe_non (nomark _)) (pss_one (ps_ret (pe_and (pe_cmpR op_gt (pe_callB call_len_seq (by rfl) T.b_len (by decide +kernel) (pa_cons (pv 2) pa_nil)) pe_int (nomark _)) (pe_and (pe_has h__bring_all (hr.mono (by omega)) (by rfl) (pa_cons (pv 0) (pa_cons (pe_slice sl_list (pv 2) po_none (po_some (pe_un un_neg pe_int))) (pa_cons (pv 4) pa_nil)))) (pe_one (pe_has h__is_broken (hr.mono (by omega)) (by rfl) (pa_cons (pv 0) (pa_cons (pe_ix ix_list (pv 2) (pe_un un_neg pe_int) (fun _ _ => rfl)) (pa_cons (pv 4) pa_nil))))))))) pss_nil)
    (pss_one (ps_ret (pe_and (pe_has h__bring_all (hr.mono (by omega)) (by rfl) (pa_cons (pv 0) (pa_cons (pv 2) (pa_cons (pv 4) pa_nil)))) (pe_one (pe_cmp (pc_din hu (pv 3) (pv 4))))))))), ?_⟩
    refine ⟨_, rfl, e, rfl, ⟨_, SqL.of he⟩, fun D hD => dc_list (SqL.of he) hD (by omega) (fun n => rfl) (fun n H' R g => ⟨_, rfl, g⟩) (fun n H' R g => g) fun H1 s1 h1 => ?_⟩
    have back : ∀ {H2}, Kp D H1 H2 → Same H H2 := fun kp b o eb => kp b o (s1 b o eb) (ne_of_none eb hD)
    have l0 := fold_len ps []
    simp only [List.length_nil, Nat.zero_add] at l0
    have nbD : b ≠ D := ne_of_none hb hD
    have hb1 := s1 _ _ hb
    have hc1 := hc.same s1
    cases m with
    | none =>
      refine ⟨_, rfl, rfl, _, rfl, ?_⟩
      refine iteT ⟨_, rfl, b, _, rfl, .inl (SqL.of hb1), _, _, rfl, rfl, _, rfl, ?_⟩
      rw [List.length_map]
      cases hl : rs.getLast? with
      | none =>
        have er : rs = [] := List.getLast?_eq_none_iff.mp hl
        subst er
        exact iteF (k H1 s1)
      | some r =>
        have ne : rs ≠ [] := fun z => by
          rw [z] at hl
          cases hl
        have pos : 0 < rs.length := List.length_pos_iff.mpr ne
        have ep : shownP cs ps rs none = match bring cs rs.dropLast (ps.foldl ins []) with | none => false | some on => broken cs on r := by
          unfold shownP
          rw [hl]
          all_goals rfl
        rw [ep] at k
        rw [show decide ((0 : Int) < (rs.length : Int)) = true from decide_eq_true (by omega)]
        refine iteT ⟨_, rfl, _, rfl, _, rfl, -1, rfl, b, _, rfl, SqL.of hb1, fun c hcn => ?_⟩
        rw [cut_init, ← List.map_dropLast]
        have s2 := same_new (o := .lst (rs.dropLast.map V.int)) hcn
        refine ⟨_, rfl, a, c, D, rs.dropLast, qs, cs, ps.foldl ins [], rfl, hc1.same s2, upd_same, s2 _ _ h1, hw, by rw [List.length_dropLast]; omega, fun H2 kp hon => ⟨_, rfl, ?_⟩⟩
        have kp1 : Kp D H1 H2 := (Kp.same s2).trans kp
        cases hbr : bring cs rs.dropLast (ps.foldl ins []) with
        | none =>
          rw [hbr] at k
          exact iteF (k H2 (back kp1))
        | some o =>
          rw [hbr] at k hon
          have hb2 := kp1 _ _ hb1 nbD
          refine iteT ⟨_, rfl, _, rfl, _, rfl, b, _, _, _, rfl, rfl, SqL.of hb2, getLast_at hl, _, rfl, a, D, r, qs, cs, o, rfl, hc.same (back kp1), hon o rfl, hw, fun H3 s3 => ?_⟩
          exact k H3 ((back kp1).trans s3)
    | some m =>
      refine ⟨_, rfl, rfl, _, rfl, ?_⟩
      have ep : shownP cs ps rs (some m) = match bring cs rs (ps.foldl ins []) with | none => false | some on => decide (m ∈ on) := rfl
      rw [ep] at k
      refine iteF ⟨_, rfl, _, rfl, _, rfl, a, b, D, rs, qs, cs, ps.foldl ins [], rfl, hc1, hb1, h1, hw, by omega, fun H2 kp hon => ⟨_, rfl, ?_⟩⟩
      cases hbr : bring cs rs (ps.foldl ins []) with
      | none =>
        rw [hbr] at k
        exact iteF (k H2 (back kp))
      | some o =>
        rw [hbr] at k hon
        refine iteT ⟨_, rfl, _, rfl, D, _, rfl, DGet.k (k := Sum.inl m) (hon o rfl), ?_⟩
        rw [tru_some]
        exact k H2 (back kp)
end

/-! ### dict([(x, True) for x in xs]) -/
/-- pairs (n, True), new tuples -/
structure Prs (H : Hp) (ps : List Addr) (ns : List Int) : Prop where
  n : ps.length = ns.length
  t : ∀ (i : Nat) p m, ps[i]? = some p → ns[i]? = some m → H p = some (.tup [.int m, .bl true])
theorem Prs.paired {K : PySem.W.Frag} {H : Hp} : ∀ {ps : List Addr} {ns : List Int}, Prs H ps ns → Paired (fun p kv => SqT K H p [kV kv.1, kv.2]) ps (tru ns)
  | [], [], _ => .nil
  | [], _ :: _, h => absurd h.n (by simp)
  | _ :: _, [], h => absurd h.n (by simp)
  | p :: ps, m :: ns, h => by
    refine .cons (SqT.of (h.t 0 p m rfl rfl)) (Prs.paired ⟨Nat.succ.inj h.n, fun i q k hq hk => h.t (i + 1) q k hq hk⟩)
theorem lc_pairs {K : PySem.W.Frag} {a : Addr} {ns : List Int} {te : TE} {vs : List Nat} {σ : L2.St} {H : Hp} {D : Addr} {Qd : Hp → Prop} {j : Nat} (hx : SqL K H a (ns.map V.int)) (hD : H D = none) (hz : ns.length ≤ 1000000)
    (wip : ∀ n, wipe ((wipe σ vs).set j (some (.int n))) vs = wipe σ vs) (he : ∀ n H' (R : VK), (∀ p, H' p = none → R (.ref p) (upd H' p (.tup [.int n, .bl true]))) → te ((wipe σ vs).set j (some (.int n))) H' R)
    (k : ∀ H' ps, Same H H' → H' D = some (.lst (ps.map V.ref)) → Prs H' ps ns → Qd H') :
    ∃ W : Nat → Nat → Hp → Prop, (∃ m, W 0 m (upd H D (.lst []))) ∧ ∀ i m Hc, W i m Hc →
      ((Itl K a).stop i Hc ∧ Qd Hc) ∨ ((Itl K a).go i Hc ∧ ∃ Nx : Hp → Prop, (∀ H', Nx H' → ∃ m', m' < m ∧ W (i + 1) m' H') ∧ ∀ x H', (Itl K a).yld i Hc x H' → gName j x (wipe σ vs) H' fun σ2 H2 => wipe σ2 vs = wipe σ vs ∧ tYes σ2 H2 fun b H3 =>
        if b = true then te σ2 H3 fun y H4 => ∃ acc, H4 D = some (.lst acc) ∧ acc.length < sizeLine ∧ Nx (upd H4 D (.lst (acc ++ [y]))) else Nx H3) := by
  have line : 1000000 < sizeLine := by decide
  refine lc_list (xs := ns.map V.int) (fun i H' => Same H H' ∧ ∃ ps, H' D = some (.lst (ps.map V.ref)) ∧ Prs H' ps (ns.take i)) ⟨same_new hD, [], upd_same, rfl, fun i p m hp => by simp at hp⟩ (fun i H' _ p => p.1.seq hx) (fun i x H' hi p => ?_) fun H' p => ?_
  · obtain ⟨sm, ps, hd, pr⟩ := p
    obtain ⟨n, rfl, hn⟩ := int_at hi
    have li : i < ns.length := (List.getElem?_eq_some_iff.mp hn).1
    have ln : ps.length = i := by
      rw [pr.n, List.length_take]
      omega
    refine ⟨wip n, yes_go (he n H' _ fun q hq => ⟨ps.map V.ref, by rw [upd_ne (ne_of_none hd hq)]; exact hd, by rw [List.length_map]; omega, fun b o e => ?_, ps ++ [q], by rw [upd_same, List.map_append]; rfl, ?_⟩)⟩
    · rw [upd_ne (ne_of_none e hD), upd_ne (ne_of_none (sm b o e) hq)]
      exact sm b o e
    · have qD : q ≠ D := (ne_of_none hd hq).symm
      refine ⟨by rw [List.length_append, List.length_take, ln]; show i + 1 = min (i + 1) ns.length; omega, fun l p m hp hm => ?_⟩
      rw [List.take_add_one, hn] at hm
      by_cases c : l < ps.length
      · rw [List.getElem?_append_left c] at hp
        rw [List.getElem?_append_left (by rw [List.length_take]; omega)] at hm
        have g := pr.t l p m hp hm
        rw [upd_ne (ne_of g hd (by intro z; cases z)), upd_ne (ne_of_none g hq)]
        exact g
      · rw [List.getElem?_append_right (by omega)] at hp
        rw [List.getElem?_append_right (by rw [List.length_take]; omega)] at hm
        have e0 : l - ps.length = 0 := by
          have l1 := (List.getElem?_eq_some_iff.mp hp).1
          simp only [List.length_cons, List.length_nil] at l1
          omega
        have e1 : l - (ns.take i).length = 0 := by
          rw [List.length_take]
          omega
        rw [e0] at hp
        rw [e1] at hm
        cases hp
        cases hm
        rw [upd_ne qD, upd_same]
  · obtain ⟨sm, ps, hd, pr⟩ := p
    rw [List.length_map, List.take_length] at pr
    exact k H' ps sm hd pr
theorem shownL_of {cs : List (List Int)} {ps rs o : List Int} {en : Bool} {m : Option Int} (h : walkL cs rs (ps.foldl ins []) false = walkL cs [] o en) : shownL cs ps rs m = match m with
    | none => en
    | some k => !en && decide (k ∈ o) := by
  unfold shownL
  rw [h]
  rfl
theorem fold_small (l o : List Int) (h : l.length ≤ 1) : (l.foldl ins []).foldl ins o = l.foldl ins o := by
  cases l with
  | nil => rfl
  | cons x r =>
    cases r with
    | nil => rfl
    | cons y r =>
      simp only [List.length_cons] at h
      omega
section
variable {P : Program} {w : World} {K : PySem.W.Frag} {mg : Str → Option Value} {base : Heap}
theorem has_lshows (T : Top K mg) : Has P w K mg base 1 "_law_shows" ["_law_clauses", "_law_puts_here", "_law_rows", "_law_mark"] spShown := by
  refine has_of T.d__law_shows sc__law_shows bd__law_shows (fun vs H Q E h => ?_) (fun f cdv A outer s H vs Q E hr h => ?_)
  · obtain ⟨a, b, e, m, ps, rs, qs, cs, rfl, _⟩ := h
    rfl
  · have hu := hu_of hr
    have nd := sc__law_shows.nd
    obtain ⟨a, b, e, m, ps, rs, qs, cs, rfl, hc, hb, he, hw, hz, k⟩ := h
    have k : ∀ H', Same H H' → Q (.bl (shownL cs ps rs m)) H' := by
      rw [shown_eq]
      exact k
    refine ⟨_, (pss_cons (ps_asg (pe_tup (pa_cons (pe_callTy (call_dictP rfl) (by rfl) T.b_dict (by decide +kernel) (pa_cons (pe_lc (own := [("_law_one", 8)]) (by rfl) nd (pi_list (pv 1)) (blkOk_by (own := [("_law_one", 8)]) (N := nm__law_shows) (sc := defScope s__law_shows) (by decide +kernel)) (fun _ _ _ _ _ => pg_name (i := 8) nd rfl (.inl rfl)) (fun _ _ _ _ _ => pts_nil) (fun _ _ _ _ _ => (pe_tup (pa_cons (pv 8) (pa_cons pe_bl pa_nil))))) pa_nil)) (pa_cons pe_bl pa_nil))) (pg_tup (by rfl) (pgs_cons (pg_name (i := 4) nd rfl (.inr rfl)) (pgs_cons (pg_name (i := 5) nd rfl (.inl rfl)) pgs_nil))))
    (pss_cons (ps_for PassesOwn.never rfl (pi_list (pv 2)) (pg_name (i := 6) nd rfl (.inl rfl))
      (pss_cons (ps_if (PW.pt (pw_or (pt_val (pv 5)) (pw_or (pt_not (pt_val (pe_callB call_isi (by rfl) T.b_isinstance (by decide +kernel) (pa_cons (pv 6) (pa_cons (pe_bltn (v := .ty "int") (u := .type "int") (by rfl) T.b_int (by decide +kernel) (by rfl)) pa_nil))))) (pw_or (pt_val (pe_callB call_isi (by rfl) T.b_isinstance (by decide +kernel) (pa_cons (pv 6) (pa_cons (pe_bltn (v := .ty "bool") (u := .type "bool") (by rfl) T.b_bool (by decide +kernel) (by rfl)) pa_nil)))) (pw_or1 (pt_not (pt_chain op_le op_lt pe_int (pv 6) (pe_callB call_len_seq (by rfl) T.b_len (by decide +kernel) (pa_cons (pv 0) pa_nil))))))))) (pss_one (ps_ret pe_bl)) pss_nil)
    (pss_cons (ps_setLc (i := 7) (own := [("_law_one", 8)]) (by rfl) nd rfl rfl (sw_true rfl rfl rfl (by decide +kernel)) (pi_tup (pe_ix ix_list (pv 0) (pv 6) (fun _ _ => rfl))) (blkOk_by (own := [("_law_one", 8)]) (N := nm__law_shows) (sc := defScope s__law_shows) (by decide +kernel)) (fun _ _ _ _ _ => pg_name (i := 8) nd rfl (.inl rfl)) (fun _ _ _ _ _ => pts_one (pt_cmp (pc_dnotin hu (pe_op op_sub pe_int (pv 8)) (pv 4)))) (fun _ _ _ _ _ => (pv 8)))
    (pss_cons (ps_set (i := 5) nd rfl (.inl rfl) (pe_cmpR (op_eqNil hu) (pv 7) (pe_lst pa_nil) (nomark _)))
    (pss_cons (ps_if (PW.pt (pw_or (pt_cmpR op_gt (pe_callB call_len_seq (by rfl) T.b_len (by decide +kernel) (pa_cons (pv 7) pa_nil)) pe_int (nomark _)) (pw_or1 (pt_cmpR (op_neNil hu) (pe_lc (own := [("_law_one", 8)]) (by rfl) nd (pi_list (pv 7)) (blkOk_by (own := [("_law_one", 8)]) (N := nm__law_shows) (sc := defScope s__law_shows) (by decide +kernel)) (fun _ _ _ _ _ => pg_name (i := 8) nd rfl (.inl rfl)) (fun _ _ _ _ _ => pts_one (pt_cmp (pc_din hu (pv 8) (pv 4)))) (fun _ _ _ _ _ => (pv 8))) (pe_lst pa_nil) (nomark _))))) (pss_one (ps_ret pe_bl)) pss_nil)
    (pss_one (ps_expr (pe_bm PySem.F.plainAttrs_dict PySem.F.slot_dict_update PySem.F.type_dict_update mt_update (pv 4) (pa_cons (pe_callTy (call_dictP rfl) (by rfl) T.b_dict (by decide +kernel) (pa_cons (pe_lc (own := [("_law_one", 8)]) (by rfl) nd (pi_list (pv 7)) (blkOk_by (own := [("_law_one", 8)]) (N := nm__law_shows) (sc := defScope s__law_shows) (by decide +kernel)) (fun _ _ _ _ _ => pg_name (i := 8) nd rfl (.inl rfl)) (fun _ _ _ _ _ => pts_nil) (fun _ _ _ _ _ => (pe_tup (pa_cons (pv 8) (pa_cons pe_bl pa_nil))))) pa_nil)) pa_nil)))))))))
    (pss_one (ps_ret (pe_ifExp (pt_cmpR op_isN (pv 3) pe_non (nomark _)) (pv 5) (pe_and (pe_not (pv 5)) (pe_one (pe_cmp (pc_din hu (pv 3) (pv 4)))))))))), ?_⟩
    have line : 1000000 < sizeLine := by decide
    have l0 := fold_len ps []
    simp only [List.length_nil, Nat.zero_add] at l0
    refine ⟨_, rfl, e, rfl, ⟨_, SqL.of he⟩, fun D hD => lc_pairs (SqL.of he) hD (by omega) (fun n => rfl) (fun n H' R g => ⟨_, rfl, by show 2 ≤ sizeLine; decide, g⟩) fun H1 prs s1 h1 pr => ?_⟩
    refine ⟨D, prs, tru ps, rfl, SqL.of h1, pr.paired, fun d hd => ?_⟩
    rw [tru_fold]
    have nd0 : H d = none := s1.free hd
    refine ⟨by show 2 ≤ sizeLine; decide, fun tq htq => ⟨tq, _, rfl, SqT.of upd_same, rfl, _, _, rfl, _, _, rfl, rfl, ?_⟩⟩
    have s2 : Same H (upd (upd H1 d (.dK (tru (ps.foldl ins [])))) tq (.tup [V.ref d, V.bl false])) := s1.trans ((same_new hd).trans (same_new htq))
    have d2 : (upd (upd H1 d (.dK (tru (ps.foldl ins [])))) tq (.tup [V.ref d, V.bl false])) d = some (.dK (tru (ps.foldl ins []))) := same_new htq _ _ upd_same
    have no : ∀ H2, Same H H2 → walkL cs rs (ps.foldl ins []) false = none → Q (.bl false) H2 := fun H2 sm en => by
      have z := k H2 sm
      unfold shownL at z
      rw [en] at z
      exact z
    refine ⟨_, rfl, b, rfl, ⟨_, SqL.of (s2 _ _ hb)⟩, for_list (K := K) (a := b) (xs := rs.map V.int) (fun i σ H' => ∃ v6 v7 v8 o en, σ = [some (.ref a), some (.ref e), some (.ref b), some (optV m), some (.ref d), some (.bl en), v6, v7, v8] ∧ Same H H' ∧ H' d = some (.dK (tru o)) ∧
      walkL cs rs (ps.foldl ins []) false = walkL cs (rs.drop i) o en ∧ o.length ≤ ps.length + i) ⟨none, none, none, _, _, rfl, s2, d2, rfl, by omega⟩ ?_ ?_ ?_⟩
    · rintro i σ H' _ ⟨_, _, _, _, _, _, sm, _⟩
      exact SqL.of (sm _ _ hb)
    · rintro i x σ H' hi ⟨v6, v7, v8, o, en, rfl, sm, ho, ew, lo⟩
      obtain ⟨r, rfl, hr⟩ := int_at hi
      have li : i < rs.length := (List.getElem?_eq_some_iff.mp hr).1
      rw [drop_at hr] at ew
      have hc' := hc.same sm
      cases en with
      | true => exact ⟨_, rfl, true, rfl, iteT (iteT (no H' sm ew))⟩
      | false =>
        refine ⟨_, rfl, false, rfl, iteF ?_⟩
        refine ⟨_, rfl, .int r, .ty "int", _, _, true, rfl, .ty _, .base (.int r), kit_ty (by decide +kernel), true, rfl, iteF ?_⟩
        refine ⟨_, rfl, .int r, .ty "bool", _, _, false, rfl, .ty _, .base (.int r), kit_ty (by decide +kernel), false, rfl, iteF ?_⟩
        have ew2 : walkL cs rs (ps.foldl ins []) false = match stepL cs o r with | none => none | some (on', e') => walkL cs (rs.drop (i + 1)) on' e' := by
          rw [ew]
          show (if false = true then none else _) = _
          rw [if_neg Bool.false_ne_true]
          all_goals rfl
        have out : clAt cs r = none → walkL cs rs (ps.foldl ins []) false = none := fun hx => by
          rw [ew2]
          unfold stepL
          rw [hx]
        refine ⟨_, rfl, _, _, rfl, rfl, _, rfl, ite2 (fun h0 => ?_) (fun h0 => ?_)⟩
        · refine ⟨_, rfl, a, _, rfl, .inl (SqL.of hc'.l), _, _, rfl, rfl, _, rfl, ?_⟩
          rw [List.length_map, hc'.n]
          by_cases h1 : r < (cs.length : Int)
          · rw [decide_eq_true h1]
            refine iteF ?_
            obtain ⟨c, hx⟩ := clAt_in (of_decide_eq_true h0) h1
            obtain ⟨q, eq, hq⟩ := hc'.at hx
            have lc : c.length ≤ 1000 := hw c (List.mem_of_getElem? (clAt_some hx).2.2)
            have es : stepL cs o r = if (left o c).length > 1 ∨ ((left o c).filter fun m => decide (m ∈ o)) ≠ [] then none else some ((left o c).foldl ins o, (left o c).isEmpty) := by
              unfold stepL
              rw [hx]
            refine ⟨_, rfl, _, rfl, a, _, _, _, rfl, rfl, SqL.of hc'.l, eq, q, rfl, ⟨_, SqT.of hq⟩, fun D1 hD1 => lc_sel_tup (fun x => match x with | .int m => !decide (-m ∈ o) | _ => false) (fun x => x) (SqT.of hq) hD1 (by rw [List.length_map]; omega) (fun x hm => ?_) fun H2 s2' h2 => ?_⟩
            · obtain ⟨n, _, rfl⟩ := List.mem_map.mp hm
              refine ⟨rfl, fun Ha sa R g => ⟨_, rfl, _, _, rfl, rfl, _, rfl, d, _, rfl, DGet.k (k := Sum.inl (0 - n)) (sa _ _ ho), _, rfl, ?_⟩, fun _ Ha sa R g => ⟨_, rfl, g Ha (Same.refl _)⟩⟩
              rw [tru_some, Int.zero_sub]
              exact g Ha (Same.refl _)
            have e2 : (((c.map V.int).filter (fun x => match x with | .int m => !decide (-m ∈ o) | _ => false)).map fun x => x) = (left o c).map V.int := by
              rw [List.map_id', left, List.filter_map]
              rfl
            rw [e2] at h2
            have ll : (left o c).length ≤ 1000 := Nat.le_trans (List.length_filter_le _ _) lc
            generalize hL : left o c = l at h2 ll es
            refine ⟨_, rfl, by show 0 ≤ sizeLine; decide, fun n2 hn2 => ⟨D1, n2, _, rfl, rfl, SqL.of (same_new hn2 _ _ h2), SqL.of upd_same, ?_⟩⟩
            have s3 : Same H' (upd H2 n2 (.lst [])) := s2'.trans (same_new hn2)
            have h3 : (upd H2 n2 (.lst [])) D1 = some (.lst (l.map V.int)) := same_new hn2 _ _ h2
            generalize upd H2 n2 (.lst []) = H3 at s3 h3
            have eE : (if false = true then !(l.map V.int).isEmpty else (l.map V.int).isEmpty) = l.isEmpty := by
              rw [if_neg Bool.false_ne_true, List.isEmpty_map]
            show tSeq _ _ _ _ H3
            rw [eE]
            refine ⟨_, rfl, D1, _, rfl, .inl (SqL.of h3), _, _, rfl, rfl, _, rfl, ?_⟩
            rw [List.length_map]
            by_cases big : 1 < l.length
            · rw [decide_eq_true (show (1 : Int) < (l.length : Int) by omega)]
              refine iteT (iteT (no H3 (sm.trans s3) ?_))
              rw [ew2, es, if_pos (.inl big)]
            rw [decide_eq_false (show ¬ (1 : Int) < (l.length : Int) by omega)]
            refine iteF ⟨_, rfl, D1, rfl, ⟨_, SqL.of h3⟩, fun D2 hD2 => lc_sel_list (fun x => match x with | .int m => decide (m ∈ o) | _ => false) (fun x => x) (SqL.of h3) hD2 (by rw [List.length_map]; omega) (fun x hm => ?_) fun H4 s4 h4 => ?_⟩
            · obtain ⟨n, _, rfl⟩ := List.mem_map.mp hm
              refine ⟨rfl, fun Ha sa R g => ⟨_, rfl, _, rfl, d, _, rfl, DGet.k (k := Sum.inl n) (sa _ _ (s3 _ _ ho)), _, rfl, ?_⟩, fun _ Ha sa R g => ⟨_, rfl, g Ha (Same.refl _)⟩⟩
              rw [tru_some]
              exact g Ha (Same.refl _)
            have e4 : (((l.map V.int).filter (fun x => match x with | .int m => decide (m ∈ o) | _ => false)).map fun x => x) = (l.filter fun m => decide (m ∈ o)).map V.int := by
              rw [List.map_id', List.filter_map]
              rfl
            rw [e4] at h4
            refine ⟨by show 0 ≤ sizeLine; decide, fun n3 hn3 => ⟨D2, n3, _, rfl, rfl, SqL.of (same_new hn3 _ _ h4), SqL.of upd_same, _, rfl, ?_⟩⟩
            have s5 : Same H3 (upd H4 n3 (.lst [])) := s4.trans (same_new hn3)
            generalize upd H4 n3 (.lst []) = H5 at s5
            have eN : (if true = true then !((l.filter fun m => decide (m ∈ o)).map V.int).isEmpty else ((l.filter fun m => decide (m ∈ o)).map V.int).isEmpty) = !(l.filter fun m => decide (m ∈ o)).isEmpty := by
              rw [if_pos rfl, List.isEmpty_map]
            rw [eN]
            by_cases nn : (l.filter fun m => decide (m ∈ o)) = []
            · rw [nn]
              have h5 := s5 _ _ h3
              have ho5 := s5 _ _ (s3 _ _ ho)
              refine iteF ⟨_, rfl, .inr (.inr (.inl ⟨rfl, .inl ⟨_, ho5⟩⟩)), ?_⟩
              refine ⟨_, rfl, D1, rfl, ⟨_, SqL.of h5⟩, fun D3 hD3 => lc_pairs (SqL.of h5) hD3 (by omega) (fun n => rfl) (fun n Ha R g => ⟨_, rfl, by show 2 ≤ sizeLine; decide, g⟩) fun H6 pr6 s6 h6 p6 => ?_⟩
              refine ⟨D3, pr6, tru l, rfl, SqL.of h6, p6.paired, fun d3 hd3 => ?_⟩
              rw [tru_fold]
              have ho6 := s6 _ _ ho5
              have n3d : d ≠ d3 := ne_of_none ho6 hd3
              have lo3 := fold_len l []
              simp only [List.length_nil, Nat.zero_add] at lo3
              refine ⟨d, d3, tru o, tru (l.foldl ins []), rfl, rfl, by rw [upd_ne n3d]; exact ho6, upd_same, n3d, by unfold tru; rw [List.length_map, List.length_map]; omega, ?_⟩
              rw [tru_merge, fold_small l o (by omega)]
              have lf := fold_len l o
              refine ⟨_, _, _, l.foldl ins o, l.isEmpty, rfl, fun b2 ob eb => ?_, upd_same, ?_, by omega⟩
              · rw [upd_ne (ne_of_none eb nd0)]
                exact same_new hd3 _ _ (s6 _ _ (s5 _ _ (s3 _ _ (sm _ _ eb))))
              · rw [ew2, es, if_neg]
                rintro (z | z)
                · exact big z
                · exact z nn
            · have ne : (l.filter fun m => decide (m ∈ o)).isEmpty = false := by
                cases hh : (l.filter fun m => decide (m ∈ o)) with
                | nil => exact absurd hh nn
                | cons y ys => rfl
              rw [ne]
              refine iteT (no H5 (sm.trans (s3.trans s5)) ?_)
              rw [ew2, es, if_pos (.inr nn)]
          · rw [decide_eq_false h1]
            refine iteT (no H' sm (out ?_))
            unfold clAt
            rw [if_neg fun z => h1 z.2]
        · refine ⟨_, rfl, iteT (no H' sm (out ?_))⟩
          unfold clAt
          rw [if_neg fun z => h0 (decide_eq_true z.1)]
    · rintro σ H' ⟨v6, v7, v8, o, en, rfl, sm, ho, ew, lo⟩
      rw [List.length_map, List.drop_length] at ew
      have ek := shownL_of (m := m) ew
      have z := k H' sm
      rw [ek] at z
      cases m with
      | none => exact ⟨_, rfl, rfl, _, rfl, iteT ⟨_, rfl, z⟩⟩
      | some n =>
        refine ⟨_, rfl, rfl, _, rfl, iteF ⟨_, rfl, en, rfl, _, rfl, ?_⟩⟩
        cases en with
        | true => exact iteF z
        | false =>
          refine iteT ⟨_, rfl, _, rfl, d, _, rfl, DGet.k (k := Sum.inl n) ho, ?_⟩
          rw [tru_some]
          exact z
end

/-! ### drawn marks, drawn clauses -/
theorem pick_int {zs : List Int} {i : Nat} {v : V} (h : (zs.map V.int)[i]? = some v) : ∃ z, v = .int z ∧ z ∈ zs := by
  obtain ⟨r, e, hr⟩ := int_at h
  exact ⟨r, e, List.mem_of_getElem? hr⟩
theorem seq_in {n : Nat} {i : Int} (h0 : 0 ≤ i) (h1 : i < n) : seqIndex? i n = some i.toNat := by
  have e : ixN n i = some i.toNat := by
    unfold ixN
    rw [if_pos h0, if_pos h1]
  exact (ixN_seq e).1
theorem pow8000 {x : Int} (h : x ≤ 1000000) : x < 2 ^ 8000 := Int.lt_of_le_of_lt h (by decide +kernel)
theorem Tape.sq {H : Hp} {t c p : Addr} {n : Nat} {xs : List V} (h : Tape H t c n) (e : H p = some (.lst xs)) {H' : Hp} (k : Kp t H H') : H' p = some (.lst xs) := k p _ e (by
  obtain ⟨ns, spot, left, tc, _⟩ := h
  exact ne_of e tc.d (by intro z; cases z))
theorem Tape.ne_lst' {H : Hp} {t c p : Addr} {n : Nat} {xs : List V} (h : Tape H t c n) (e : H p = some (.lst xs)) : p ≠ t := by
  obtain ⟨ns, spot, left, tc, _⟩ := h
  exact ne_of e tc.d (by intro z; cases z)
theorem Tape.cs {H H' : Hp} {t c a : Addr} {n : Nat} {qs : List Addr} {cs : List (List Int)} (h : Tape H t c n) (e : Cs H a qs cs) (k : Kp t H H') : Cs H' a qs cs := by
  obtain ⟨ns, spot, left, tc, _⟩ := h
  exact e.kp tc.d k
theorem getElem_snoc {α : Type} {xs : List α} {x y : α} {i : Nat} (h : (xs ++ [x])[i]? = some y) : (i < xs.length ∧ xs[i]? = some y) ∨ (i = xs.length ∧ x = y) := by
  by_cases c : i < xs.length
  · rw [List.getElem?_append_left c] at h
    exact .inl ⟨c, h⟩
  · rw [List.getElem?_append_right (by omega)] at h
    have l := (List.getElem?_eq_some_iff.mp h).1
    simp only [List.length_cons, List.length_nil] at l
    have e : i - xs.length = 0 := by omega
    rw [e] at h
    exact .inr ⟨by omega, Option.some.inj h⟩
theorem Cs.snoc {H : Hp} {a q : Addr} {qs : List Addr} {cs : List (List Int)} {c : List Int} (h : Cs H a qs cs) (hq : H q = some (.tup (c.map V.int))) : Cs (upd H a (.lst (qs.map V.ref ++ [.ref q]))) a (qs ++ [q]) (cs ++ [c]) := by
  have hn := h.n
  refine ⟨by rw [upd_same, List.map_append]; rfl, by rw [List.length_append, List.length_append, hn]; rfl, fun i p d hp hd => ?_⟩
  have g : H p = some (.tup (d.map V.int)) := by
    rcases getElem_snoc hp with ⟨_, e⟩ | ⟨e1, rfl⟩
    · rcases getElem_snoc hd with ⟨_, e2⟩ | ⟨e2, _⟩
      · exact h.t i p d e e2
      · omega
    · rcases getElem_snoc hd with ⟨e2, _⟩ | ⟨_, rfl⟩
      · omega
      · exact hq
  rw [upd_ne (ne_of g h.l (by intro z; cases z))]
  exact g
theorem ins_at {α : Type} {xs : List α} {x y : α} {j i : Nat} (hj : j ≤ xs.length) (h : (xs.take j ++ [x] ++ xs.drop j)[i]? = some y) : (i < j ∧ xs[i]? = some y) ∨ (i = j ∧ x = y) ∨ (j < i ∧ xs[i - 1]? = some y) := by
  have lt : (xs.take j).length = j := by
    rw [List.length_take]
    omega
  rcases Nat.lt_trichotomy i j with c | c | c
  · rw [List.append_assoc, List.getElem?_append_left (by omega), List.getElem?_take, if_pos c] at h
    exact .inl ⟨c, h⟩
  · subst c
    rw [List.append_assoc, List.getElem?_append_right (by omega), lt, Nat.sub_self] at h
    exact .inr (.inl ⟨rfl, Option.some.inj h⟩)
  · rw [List.getElem?_append_right (by rw [List.length_append, lt]; exact c), List.length_append, lt, List.getElem?_drop] at h
    refine .inr (.inr ⟨c, ?_⟩)
    rw [← h]
    congr 1
    show i - 1 = j + (i - (j + 1))
    omega
theorem Cs.insert {H : Hp} {a q : Addr} {qs : List Addr} {cs : List (List Int)} {c : List Int} {j : Nat} (h : Cs H a qs cs) (hj : j ≤ cs.length) (hq : H q = some (.tup (c.map V.int))) :
    Cs (upd H a (.lst ((qs.map V.ref).take j ++ [.ref q] ++ (qs.map V.ref).drop j))) a (qs.take j ++ [q] ++ qs.drop j) (cs.take j ++ [c] ++ cs.drop j) := by
  have hn := h.n
  refine ⟨by rw [upd_same, List.map_append, List.map_append, List.map_take, List.map_drop]; rfl, by simp only [List.length_append, List.length_take, List.length_drop, hn]; rfl, fun i p d hp hd => ?_⟩
  have g : H p = some (.tup (d.map V.int)) := by
    rcases ins_at (by omega) hp with ⟨c1, e⟩ | ⟨c1, rfl⟩ | ⟨c1, e⟩
    · rcases ins_at hj hd with ⟨_, e2⟩ | ⟨e2, _⟩ | ⟨e2, _⟩
      · exact h.t i p d e e2
      · omega
      · omega
    · rcases ins_at hj hd with ⟨e2, _⟩ | ⟨_, rfl⟩ | ⟨e2, _⟩
      · omega
      · exact hq
      · omega
    · rcases ins_at hj hd with ⟨e2, _⟩ | ⟨e2, _⟩ | ⟨_, e2⟩
      · omega
      · omega
      · exact h.t (i - 1) p d e e2
  rw [upd_ne (ne_of g h.l (by intro z; cases z))]
  exact g
def spFar : Sp := fun vs H Q _ => ∃ (t c : Addr) (m : Int) (n : Nat), vs = [.ref t, .int m] ∧ Tape H t c n ∧ n < 1000000 ∧ 0 ≤ m ∧ m ≤ 100 ∧
  ∀ (H' : Hp) (p : Addr) (ms : List Int), H p = none → H' p = some (.lst (ms.map V.int)) → ms.length = m.toNat → Tape H' t c (n + 110) → Kp t H H' → Q (.ref p) H'
section
variable {P : Program} {w : World} {K : PySem.W.Frag} {mg : Str → Option Value} {base : Heap}
theorem has_far (T : Top K mg) (h__law_draw : Has P w K mg base 1 "_law_draw" ["_law_tape", "_law_many"] spDraw) (h__law_pick : Has P w K mg base 2 "_law_pick" ["_law_tape", "_law_some"] (spPick K)) :
    Has P w K mg base 3 "_law_far_marks" ["_law_tape", "_law_many"] spFar := by
  refine has_of T.d__law_far_marks sc__law_far_marks bd__law_far_marks (fun vs H Q E h => ?_) (fun f cdv A outer s H vs Q E hr h => ?_)
  · obtain ⟨t, c, m, n, rfl, _⟩ := h
    rfl
  · have hu := hu_of hr
    have nd := sc__law_far_marks.nd
    obtain ⟨t, c, m, n, rfl, tp, hn, hm0, hm1, k⟩ := h
    refine ⟨_, (pss_cons (ps_asg (pe_tup (pa_cons (pe_op op_add pe_int (pe_has h__law_draw (hr.mono (by omega)) (by rfl) (pa_cons (pv 0) (pa_cons pe_int pa_nil)))) (pa_cons (pe_has h__law_pick (hr.mono (by omega)) (by rfl) (pa_cons (pv 0) (pa_cons (pe_lst (pa_cons pe_int (pa_cons pe_int (pa_cons pe_int (pa_cons pe_int pa_nil))))) pa_nil))) pa_nil))) (pg_tup (by rfl) (pgs_cons (pg_name (i := 2) nd rfl (.inr rfl)) (pgs_cons (pg_name (i := 3) nd rfl (.inr rfl)) pgs_nil))))
    (pss_cons (ps_set (i := 4) nd rfl (.inr rfl) (pe_has h__law_pick (hr.mono (by omega)) (by rfl) (pa_cons (pv 0) (pa_cons (pe_lst (pa_cons pe_int (pa_cons pe_int (pa_cons pe_int (pa_cons (pe_op op_add pe_int (pe_has h__law_draw (hr.mono (by omega)) (by rfl) (pa_cons (pv 0) (pa_cons pe_int pa_nil)))) (pa_cons (pe_op op_sub (pe_op op_pow pe_int pe_int) (pe_op op_mul pe_int (pv 3))) pa_nil)))))) pa_nil))))
    (pss_cons (ps_asg (pe_tup (pa_cons (pe_lc (own := [("_law_k", 8)]) (by rfl) nd (pi_range1 (by rfl) T.b_range (pa_cons (pv 1) pa_nil)) (blkOk_by (own := [("_law_k", 8)]) (N := nm__law_far_marks) (sc := defScope s__law_far_marks) (by decide +kernel)) (fun _ _ _ _ _ => pg_name (i := 8) nd rfl (.inl rfl)) (fun _ _ _ _ _ => pts_nil) (fun _ _ _ _ _ => (pe_op op_add (pv 4) (pe_op op_mul (pv 3) (pe_op op_mod (pe_op op_mul (pv 2) (pv 8)) pe_int))))) (pa_cons (pe_has h__law_pick (hr.mono (by omega)) (by rfl) (pa_cons (pv 0) (pa_cons (pe_lst (pa_cons pe_int (pa_cons pe_int (pa_cons pe_int (pa_cons pe_int pa_nil))))) pa_nil))) pa_nil))) (pg_tup (by rfl) (pgs_cons (pg_name (i := 5) nd rfl (.inl rfl)) (pgs_cons (pg_name (i := 6) nd rfl (.inr rfl)) pgs_nil))))
    (pss_one (ps_ret (pe_lc (own := [("_law_name", 7)]) (by rfl) nd (pi_list (pv 5)) (blkOk_by (own := [("_law_name", 7)]) (N := nm__law_far_marks) (sc := defScope s__law_far_marks) (by decide +kernel)) (fun _ _ _ _ _ => pg_name (i := 7) nd rfl (.inl rfl)) (fun _ _ _ _ _ => pts_nil) (fun _ _ _ _ _ => (pe_ifExp (pt_cmpR op_lt (pe_has h__law_draw (hr.mono (by omega)) (by rfl) (pa_cons (pv 0) (pa_cons (pv 6) pa_nil))) (pe_op op_sub pe_int (pe_op op_fdivW (pv 6) pe_int)) (nomark _)) (pv 7) (pe_op op_sub pe_int (pv 7)))))))))), ?_⟩
    have cp : ∀ z : Int, 0 ≤ z → z ≤ 1000000 → CPow 10 z := fun z h0 h1 => ⟨h0, h1, by decide⟩
    refine ⟨_, rfl, t, c, _, n, rfl, tp, by omega, by decide, by decide +kernel, fun H1 r1 a1 b1 tp1 kp1 => ⟨_, _, rfl, rfl, _, rfl, by show 4 ≤ sizeLine; decide, fun d1 h1 => ?_⟩⟩
    refine ⟨t, c, d1, _, n + 1, rfl, tp1.new h1, by omega, fun H' kp => .inl (SqL.of (kp d1 _ upd_same (tp1.fresh h1))), by show 0 < 4; decide, by show 4 ≤ 1000000; decide, fun H2 i2 v2 g2 tp2 kp2 => ?_⟩
    obtain ⟨z2, rfl, m2⟩ := pick_int (zs := [1, 1, 7, 16000000]) g2
    have z2b : 1 ≤ z2 ∧ z2 ≤ 16000000 := by
      simp only [List.mem_cons, List.not_mem_nil, or_false] at m2
      omega
    refine ⟨by show 2 ≤ sizeLine; decide, fun q2 hq2 => ⟨q2, _, rfl, SqT.of upd_same, rfl, _, _, rfl, _, _, rfl, rfl, ?_⟩⟩
    have t2 := tp2.new (o := .tup [V.int (1 + r1), V.int z2]) hq2
    -- first
    refine ⟨_, rfl, _, rfl, t, c, _, n + 2, rfl, t2, by omega, by decide, by decide +kernel, fun H3 r3 a3 b3 tp3 kp3 => ⟨_, _, rfl, rfl, _, _, rfl, rfl, cp _ (by decide) (by decide), _, rfl, _, _, rfl, rfl, .inl ⟨by decide, by decide⟩, _, _, rfl, rfl, by show 5 ≤ sizeLine; decide, fun d3 h3 => ?_⟩⟩
    refine ⟨t, c, d3, _, n + 3, rfl, tp3.new h3, by omega, fun H' kp => .inl (SqL.of (kp d3 _ upd_same (tp3.fresh h3))), by show 0 < 5; decide, by show 5 ≤ 1000000; decide, fun H4 i4 v4 g4 tp4 kp4 => ?_⟩
    obtain ⟨z4, rfl, m4⟩ := pick_int (zs := [1, 5, 95, 1 + r3, 10 ^ (12 : Int).toNat - 60 * z2]) g4
    -- names
    refine ⟨_, rfl, m, rfl, by omega, by omega, fun D hD => lc_sel_range (lo := 0) (fun _ => true) (fun i => .int (z4 + z2 * ((1 + r1) * (0 + (i : Int)) % 61))) hD (by omega) (fun i hi => ?_) fun H5 s5 h5 => ?_⟩
    · exact ⟨rfl, fun H' s' R g => g H' (Same.refl _), fun _ H' s' R g => ⟨_, rfl, _, rfl, _, rfl, _, rfl, _, _, rfl, rfl, .inl ⟨by omega, by omega⟩, _, _, rfl, rfl, by show (0 : Int) < 61; decide, _, _, rfl, rfl, .inl ⟨by omega, by omega⟩, _, _, rfl, rfl, g H' (Same.refl _)⟩⟩
    rw [filter_all] at h5
    have h5 : H5 D = some (.lst (((List.range m.toNat).map fun (i : Nat) => z4 + z2 * ((1 + r1) * (0 + (i : Int)) % 61)).map V.int)) := by
      rw [h5, List.map_map]
      rfl
    have l5 : ((List.range m.toNat).map fun (i : Nat) => z4 + z2 * ((1 + r1) * (0 + (i : Int)) % 61)).length = m.toNat := by rw [List.length_map, List.length_range]
    generalize ((List.range m.toNat).map fun (i : Nat) => z4 + z2 * ((1 + r1) * (0 + (i : Int)) % 61)) = nm at h5 l5
    have t5 := tp4.same s5
    refine ⟨_, rfl, by show 4 ≤ sizeLine; decide, fun d6 h6 => ?_⟩
    refine ⟨t, c, d6, _, n + 4, rfl, t5.new h6, by omega, fun H' kp => .inl (SqL.of (kp d6 _ upd_same (t5.fresh h6))), by show 0 < 4; decide, by show 4 ≤ 1000000; decide, fun H6 i6 v6 g6 tp6 kp6 => ?_⟩
    obtain ⟨z6, rfl, m6⟩ := pick_int (zs := [1, 2, 2, 3]) g6
    have z6b : 1 ≤ z6 ∧ z6 ≤ 3 := by
      simp only [List.mem_cons, List.not_mem_nil, or_false] at m6
      omega
    have k56 : Kp t H5 H6 := (Kp.new h6).trans kp6
    refine ⟨by show 2 ≤ sizeLine; decide, fun q7 hq7 => ⟨q7, _, rfl, SqT.of upd_same, rfl, _, _, rfl, _, _, rfl, rfl, ?_⟩⟩
    have t7 := tp6.new (o := .tup [V.ref D, V.int z6]) hq7
    have h7 := same_new (o := .tup [V.ref D, V.int z6]) hq7 _ _ (t5.sq h5 k56)
    have k07 : Kp t H (upd H6 q7 (.tup [V.ref D, V.int z6])) := kp1.trans ((Kp.new h1).trans (kp2.trans ((Kp.new hq2).trans (kp3.trans ((Kp.new h3).trans (kp4.trans ((Kp.same s5).trans (k56.trans (Kp.new hq7)))))))))
    generalize upd H6 q7 (.tup [V.ref D, V.int z6]) = H7 at t7 h7 k07
    -- signs
    refine ⟨_, rfl, D, rfl, ⟨_, SqL.of h7⟩, fun Z hZ => lc_list (xs := nm.map V.int) (fun i H' => Kp t H7 H' ∧ Tape H' t c (n + 5 + i) ∧ ∃ is : List Int, is.length = i ∧ H' Z = some (.lst (is.map V.int))) ⟨Kp.new hZ, t7.new hZ, [], rfl, upd_same⟩ ?_ ?_ ?_⟩
    · rintro i H' _ ⟨kp, _, _⟩
      exact SqL.of (t7.sq h7 kp)
    · rintro i x H8 hi ⟨k8, t8, is, el, h8⟩
      obtain ⟨y, rfl, hy⟩ := int_at hi
      have li : i < nm.length := (List.getElem?_eq_some_iff.mp hy).1
      have nZt : Z ≠ t := t7.fresh hZ
      have nZc : Z ≠ c := t7.fresh_c hZ
      refine ⟨rfl, yes_go ⟨_, rfl, _, rfl, t, c, z6, n + 5 + i, rfl, t8, by omega, by omega, pow8000 (by omega), fun H9 r9 a9 b9 tp9 kp9 => ⟨_, rfl, _, _, rfl, rfl, ⟨by decide, by decide⟩, _, _, rfl, rfl, _, _, rfl, rfl, _, rfl, ?_⟩⟩⟩
      have h9 := kp9 Z _ h8 nZt
      have fin : ∀ y : Int, ∃ acc, H9 Z = some (.lst acc) ∧ acc.length < sizeLine ∧ Kp t H7 (upd H9 Z (.lst (acc ++ [V.int y]))) ∧ Tape (upd H9 Z (.lst (acc ++ [V.int y]))) t c (n + 5 + (i + 1)) ∧ ∃ is : List Int, is.length = i + 1 ∧ (upd H9 Z (.lst (acc ++ [V.int y]))) Z = some (.lst (is.map V.int)) := fun y => by
        refine ⟨is.map V.int, h9, ?_, (k8.trans kp9).mut hZ, tp9.mut nZt nZc, is ++ [y], by rw [List.length_append, el]; rfl, ?_⟩
        · have line : 1000000 < sizeLine := by decide
          rw [List.length_map, el]
          omega
        · rw [upd_same, List.map_append]
          rfl
      refine ite2 (fun _ => ?_) (fun _ => ?_)
      · exact ⟨_, rfl, fin y⟩
      · exact ⟨_, rfl, _, _, rfl, rfl, fin (0 - y)⟩
    · rintro H8 ⟨k8, t8, is, el, h8⟩
      rw [List.length_map] at el t8
      exact k H8 Z is (k07.free hZ (t7.fresh hZ)) h8 (by omega) (t8.le (by omega)) (k07.trans k8)
end
/-! ### drawn clauses -/
theorem erase_map : ∀ (l : List Int) (k : Nat), (l.map V.int).eraseIdx k = (l.eraseIdx k).map V.int
  | [], k => by simp
  | x :: r, 0 => rfl
  | x :: r, k + 1 => by
    show V.int x :: (r.map V.int).eraseIdx k = V.int x :: (r.eraseIdx k).map V.int
    rw [erase_map r k]
theorem flat_ints (l : List Int) : (l.map V.int).all flatV = true := by
  rw [List.all_map]
  exact List.all_eq_true.mpr fun _ _ => rfl
theorem wide_of {i : Nat} {v : V} (h : ((List.replicate (7 : Int).toNat [V.int 2]).flatten ++ (List.replicate (5 : Int).toNat [V.int 3]).flatten ++ [V.int 4, V.int 5, V.int 1])[i]? = some v) : ∃ z : Int, v = .int z ∧ 1 ≤ z ∧ z ≤ 5 := by
  have e : (List.replicate (7 : Int).toNat [V.int 2]).flatten ++ (List.replicate (5 : Int).toNat [V.int 3]).flatten ++ [V.int 4, V.int 5, V.int 1] = ([2, 2, 2, 2, 2, 2, 2, 3, 3, 3, 3, 3, 4, 5, 1] : List Int).map V.int := rfl
  rw [e] at h
  obtain ⟨z, ez, m⟩ := pick_int h
  refine ⟨z, ez, ?_⟩
  simp only [List.mem_cons, List.not_mem_nil, or_false] at m
  omega
def spSys : Sp := fun vs H Q _ => ∃ (t c p : Addr) (ms : List Int) (m : Int) (n : Nat), vs = [.ref t, .ref p, .int m] ∧ Tape H t c n ∧ n < 1000000 ∧ 0 ≤ m ∧ m ≤ 100 ∧ H p = some (.lst (ms.map V.int)) ∧ 1 ≤ ms.length ∧ ms.length ≤ 100 ∧
  ∀ (H' : Hp) (q : Addr) (qs : List Addr) (cs : List (List Int)), H q = none → Cs H' q qs cs → (∀ c ∈ cs, c.length ≤ 5) → cs.length ≤ m.toNat + 1 → Tape H' t c (n + 1200) → Kp t H H' → Q (.ref q) H'
section
variable {P : Program} {w : World} {K : PySem.W.Frag} {mg : Str → Option Value} {base : Heap}
theorem has_sys (T : Top K mg) (h__law_draw : Has P w K mg base 1 "_law_draw" ["_law_tape", "_law_many"] spDraw) (h__law_pick : Has P w K mg base 2 "_law_pick" ["_law_tape", "_law_some"] (spPick K)) :
    Has P w K mg base 3 "_law_system" ["_law_tape", "_law_marks", "_law_many"] spSys := by
  refine has_of T.d__law_system sc__law_system bd__law_system (fun vs H Q E h => ?_) (fun f cdv A outer s H vs Q E hr h => ?_)
  · obtain ⟨t, c, p, ms, m, n, rfl, _⟩ := h
    rfl
  · have hu := hu_of hr
    have nd := sc__law_system.nd
    obtain ⟨t, c, p, ms, m, n, rfl, tp, hn, hm0, hm1, hp, hl0, hl1, k⟩ := h
    refine ⟨_, (pss_cons (ps_par (i := 3) (j := 4) (by rfl) nd rfl rfl (by decide) rfl rfl (pa_cons (pe_cmpR op_eq (pe_has h__law_draw (hr.mono (by omega)) (by rfl) (pa_cons (pv 0) (pa_cons pe_int pa_nil))) pe_int (nomark _)) (pa_cons (pe_lst pa_nil) pa_nil)) (by rfl))
    (pss_cons (ps_for PassesOwn.never rfl (pi_range1 (by rfl) T.b_range (pa_cons (pv 2) pa_nil)) (pg_name (i := 5) nd rfl (.inl rfl))
      (pss_cons (ps_par (i := 6) (j := 7) (by rfl) nd rfl rfl (by decide) rfl rfl (pa_cons (pe_callTy call_list_of (by rfl) T.b_list (by decide +kernel) (pa_cons (pv 1) pa_nil)) (pa_cons (pe_lst pa_nil) pa_nil)) (by rfl))
    (pss_cons (ps_for PassesOwn.never rfl (pi_range1 (by rfl) T.b_range (pa_cons (pe_callB (call_min2 rfl) (by rfl) T.b_min (by decide +kernel) (pa_cons (pe_callB call_len_seq (by rfl) T.b_len (by decide +kernel) (pa_cons (pv 1) pa_nil)) (pa_cons (pe_has h__law_pick (hr.mono (by omega)) (by rfl) (pa_cons (pv 0) (pa_cons (pe_op op_cat (pe_op op_cat (pe_op op_rep (pe_lst (pa_cons pe_int pa_nil)) pe_int) (pe_op op_rep (pe_lst (pa_cons pe_int pa_nil)) pe_int)) (pe_lst (pa_cons pe_int (pa_cons pe_int (pa_cons pe_int pa_nil))))) pa_nil))) pa_nil))) pa_nil)) (pg_name (i := 8) nd rfl (.inl rfl))
      (pss_cons (ps_set (i := 9) nd rfl (.inl rfl) (pe_bm PySem.F.plainAttrs_list PySem.F.slot_list_pop PySem.F.type_list_pop mt_popAt (pv 6) (pa_cons (pe_has h__law_draw (hr.mono (by omega)) (by rfl) (pa_cons (pv 0) (pa_cons (pe_callB call_len_seq (by rfl) T.b_len (by decide +kernel) (pa_cons (pv 6) pa_nil)) pa_nil))) pa_nil)))
    (pss_one (ps_expr (pe_bm PySem.F.plainAttrs_list PySem.F.slot_list_append PySem.F.type_list_append mt_append (pv 7) (pa_cons (pe_has h__law_pick (hr.mono (by omega)) (by rfl) (pa_cons (pv 0) (pa_cons (pe_lst (pa_cons (pv 9) (pa_cons (pe_op op_sub pe_int (pv 9)) pa_nil))) pa_nil))) pa_nil))))))
    (C8.pss_cut (ps_if (PW.pt (pw_and (pt_val (pv 3)) (pw_and1 (pt_cmpR (op_eqNil hu) (pe_lc (own := [("_law_mark", 9)]) (by rfl) nd (pi_list (pv 7)) (blkOk_by (own := [("_law_mark", 9)]) (N := nm__law_system) (sc := defScope s__law_system) (by decide +kernel)) (fun _ _ _ _ _ => pg_name (i := 9) nd rfl (.inl rfl)) (fun _ _ _ _ _ => pts_one (pt_cmpR (op_inK (K := K) rfl) (pv 9) (pv 1) (by rfl))) (fun _ _ _ _ _ => (pv 9))) (pe_lst pa_nil) (nomark _))))) (pss_one (ps_asg (pe_op op_sub pe_int (pe_ix ix_list (pv 7) pe_int (fun _ _ => rfl))) (pg_sub (pv 7) pe_int set_list))) pss_nil)
    (pss_one (ps_expr (pe_bm PySem.F.plainAttrs_list PySem.F.slot_list_append PySem.F.type_list_append mt_append (pv 4) (pa_cons (pe_callTy call_tuple_of (by rfl) T.b_tuple (by decide +kernel) (pa_cons (pv 7) pa_nil)) pa_nil))))))))
    (C8.pss_cut (ps_if (pt_cmpR op_eq (pe_has h__law_draw (hr.mono (by omega)) (by rfl) (pa_cons (pv 0) (pa_cons pe_int pa_nil))) pe_int (nomark _)) (pss_one (ps_expr (pe_bm PySem.F.plainAttrs_list PySem.F.slot_list_insert PySem.F.type_list_insert mt_insert (pv 4) (pa_cons (pe_has h__law_draw (hr.mono (by omega)) (by rfl) (pa_cons (pv 0) (pa_cons (pe_op op_add (pv 2) pe_int) pa_nil))) (pa_cons (pe_tup pa_nil) pa_nil))))) pss_nil)
    (pss_one (ps_ret (pv 4)))))), ?_⟩
    have line : 1000000 < sizeLine := by decide
    have npt : p ≠ t := tp.ne_lst' hp
    refine ⟨_, rfl, t, c, _, n, rfl, tp, by omega, by decide, by decide +kernel, fun H1 r1 a1 b1 tp1 kp1 => ⟨rfl, by show 0 ≤ sizeLine; decide, fun F hF => ⟨_, _, rfl, ?_⟩⟩⟩
    have nFt : F ≠ t := tp1.fresh hF
    have nFc : F ≠ c := tp1.fresh_c hF
    have hp1 := tp.sq hp kp1
    have nFp : p ≠ F := ne_of_none hp1 hF
    -- the clauses, one by one
    refine ⟨_, rfl, m, rfl, by omega, by omega, for_range (lo := 0) (fun i σ H' => ∃ b v5 v6 v7 v8 v9 qs cs, σ = [some (.ref t), some (.ref p), some (.int m), some (.bl b), some (.ref F), v5, v6, v7, v8, v9] ∧ Kp t H1 H' ∧ Tape H' t c (n + 1 + 11 * i) ∧ Cs H' F qs cs ∧ cs.length = i ∧ ∀ c ∈ cs, c.length ≤ 5)
      ⟨_, none, none, none, none, none, [], [], rfl, Kp.new hF, tp1.new hF, ⟨upd_same, rfl, fun i q c hq => by simp at hq⟩, rfl, fun c hc => by simp at hc⟩ ?_ ?_⟩
    · rintro i σ H2 hi ⟨b, v5, v6, v7, v8, v9, qs, cs, rfl, k2, t2, c2, l2, w2⟩
      have hp2 := tp1.sq hp1 k2
      -- some, clause
      refine ⟨_, rfl, p, _, rfl, .inl (SqL.of hp2), fun S hS => ⟨by show 0 ≤ sizeLine; decide, fun C hC => ⟨_, _, rfl, ?_⟩⟩⟩
      have nSC : S ≠ C := fun e => by
        rw [← e, upd_same] at hC
        cases hC
      have hC2 : H2 C = none := by
        rw [← hC, upd_ne nSC.symm]
      have t3 := (t2.new (o := .lst (ms.map V.int)) hS).new (o := .lst []) hC
      have k3 : Kp t H2 (upd (upd H2 S (.lst (ms.map V.int))) C (.lst [])) := (Kp.new hS).trans (Kp.new hC)
      have nSt : S ≠ t := t2.fresh hS
      have nSc : S ≠ c := t2.fresh_c hS
      have nCt : C ≠ t := t2.fresh hC2
      have nCc : C ≠ c := t2.fresh_c hC2
      have h3S : (upd (upd H2 S (.lst (ms.map V.int))) C (.lst [])) S = some (.lst (ms.map V.int)) := by
        rw [upd_ne nSC, upd_same]
      have h3C : (upd (upd H2 S (.lst (ms.map V.int))) C (.lst [])) C = some (.lst (([] : List Int).map V.int)) := upd_same
      generalize upd (upd H2 S (.lst (ms.map V.int))) C (.lst []) = H3 at t3 k3 h3S h3C
      have hp3 := t2.sq hp2 k3
      -- how many marks it has
      refine ⟨_, rfl, p, _, rfl, .inl (SqL.of hp3), _, rfl, by show 1 ≤ sizeLine; decide, fun e1 g1 => ⟨e1, 7, _, rfl, rfl, upd_same, by decide, by decide, by show 1 * 7 ≤ sizeLine; decide, fun e2 g2 => ⟨by show 1 ≤ sizeLine; decide, fun e3 g3 =>
        ⟨e3, 5, _, rfl, rfl, upd_same, by decide, by decide, by show 1 * 5 ≤ sizeLine; decide, fun e4 g4 => ?_⟩⟩⟩⟩
      have q2 : ∀ o3 o4, (upd (upd (upd (upd H3 e1 (.lst [V.int 2])) e2 (.lst (List.replicate (7 : Int).toNat [V.int 2]).flatten)) e3 o3) e4 o4) e2 = some (.lst (List.replicate (7 : Int).toNat [V.int 2]).flatten) → True := fun _ _ _ => trivial
      have u1 := t3.new (o := .lst [V.int 2]) g1
      have u2 := u1.new (o := .lst (List.replicate (7 : Int).toNat [V.int 2]).flatten) g2
      have u3 := u2.new (o := .lst [V.int 3]) g3
      have u4 := u3.new (o := .lst (List.replicate (5 : Int).toNat [V.int 3]).flatten) g4
      have f2 := same_new (o := .lst (List.replicate (5 : Int).toNat [V.int 3]).flatten) g4 _ _ (same_new (o := .lst [V.int 3]) g3 e2 _ upd_same)
      refine ⟨e2, e4, _, _, rfl, rfl, f2, upd_same, by show 7 + 5 ≤ sizeLine; decide, fun e5 g5 => ⟨by show 3 ≤ sizeLine; decide, fun e6 g6 => ?_⟩⟩
      have u5 := u4.new (o := .lst ((List.replicate (7 : Int).toNat [V.int 2]).flatten ++ (List.replicate (5 : Int).toNat [V.int 3]).flatten)) g5
      have u6 := u5.new (o := .lst [V.int 4, V.int 5, V.int 1]) g6
      have f5 := same_new (o := .lst [V.int 4, V.int 5, V.int 1]) g6 e5 _ upd_same
      refine ⟨e5, e6, _, _, rfl, rfl, f5, upd_same, by show 12 + 3 ≤ sizeLine; decide, fun e7 g7 => ?_⟩
      have u7 := u6.new (o := .lst ((List.replicate (7 : Int).toNat [V.int 2]).flatten ++ (List.replicate (5 : Int).toNat [V.int 3]).flatten ++ [V.int 4, V.int 5, V.int 1])) g7
      refine ⟨t, c, e7, _, n + 1 + 11 * i, rfl, u7, by omega, fun H' kp => .inl (SqL.of (kp e7 _ upd_same (u6.fresh g7))), by show 0 < 15; decide, by show 15 ≤ 1000000; decide, fun H4 i4 v4 g4' tp4 kp4 => ?_⟩
      obtain ⟨z, rfl, za, zb⟩ := wide_of g4'
      have k34 : Kp t H3 H4 := (Kp.new g1).trans ((Kp.new g2).trans ((Kp.new g3).trans ((Kp.new g4).trans ((Kp.new g5).trans ((Kp.new g6).trans ((Kp.new g7).trans kp4))))))
      have k24 := k3.trans k34
      rw [List.length_map]
      refine ⟨_, _, rfl, _, rfl, by split <;> omega, by split <;> omega, for_range (lo := 0) (fun j σ H' => ∃ v8 v9 ss ys, σ = [some (.ref t), some (.ref p), some (.int m), some (.bl b), some (.ref F), some (.int (0 + i)), some (.ref S), some (.ref C), v8, v9] ∧ Kp t H2 H' ∧ Tape H' t c (n + 2 + 11 * i + 2 * j) ∧
        H' S = some (.lst ((ss : List Int).map V.int)) ∧ ss.length + j = ms.length ∧ H' C = some (.lst ((ys : List Int).map V.int)) ∧ ys.length = j) ⟨v8, v9, ms, [], rfl, k24, tp4.le (by omega), t3.sq h3S k34, by omega, t3.sq h3C k34, rfl⟩ ?_ ?_⟩
      · rintro j σ H5 hj ⟨w8, w9, ss, ys, rfl, k5, t5, h5S, l5, h5C, m5⟩
        have hj2 : j < ms.length ∧ j < 5 := by
          split at hj <;> omega
        have ps : 0 < ss.length := by omega
        refine ⟨_, rfl, .inl ⟨rfl, _, SqL.of h5S⟩, _, rfl, _, rfl, S, _, rfl, .inl (SqL.of h5S), t, c, _, _, rfl, t5, by omega, by rw [List.length_map]; omega, pow8000 (by rw [List.length_map]; omega), fun H6 r6 a6 b6 tp6 kp6 => ?_⟩
        rw [List.length_map] at b6
        have l6 : r6.toNat < ss.length := by omega
        refine ⟨S, _, r6, r6.toNat, .int ss[r6.toNat], rfl, rfl, t5.sq h5S kp6, by omega, by omega, seq_in a6 (by rw [List.length_map]; exact b6), by rw [List.getElem?_map, List.getElem?_eq_getElem l6]; rfl, ?_⟩
        rw [erase_map]
        generalize ss[r6.toNat] = mk
        have h6C := t5.sq h5C kp6
        have k6 := (k5.trans kp6).mut (o := .lst ((ss.eraseIdx r6.toNat).map V.int)) hS
        have t6 := tp6.mut (o := .lst ((ss.eraseIdx r6.toNat).map V.int)) nSt nSc
        have h6S : (upd H6 S (.lst ((ss.eraseIdx r6.toNat).map V.int))) S = some (.lst ((ss.eraseIdx r6.toNat).map V.int)) := upd_same
        have h6C : (upd H6 S (.lst ((ss.eraseIdx r6.toNat).map V.int))) C = some (.lst (ys.map V.int)) := by
          rw [upd_ne nSC.symm]
          exact h6C
        generalize upd H6 S (.lst ((ss.eraseIdx r6.toNat).map V.int)) = H7 at k6 t6 h6S h6C
        refine ⟨_, rfl, .inl ⟨rfl, _, SqL.of h6C⟩, _, rfl, _, rfl, _, rfl, _, _, rfl, rfl, by show 2 ≤ sizeLine; decide, fun e8 g8 => ?_⟩
        refine ⟨t, c, e8, _, _, rfl, t6.new g8, by omega, fun H' kp => .inl (SqL.of (kp e8 _ upd_same (t6.fresh g8))), by show 0 < 2; decide, by show 2 ≤ 1000000; decide, fun H8 i8 v8' g8' tp8 kp8 => ?_⟩
        have k78 : Kp t H7 H8 := (Kp.new g8).trans kp8
        obtain ⟨y8, rfl, _⟩ := pick_int (zs := [mk, 0 - mk]) g8'
        have h8C := t6.sq h6C k78
        refine ⟨C, _, _, rfl, rfl, h8C, by rw [List.length_map]; omega, _, _, ss.eraseIdx r6.toNat, ys ++ [y8], rfl, (k6.trans k78).mut hC2, (tp8.mut nCt nCc).le (by omega), ?_, ?_, ?_, ?_⟩
        · rw [upd_ne nSC]
          exact t6.sq h6S k78
        · rw [List.length_eraseIdx, if_pos l6]
          omega
        · rw [upd_same, List.map_append]
          rfl
        · rw [List.length_append, m5]
          rfl
      · rintro σ H5 ⟨w8, w9, ss, ys, rfl, k5, t5, h5S, l5, h5C, m5⟩
        have m6 : 1 ≤ ys.length ∧ ys.length ≤ 5 := by
          rw [m5]
          split <;> omega
        have t5 : Tape H5 t c (n + 12 + 11 * i) := t5.le (by omega)
        -- the kept ones
        refine ⟨fun σ' H' => ∃ ys : List Int, σ' = [some (.ref t), some (.ref p), some (.int m), some (.bl b), some (.ref F), some (.int (0 + i)), some (.ref S), some (.ref C), w8, w9] ∧ Kp t H2 H' ∧ Tape H' t c (n + 12 + 11 * i) ∧ H' C = some (.lst (ys.map V.int)) ∧ ys.length ≤ 5, ?_, ?_⟩
        · refine ⟨_, rfl, b, rfl, ?_⟩
          cases b with
          | false => exact iteF ⟨ys, rfl, k5, t5, h5C, m6.2⟩
          | true =>
            have hp5 := t2.sq hp2 k5
            refine iteT ⟨_, rfl, C, rfl, ⟨_, SqL.of h5C⟩, fun D hD => lc_sel_list (fun x => inV x (ms.map V.int)) (fun x => x) (SqL.of h5C) hD (by rw [List.length_map]; omega) (fun x hm => ?_) fun H6 s6 h6 => ?_⟩
            · obtain ⟨y, _, rfl⟩ := List.mem_map.mp hm
              exact ⟨rfl, fun H' s' R g => ⟨_, rfl, _, rfl, p, _, rfl, .inl (SqL.of (s' _ _ hp5)), rfl, flat_ints ms, _, rfl, g H' (Same.refl _)⟩, fun _ H' s' R g => ⟨_, rfl, g H' (Same.refl _)⟩⟩
            refine ⟨by show 0 ≤ sizeLine; decide, fun N hN => ⟨D, N, _, rfl, rfl, SqL.of (same_new hN _ _ h6), SqL.of upd_same, _, rfl, ?_⟩⟩
            have s7 : Same H5 (upd H6 N (.lst [])) := s6.trans (same_new hN)
            refine ite2 (fun _ => ?_) (fun _ => ⟨ys, rfl, k5.trans (Kp.same s7), t5.same s7, s7 _ _ h5C, m6.2⟩)
            have h7C := s7 _ _ h5C
            have l7 : 0 < ys.length := m6.1
            have g0 : (ys.map V.int)[0]? = some (.int ys[0]) := by
              rw [List.getElem?_map, List.getElem?_eq_getElem l7]
              rfl
            refine ⟨_, rfl, C, _, _, _, rfl, rfl, SqL.of h7C, atI_nat (j := 0) g0, _, _, rfl, rfl, _, rfl, C, _, 0, 0, rfl, rfl, h7C, ?_, ?_⟩
            · unfold ixN
              rw [if_pos (by decide), if_pos (by rw [List.length_map]; omega)]
              rfl
            · refine ⟨ys.set 0 (0 - ys[0]), rfl, (k5.trans (Kp.same s7)).mut hC2, (t5.same s7).mut nCt nCc, ?_, by rw [List.length_set]; exact m6.2⟩
              rw [upd_same, List.map_set]
              rfl
        · rintro σ' H6 ⟨ys, rfl, k6, t6, h6C, m6⟩
          have c6 := t2.cs c2 k6
          refine ⟨_, rfl, .inl ⟨rfl, _, SqL.of c6.l⟩, _, rfl, C, _, rfl, .inl ⟨SqL.of h6C, fun e9 g9 => ?_⟩⟩
          have c9 := c6.same (same_new (o := .tup (ys.map V.int)) g9)
          have ln := c2.n
          refine ⟨F, _, _, rfl, rfl, c9.l, by rw [List.length_map]; omega, b, _, _, _, _, _, qs ++ [e9], cs ++ [ys], rfl, ?_, ?_, c9.snoc upd_same, by rw [List.length_append, l2]; rfl, fun d hd => ?_⟩
          · exact ((k2.trans k6).trans (Kp.new g9)).mut hF
          · exact ((t6.new g9).mut nFt nFc).le (by omega)
          · rcases List.mem_append.mp hd with z | z
            · exact w2 d z
            · rw [List.mem_singleton.mp z]
              exact m6
    · rintro σ H2 ⟨b, v5, v6, v7, v8, v9, qs, cs, rfl, k2, t2, c2, l2, w2⟩
      have k02 := kp1.trans k2
      have nF : H F = none := kp1.free hF (tp1.fresh hF)
      refine ⟨fun σ' H' => ∃ qs cs, σ' = [some (.ref t), some (.ref p), some (.int m), some (.bl b), some (.ref F), v5, v6, v7, v8, v9] ∧ Kp t H H' ∧ Tape H' t c (n + 1200) ∧ Cs H' F qs cs ∧ cs.length ≤ m.toNat + 1 ∧ ∀ c ∈ cs, c.length ≤ 5, ?_, ?_⟩
      · refine ⟨_, rfl, t, c, _, _, rfl, t2, by omega, by decide, by decide +kernel, fun H3 r3 a3 b3 tp3 kp3 => ⟨rfl, _, rfl, ite2 (fun _ => ?_) (fun _ => ⟨qs, cs, rfl, k02.trans kp3, tp3.le (by omega), t2.cs c2 kp3, by omega, w2⟩)⟩⟩
        have c3 := t2.cs c2 kp3
        refine ⟨_, rfl, .inl ⟨rfl, _, SqL.of c3.l⟩, _, rfl, _, rfl, _, _, rfl, rfl, t, c, _, _, rfl, tp3, by omega, by omega, pow8000 (by omega), fun H4 r4 a4 b4 tp4 kp4 => ⟨by show 0 ≤ sizeLine; decide, fun e g => ?_⟩⟩
        have c4 := (tp3.cs c3 kp4).same (same_new (o := .tup []) g)
        have ln := c2.n
        refine ⟨F, _, r4, _, rfl, rfl, c4.l, by rw [List.length_map]; omega, a4, by omega, qs.take r4.toNat ++ [e] ++ qs.drop r4.toNat, cs.take r4.toNat ++ [[]] ++ cs.drop r4.toNat, rfl, ?_, ?_, c4.insert (by omega) upd_same, ?_, fun d hd => ?_⟩
        · exact (((k02.trans kp3).trans kp4).trans (Kp.new g)).mut nF
        · exact ((tp4.new g).mut nFt nFc).le (by omega)
        · simp only [List.length_append, List.length_take, List.length_drop, List.length_cons, List.length_nil]
          omega
        · rcases List.mem_append.mp hd with z | z
          · rcases List.mem_append.mp z with z | z
            · exact w2 d (List.mem_of_mem_take z)
            · rw [List.mem_singleton.mp z]
              exact Nat.zero_le _
          · exact w2 d (List.mem_of_mem_drop z)
      · rintro σ' H3 ⟨qs, cs, rfl, k3, t3, c3, l3, w3⟩
        exact ⟨_, rfl, k H3 F qs cs nF c3 w3 l3 t3 k3⟩
end

/-! ### drawn puts -/
def spPuts : Sp := fun vs H Q _ => ∃ (t c p : Addr) (ms : List Int) (n : Nat), vs = [.ref t, .ref p] ∧ Tape H t c n ∧ n < 1000000 ∧ H p = some (.lst (ms.map V.int)) ∧ ms.length ≤ 100 ∧
  ∀ (H' : Hp) (q : Addr) (ys : List Int), H q = none → H' q = some (.lst (ys.map V.int)) → ys.length = ms.length → Tape H' t c (n + 200) → Kp t H H' → Q (.ref q) H'
section
variable {P : Program} {w : World} {K : PySem.W.Frag} {mg : Str → Option Value} {base : Heap}
theorem has_puts (T : Top K mg) (h__law_draw : Has P w K mg base 1 "_law_draw" ["_law_tape", "_law_many"] spDraw) (h__law_pick : Has P w K mg base 2 "_law_pick" ["_law_tape", "_law_some"] (spPick K)) :
    Has P w K mg base 3 "_law_puts" ["_law_tape", "_law_marks"] spPuts := by
  refine has_of T.d__law_puts sc__law_puts bd__law_puts (fun vs H Q E h => ?_) (fun f cdv A outer s H vs Q E hr h => ?_)
  · obtain ⟨t, c, p, ms, n, rfl, _⟩ := h
    rfl
  · have hu := hu_of hr
    have nd := sc__law_puts.nd
    obtain ⟨t, c, p, ms, n, rfl, tp, hn, hp, hl, k⟩ := h
    refine ⟨_, (pss_cons (ps_par (i := 2) (j := 3) (by rfl) nd rfl rfl (by decide) rfl rfl (pa_cons (pe_callTy call_list_of (by rfl) T.b_list (by decide +kernel) (pa_cons (pv 1) pa_nil)) (pa_cons (pe_lst pa_nil) pa_nil)) (by rfl))
    (pss_cons (ps_for PassesOwn.never rfl (pi_range1 (by rfl) T.b_range (pa_cons (pe_callB call_len_seq (by rfl) T.b_len (by decide +kernel) (pa_cons (pv 1) pa_nil)) pa_nil)) (pg_name (i := 4) nd rfl (.inl rfl))
      (pss_cons (ps_set (i := 5) nd rfl (.inl rfl) (pe_bm PySem.F.plainAttrs_list PySem.F.slot_list_pop PySem.F.type_list_pop mt_popAt (pv 2) (pa_cons (pe_has h__law_draw (hr.mono (by omega)) (by rfl) (pa_cons (pv 0) (pa_cons (pe_callB call_len_seq (by rfl) T.b_len (by decide +kernel) (pa_cons (pv 2) pa_nil)) pa_nil))) pa_nil)))
    (pss_one (ps_expr (pe_bm PySem.F.plainAttrs_list PySem.F.slot_list_append PySem.F.type_list_append mt_append (pv 3) (pa_cons (pe_has h__law_pick (hr.mono (by omega)) (by rfl) (pa_cons (pv 0) (pa_cons (pe_lst (pa_cons (pv 5) (pa_cons (pv 5) (pa_cons (pv 5) (pa_cons (pe_op op_sub pe_int (pv 5)) pa_nil))))) pa_nil))) pa_nil))))))
    (pss_one (ps_ret (pv 3))))), ?_⟩
    have line : 1000000 < sizeLine := by decide
    refine ⟨_, rfl, p, _, rfl, .inl (SqL.of hp), fun S hS => ⟨by show 0 ≤ sizeLine; decide, fun C hC => ⟨_, _, rfl, ?_⟩⟩⟩
    have nSC : S ≠ C := fun e => by
      rw [← e, upd_same] at hC
      cases hC
    have hC2 : H C = none := by
      rw [← hC, upd_ne nSC.symm]
    have t3 := (tp.new (o := .lst (ms.map V.int)) hS).new (o := .lst []) hC
    have k3 : Kp t H (upd (upd H S (.lst (ms.map V.int))) C (.lst [])) := (Kp.new hS).trans (Kp.new hC)
    have nSt : S ≠ t := tp.fresh hS
    have nSc : S ≠ c := tp.fresh_c hS
    have nCt : C ≠ t := tp.fresh hC2
    have nCc : C ≠ c := tp.fresh_c hC2
    have h3S : (upd (upd H S (.lst (ms.map V.int))) C (.lst [])) S = some (.lst (ms.map V.int)) := by
      rw [upd_ne nSC, upd_same]
    have h3C : (upd (upd H S (.lst (ms.map V.int))) C (.lst [])) C = some (.lst (([] : List Int).map V.int)) := upd_same
    generalize upd (upd H S (.lst (ms.map V.int))) C (.lst []) = H3 at t3 k3 h3S h3C
    have hp3 := tp.sq hp k3
    have lm : (ms.map V.int).length = ms.length := List.length_map _
    refine ⟨_, rfl, p, _, rfl, .inl (SqL.of hp3), _, rfl, by omega, by omega, for_range (lo := 0) (fun j σ H' => ∃ v4 v5 ss ys, σ = [some (.ref t), some (.ref p), some (.ref S), some (.ref C), v4, v5] ∧ Kp t H H' ∧ Tape H' t c (n + 2 * j) ∧
        H' S = some (.lst ((ss : List Int).map V.int)) ∧ ss.length + j = ms.length ∧ H' C = some (.lst ((ys : List Int).map V.int)) ∧ ys.length = j) ⟨none, none, ms, [], rfl, k3, t3, h3S, by omega, h3C, rfl⟩ ?_ ?_⟩
    · rintro j σ H5 hj ⟨w8, w9, ss, ys, rfl, k5, t5, h5S, l5, h5C, m5⟩
      have ps : 0 < ss.length := by omega
      refine ⟨_, rfl, .inl ⟨rfl, _, SqL.of h5S⟩, _, rfl, _, rfl, S, _, rfl, .inl (SqL.of h5S), t, c, _, _, rfl, t5, by omega, by rw [List.length_map]; omega, pow8000 (by rw [List.length_map]; omega), fun H6 r6 a6 b6 tp6 kp6 => ?_⟩
      rw [List.length_map] at b6
      have l6 : r6.toNat < ss.length := by omega
      refine ⟨S, _, r6, r6.toNat, .int ss[r6.toNat], rfl, rfl, t5.sq h5S kp6, by omega, by omega, seq_in a6 (by rw [List.length_map]; exact b6), by rw [List.getElem?_map, List.getElem?_eq_getElem l6]; rfl, ?_⟩
      rw [erase_map]
      generalize ss[r6.toNat] = mk
      have h6C := t5.sq h5C kp6
      have k6 := (k5.trans kp6).mut (o := .lst ((ss.eraseIdx r6.toNat).map V.int)) hS
      have t6 := tp6.mut (o := .lst ((ss.eraseIdx r6.toNat).map V.int)) nSt nSc
      have h6S : (upd H6 S (.lst ((ss.eraseIdx r6.toNat).map V.int))) S = some (.lst ((ss.eraseIdx r6.toNat).map V.int)) := upd_same
      have h6C : (upd H6 S (.lst ((ss.eraseIdx r6.toNat).map V.int))) C = some (.lst (ys.map V.int)) := by
        rw [upd_ne nSC.symm]
        exact h6C
      generalize upd H6 S (.lst ((ss.eraseIdx r6.toNat).map V.int)) = H7 at k6 t6 h6S h6C
      refine ⟨_, rfl, .inl ⟨rfl, _, SqL.of h6C⟩, _, rfl, _, rfl, _, rfl, _, rfl, _, rfl, _, _, rfl, rfl, by show 4 ≤ sizeLine; decide, fun e8 g8 => ?_⟩
      refine ⟨t, c, e8, _, _, rfl, t6.new g8, by omega, fun H' kp => .inl (SqL.of (kp e8 _ upd_same (t6.fresh g8))), by show 0 < 4; decide, by show 4 ≤ 1000000; decide, fun H8 i8 v8' g8' tp8 kp8 => ?_⟩
      have k78 : Kp t H7 H8 := (Kp.new g8).trans kp8
      obtain ⟨y8, rfl, _⟩ := pick_int (zs := [mk, mk, mk, 0 - mk]) g8'
      have h8C := t6.sq h6C k78
      refine ⟨C, _, _, rfl, rfl, h8C, by rw [List.length_map]; omega, _, _, ss.eraseIdx r6.toNat, ys ++ [y8], rfl, (k6.trans k78).mut hC2, (tp8.mut nCt nCc).le (by omega), ?_, ?_, ?_, ?_⟩
      · rw [upd_ne nSC]
        exact t6.sq h6S k78
      · rw [List.length_eraseIdx, if_pos l6]
        omega
      · rw [upd_same, List.map_append]
        rfl
      · rw [List.length_append, m5]
        rfl
    · rintro σ H5 ⟨w8, w9, ss, ys, rfl, k5, t5, h5S, l5, h5C, m5⟩
      exact ⟨_, rfl, k H5 C ys hC2 h5C (by omega) (t5.le (by omega)) k5⟩
end
/-! ### rows that may be gone -/
/-- lists of whole numbers within a list, all new -/
structure Ls (H : Hp) (D : Addr) (ls : List Addr) (xs : List (List Int)) : Prop where
  l : H D = some (.lst (ls.map V.ref))
  n : ls.length = xs.length
  t : ∀ (i : Nat) l x, ls[i]? = some l → xs[i]? = some x → H l = some (.lst (x.map V.int))
  d : ∀ l ∈ ls, l ≠ D
theorem Ls.same {H H' : Hp} {D : Addr} {ls : List Addr} {xs : List (List Int)} (h : Ls H D ls xs) (s : Same H H') : Ls H' D ls xs := ⟨s _ _ h.l, h.n, fun i l x hl hx => s _ _ (h.t i l x hl hx), h.d⟩
theorem Tape.ls {H H' : Hp} {t c D : Addr} {n : Nat} {ls : List Addr} {xs : List (List Int)} (h : Tape H t c n) (e : Ls H D ls xs) (k : Kp t H H') : Ls H' D ls xs :=
  ⟨h.sq e.l k, e.n, fun i l x hl hx => h.sq (e.t i l x hl hx) k, e.d⟩
theorem Ls.snoc {H : Hp} {D l : Addr} {ls : List Addr} {xs : List (List Int)} {x : List Int} (h : Ls H D ls xs) (hl : H l = some (.lst (x.map V.int))) (nl : l ≠ D) : Ls (upd H D (.lst (ls.map V.ref ++ [.ref l]))) D (ls ++ [l]) (xs ++ [x]) := by
  have hn := h.n
  refine ⟨by rw [upd_same, List.map_append]; rfl, by rw [List.length_append, List.length_append, hn]; rfl, fun i p y hp hy => ?_, fun p hp => ?_⟩
  · rcases getElem_snoc hp with ⟨_, e⟩ | ⟨e1, rfl⟩
    · rcases getElem_snoc hy with ⟨_, e2⟩ | ⟨e2, _⟩
      · rw [upd_ne (h.d _ (List.mem_of_getElem? e))]
        exact h.t i p y e e2
      · omega
    · rcases getElem_snoc hy with ⟨e2, _⟩ | ⟨_, rfl⟩
      · omega
      · rw [upd_ne nl]
        exact hl
  · rcases List.mem_append.mp hp with z | z
    · exact h.d _ z
    · rw [List.mem_singleton.mp z]
      exact nl
theorem Ls.at {H : Hp} {D : Addr} {ls : List Addr} {xs : List (List Int)} (h : Ls H D ls xs) {i : Nat} (hi : i < xs.length) : ∃ l, atI (ls.map V.ref) ((0 : Int) + i) = some (.ref l) ∧ H l = some (.lst (xs[i].map V.int)) := by
  have hn := h.n
  have l : i < ls.length := by omega
  refine ⟨ls[i], at_of (j := i) (by omega) ?_, h.t i _ _ (List.getElem?_eq_getElem l) (List.getElem?_eq_getElem hi)⟩
  rw [List.getElem?_map, List.getElem?_eq_getElem l]
  rfl
/-- the list of what is left of each clause -/
theorem lc_left {K : PySem.W.Frag} {a : Addr} {qs : List Addr} {cs : List (List Int)} {o : List Int} {te : TE} {vs : List Nat} {σ : L2.St} {H : Hp} {D : Addr} {Qd : Hp → Prop} {j : Nat} (hx : Cs H a qs cs) (hD : H D = none) (hz : cs.length ≤ 1000000)
    (wip : ∀ q : Addr, wipe ((wipe σ vs).set j (some (.ref q))) vs = wipe σ vs)
    (he : ∀ q c H' (R : VK), c ∈ cs → Same H H' → H' q = some (.tup (c.map V.int)) → (∀ H'' l, H' l = none → Same H' H'' → H'' l = some (.lst ((left o c).map V.int)) → R (.ref l) H'') → te ((wipe σ vs).set j (some (.ref q))) H' R)
    (k : ∀ H' ls, Same H H' → Ls H' D ls (cs.map (left o)) → Qd H') :
    ∃ W : Nat → Nat → Hp → Prop, (∃ m, W 0 m (upd H D (.lst []))) ∧ ∀ i m Hc, W i m Hc →
      ((Itl K a).stop i Hc ∧ Qd Hc) ∨ ((Itl K a).go i Hc ∧ ∃ Nx : Hp → Prop, (∀ H', Nx H' → ∃ m', m' < m ∧ W (i + 1) m' H') ∧ ∀ x H', (Itl K a).yld i Hc x H' → gName j x (wipe σ vs) H' fun σ2 H2 => wipe σ2 vs = wipe σ vs ∧ tYes σ2 H2 fun b H3 =>
        if b = true then te σ2 H3 fun y H4 => ∃ acc, H4 D = some (.lst acc) ∧ acc.length < sizeLine ∧ Nx (upd H4 D (.lst (acc ++ [y]))) else Nx H3) := by
  have line : 1000000 < sizeLine := by decide
  have hn := hx.n
  refine lc_list (xs := qs.map V.ref) (fun i H' => Same H H' ∧ ∃ ls, Ls H' D ls ((cs.take i).map (left o))) ⟨same_new hD, [], upd_same, rfl, fun i l x hl => by simp at hl, fun l hl => by simp at hl⟩ (fun i H' _ p => p.1.seq (SqL.of hx.l)) (fun i x H' hi p => ?_) fun H' p => ?_
  · obtain ⟨sm, ls, hd⟩ := p
    have li : i < qs.length := by
      have l := (List.getElem?_eq_some_iff.mp hi).1
      rw [List.length_map] at l
      exact l
    have lc : i < cs.length := by omega
    have ex : x = .ref qs[i] := by
      rw [List.getElem?_map, List.getElem?_eq_getElem li] at hi
      exact (Option.some.inj hi).symm
    subst ex
    have hq := sm _ _ (hx.t i _ _ (List.getElem?_eq_getElem li) (List.getElem?_eq_getElem lc))
    have ln := hd.n
    rw [List.length_map, List.length_take] at ln
    refine ⟨wip _, yes_go (he _ _ H' _ (List.getElem_mem lc) sm hq fun H2 l fl s2 hl => ⟨ls.map V.ref, s2 _ _ hd.l, by rw [List.length_map]; omega, fun b ob e => ?_, ls ++ [l], ?_⟩)⟩
    · rw [upd_ne (ne_of_none e hD)]
      exact s2 _ _ (sm _ _ e)
    · rw [List.take_add_one, List.getElem?_eq_getElem lc, List.map_append]
      exact (hd.same s2).snoc hl (ne_of_none hd.l fl).symm
  · obtain ⟨sm, ls, hd⟩ := p
    rw [List.length_map, hn, List.take_length] at hd
    exact k H' ls sm hd
/-- whether a clause may be gone -/
def goB (o l : List Int) : Bool := match l with
  | [] => true
  | [x] => !decide (x ∈ o)
  | _ => false
def spGone : Sp := fun vs H Q _ => ∃ (t c a b : Addr) (qs : List Addr) (cs : List (List Int)) (ps : List Int) (n : Nat), vs = [.ref t, .ref a, .ref b] ∧ Tape H t c n ∧ n < 1000000 ∧ Cs H a qs cs ∧ (∀ c ∈ cs, c.length ≤ 5) ∧ cs.length ≤ 100 ∧ H b = some (.lst (ps.map V.int)) ∧ ps.length ≤ 100 ∧
  ∀ (H' : Hp) (q : Addr) (rs : List Int), H q = none → H' q = some (.lst (rs.map V.int)) → rs.length ≤ 20 → Tape H' t c (n + 30) → Kp t H H' → Q (.ref q) H'
section
variable {P : Program} {w : World} {K : PySem.W.Frag} {mg : Str → Option Value} {base : Heap}
theorem has_gone (T : Top K mg) (h__law_pick : Has P w K mg base 2 "_law_pick" ["_law_tape", "_law_some"] (spPick K)) :
    Has P w K mg base 3 "_law_gone" ["_law_tape", "_law_clauses", "_law_puts_here"] spGone := by
  refine has_of T.d__law_gone sc__law_gone bd__law_gone (fun vs H Q E h => ?_) (fun f cdv A outer s H vs Q E hr h => ?_)
  · obtain ⟨t, c, a, b, qs, cs, ps, n, rfl, _⟩ := h
    rfl
  · have hu := hu_of hr
    have nd := sc__law_gone.nd
    obtain ⟨t, c, a, b, qs, cs, ps, n, rfl, tp, hn, hc, hw, hz, hb, lb, k⟩ := h
    refine ⟨_, (pss_cons (ps_asg (pe_tup (pa_cons (pe_callTy (call_dictP rfl) (by rfl) T.b_dict (by decide +kernel) (pa_cons (pe_lc (own := [("_law_mark", 12)]) (by rfl) nd (pi_list (pv 2)) (blkOk_by (own := [("_law_mark", 12)]) (N := nm__law_gone) (sc := defScope s__law_gone) (by decide +kernel)) (fun _ _ _ _ _ => pg_name (i := 12) nd rfl (.inl rfl)) (fun _ _ _ _ _ => pts_nil) (fun _ _ _ _ _ => (pe_tup (pa_cons (pv 12) (pa_cons pe_bl pa_nil))))) pa_nil)) (pa_cons (pe_lst pa_nil) (pa_cons pe_bl pa_nil)))) (pg_tup (by rfl) (pgs_cons (pg_name (i := 3) nd rfl (.inr rfl)) (pgs_cons (pg_name (i := 4) nd rfl (.inl rfl)) (pgs_cons (pg_name (i := 5) nd rfl (.inl rfl)) pgs_nil)))))
    (pss_cons (ps_for PassesOwn.never rfl (pi_range1 (by rfl) T.b_range (pa_cons (pe_has h__law_pick (hr.mono (by omega)) (by rfl) (pa_cons (pv 0) (pa_cons (pe_lst (pa_cons pe_int (pa_cons pe_int (pa_cons pe_int (pa_cons pe_int pa_nil))))) pa_nil))) pa_nil)) (pg_name (i := 6) nd rfl (.inl rfl))
      (pss_cons (ps_set (i := 7) nd rfl (.inr rfl) (pe_lc (own := [("_law_clause", 10)]) (by rfl) nd (pi_list (pv 1)) (blkOk_by (own := [("_law_clause", 10)]) (N := nm__law_gone) (sc := defScope s__law_gone) (by decide +kernel)) (fun _ _ _ _ _ => pg_name (i := 10) nd rfl (.inl rfl)) (fun _ _ _ _ _ => pts_nil) (fun _ _ _ _ _ => (pe_lc (own := [("_law_mark", 12)]) (by rfl) nd (pi_tupK (K := K) rfl (pv 10)) (blkOk_by (own := [("_law_mark", 12)]) (N := nm__law_gone) (sc := relS { kind := .function, names := [(".0", .local), ("_law_clause", .local), ("_law_on", .free)], isGenerator := false, isCoroutine := false, more := [] } (defScope s__law_gone)) (by decide +kernel)) (fun _ _ _ _ _ => pg_name (i := 12) nd rfl (.inl rfl)) (fun _ _ _ _ _ => pts_one (pt_cmp (pc_dnotin hu (pe_op op_sub pe_int (pv 12)) (pv 3)))) (fun _ _ _ _ _ => (pv 12))))))
    (pss_cons (ps_setLc (i := 8) (own := [("_law_k", 11)]) (by rfl) nd rfl rfl (sw_true rfl rfl rfl (by decide +kernel)) (pi_range1 (by rfl) T.b_range (pa_cons (pe_callB call_len_seq (by rfl) T.b_len (by decide +kernel) (pa_cons (pv 1) pa_nil)) pa_nil)) (blkOk_by (own := [("_law_k", 11)]) (N := nm__law_gone) (sc := defScope s__law_gone) (by decide +kernel)) (fun _ _ _ _ _ => pg_name (i := 11) nd rfl (.inl rfl)) (fun _ _ _ _ _ => pts_one (PW.pt (pw_or (PW.pt (pw_and (pt_cmpR op_eq (pe_callB (len_seqK (K := K) rfl) (by rfl) T.b_len (by decide +kernel) (pa_cons (pe_ix (ix_listK (K := K) rfl) (pv 7) (pv 11) (fun _ _ => rfl)) pa_nil)) pe_int (nomark _)) (pw_and1 (pt_cmp (pc_dnotin hu (pe_ix (ix_listK (K := K) rfl) (pe_ix (ix_listK (K := K) rfl) (pv 7) (pv 11) (fun _ _ => rfl)) pe_int (fun _ _ => rfl)) (pv 3)))))) (pw_or1 (pt_cmpR (op_eqNilK (K := K) rfl hu) (pe_ix (ix_listK (K := K) rfl) (pv 7) (pv 11) (fun _ _ => rfl)) (pe_lst pa_nil) (nomark _)))))) (fun _ _ _ _ _ => (pv 11)))
    (pss_cons (ps_if (PW.pt (pw_or (pt_cmpR (op_eqNil hu) (pv 8) (pe_lst pa_nil) (nomark _)) (pw_or1 (pt_val (pv 5))))) (pss_one (ps_ret (pv 4))) pss_nil)
    (pss_cons (ps_set (i := 9) nd rfl (.inl rfl) (pe_has h__law_pick (hr.mono (by omega)) (by rfl) (pa_cons (pv 0) (pa_cons (pv 8) pa_nil))))
    (pss_cons (ps_set (i := 5) nd rfl (.inl rfl) (pe_cmpR (op_eqNil hu) (pe_ix ix_list (pv 7) (pv 9) (fun _ _ => rfl)) (pe_lst pa_nil) (nomark _)))
    (pss_cons (ps_expr (pe_bm PySem.F.plainAttrs_dict PySem.F.slot_dict_update PySem.F.type_dict_update mt_update (pv 3) (pa_cons (pe_callTy (call_dictP rfl) (by rfl) T.b_dict (by decide +kernel) (pa_cons (pe_lc (own := [("_law_mark", 12)]) (by rfl) nd (pi_list (pe_ix ix_list (pv 7) (pv 9) (fun _ _ => rfl))) (blkOk_by (own := [("_law_mark", 12)]) (N := nm__law_gone) (sc := defScope s__law_gone) (by decide +kernel)) (fun _ _ _ _ _ => pg_name (i := 12) nd rfl (.inl rfl)) (fun _ _ _ _ _ => pts_nil) (fun _ _ _ _ _ => (pe_tup (pa_cons (pv 12) (pa_cons pe_bl pa_nil))))) pa_nil)) pa_nil)))
    (pss_one (ps_expr (pe_bm PySem.F.plainAttrs_list PySem.F.slot_list_append PySem.F.type_list_append mt_append (pv 4) (pa_cons (pv 9) pa_nil)))))))))))
    (pss_one (ps_ret (pv 4))))), ?_⟩
    have line : 1000000 < sizeLine := by decide
    have l0 := fold_len ps []
    simp only [List.length_nil, Nat.zero_add] at l0
    refine ⟨_, rfl, b, rfl, ⟨_, SqL.of hb⟩, fun D hD => lc_pairs (SqL.of hb) hD (by omega) (fun n => rfl) (fun n H' R g => ⟨_, rfl, by show 2 ≤ sizeLine; decide, g⟩) fun H1 prs s1 h1 pr => ?_⟩
    refine ⟨D, prs, tru ps, rfl, SqL.of h1, pr.paired, fun d hd => ?_⟩
    rw [tru_fold]
    have nd0 : H d = none := s1.free hd
    refine ⟨by show 0 ≤ sizeLine; decide, fun R hR => ⟨by show 3 ≤ sizeLine; decide, fun tq htq => ⟨tq, _, rfl, SqT.of upd_same, rfl, _, _, rfl, _, _, rfl, _, _, rfl, rfl, ?_⟩⟩⟩
    have nRd : R ≠ d := fun e => by
      rw [e, upd_same] at hR
      cases hR
    have nR0 : H R = none := s1.free (by rw [← hR, upd_ne nRd])
    have s2 : Same H (upd (upd (upd H1 d (.dK (tru (ps.foldl ins [])))) R (.lst [])) tq (.tup [V.ref d, V.ref R, V.bl false])) := s1.trans ((same_new hd).trans ((same_new hR).trans (same_new htq)))
    have d2 : (upd (upd (upd H1 d (.dK (tru (ps.foldl ins [])))) R (.lst [])) tq (.tup [V.ref d, V.ref R, V.bl false])) d = some (.dK (tru (ps.foldl ins []))) := same_new htq _ _ (same_new hR _ _ upd_same)
    have r2 : (upd (upd (upd H1 d (.dK (tru (ps.foldl ins [])))) R (.lst [])) tq (.tup [V.ref d, V.ref R, V.bl false])) R = some (.lst (([] : List Int).map V.int)) := same_new htq _ _ upd_same
    generalize upd (upd (upd H1 d (.dK (tru (ps.foldl ins [])))) R (.lst [])) tq (.tup [V.ref d, V.ref R, V.bl false]) = H2 at s2 d2 r2
    have t2 := tp.same s2
    have ndt : d ≠ t := tp.fresh nd0
    have ndc : d ≠ c := tp.fresh_c nd0
    have nRt : R ≠ t := tp.fresh nR0
    have nRc : R ≠ c := tp.fresh_c nR0
    -- how many turns
    refine ⟨_, rfl, by show 4 ≤ sizeLine; decide, fun e he => ⟨t, c, e, _, n, rfl, t2.new he, by omega, fun H' kp => .inl (SqL.of (kp e _ upd_same (t2.fresh he))), by show 0 < 4; decide, by show 4 ≤ 1000000; decide, fun H3 i3 v3 g3 tp3 kp3 => ?_⟩⟩
    obtain ⟨z, rfl, m3⟩ := pick_int (zs := [1, 2, 4, 20]) g3
    have zb : 1 ≤ z ∧ z ≤ 20 := by
      simp only [List.mem_cons, List.not_mem_nil, or_false] at m3
      omega
    have k23 : Kp t H2 H3 := (Kp.new he).trans kp3
    have k03 : Kp t H H3 := (Kp.same s2).trans k23
    refine ⟨_, rfl, by omega, by omega, for_range (lo := 0) (fun i σ H' => ∃ v6 v7 v8 v9 v10 v11 v12 o en rs, σ = [some (.ref t), some (.ref a), some (.ref b), some (.ref d), some (.ref R), some (.bl en), v6, v7, v8, v9, v10, v11, v12] ∧ Kp t H H' ∧ Tape H' t c (n + 1 + i) ∧
        H' d = some (.dK (tru o)) ∧ o.length ≤ 100 + 5 * i ∧ H' R = some (.lst ((rs : List Int).map V.int)) ∧ rs.length = i) ⟨none, none, none, none, none, none, none, _, _, [], rfl, k03, tp3, k23 _ _ d2 ndt, by omega, k23 _ _ r2 nRt, rfl⟩ ?_ ?_⟩
    · rintro i σ H4 hi ⟨v6, v7, v8, v9, v10, v11, v12, o, en, rs, rfl, k4, t4, h4d, lo, h4R, lr⟩
      have hi2 : i < 20 := by omega
      have c4 := tp.cs hc k4
      have hn4 := c4.n
      -- what is left of each
      refine ⟨_, rfl, a, rfl, ⟨_, SqL.of c4.l⟩, fun L hL => lc_left (o := o) c4 hL (by omega) (fun q => rfl) (fun q x H5 Y hx sm hq g => ?_) fun H5 ls s5 ll => ?_⟩
      · refine ⟨_, rfl, q, rfl, ⟨_, SqT.of hq⟩, fun D1 hD1 => lc_sel_tup (fun x => match x with | .int m => !decide (-m ∈ o) | _ => false) (fun x => x) (SqT.of hq) hD1 (by have := hw x hx; rw [List.length_map]; omega) (fun y hm => ?_) fun H6 s6 h6 => ?_⟩
        · obtain ⟨m, _, rfl⟩ := List.mem_map.mp hm
          refine ⟨rfl, fun Ha sa R g => ⟨_, rfl, _, _, rfl, rfl, _, rfl, d, _, rfl, DGet.k (k := Sum.inl (0 - m)) (sa _ _ (sm _ _ h4d)), _, rfl, ?_⟩, fun _ Ha sa R g => ⟨_, rfl, g Ha (Same.refl _)⟩⟩
          rw [tru_some, Int.zero_sub]
          exact g Ha (Same.refl _)
        · have e2 : (((x.map V.int).filter (fun x => match x with | .int m => !decide (-m ∈ o) | _ => false)).map fun x => x) = (left o x).map V.int := by
            rw [List.map_id', left, List.filter_map]
            rfl
          rw [e2] at h6
          exact g H6 D1 hD1 s6 h6
      have t5 := t4.same s5
      have h5d := s5 _ _ h4d
      have h5R := s5 _ _ h4R
      have c5 := c4.same s5
      -- the ones that may be gone
      have lx : (cs.map (left o)).length = cs.length := List.length_map _
      refine ⟨_, rfl, a, _, rfl, .inl (SqL.of c5.l), _, rfl, by rw [List.length_map]; omega, by rw [List.length_map]; omega, fun S hS => lc_sel_range (lo := 0) (fun i => goB o (((cs.map (left o))[i]?).getD [])) (fun i => .int (0 + (i : Int))) hS (by rw [List.length_map]; omega) (fun k hk => ?_) fun H6 s6 h6 => ?_⟩
      · rw [List.length_map] at hk
        have hk2 : k < (cs.map (left o)).length := by omega
        refine ⟨rfl, fun Ha sa Y g => ?_, fun _ Ha sa Y g => ⟨_, rfl, g Ha (Same.refl _)⟩⟩
        have la := ll.same sa
        obtain ⟨l, e1, e2⟩ := la.at hk2
        rw [List.getElem?_eq_getElem hk2, Option.getD_some] at g
        generalize (cs.map (left o))[k] = x at e2 g
        refine ⟨_, rfl, _, rfl, L, _, _, _, rfl, rfl, SqL.of la.l, e1, l, _, rfl, .inl (SqL.of e2), rfl, _, rfl, ?_⟩
        have h0d := sa _ _ h5d
        cases x with
        | nil =>
          refine iteF (iteF ⟨_, rfl, _, rfl, L, _, _, _, rfl, rfl, SqL.of la.l, e1, by show 0 ≤ sizeLine; decide, fun N hN => ⟨l, N, _, rfl, rfl, SqL.of (same_new hN _ _ e2), SqL.of upd_same, ?_⟩⟩)
          exact ⟨_, rfl, g _ (same_new hN)⟩
        | cons y r =>
          cases r with
          | nil =>
            refine iteT ⟨_, rfl, _, rfl, L, _, _, _, rfl, rfl, SqL.of la.l, e1, l, _, _, _, rfl, rfl, SqL.of e2, atI_nat (j := 0) rfl, _, rfl, d, _, rfl, DGet.k (k := Sum.inl y) h0d, ?_⟩
            rw [tru_some]
            have g : ∀ H'', Same Ha H'' → Y (!decide (y ∈ o)) H'' := g
            by_cases hy : y ∈ o
            · rw [decide_eq_true hy] at g ⊢
              refine ⟨_, rfl, iteF ⟨_, rfl, _, rfl, L, _, _, _, rfl, rfl, SqL.of la.l, e1, by show 0 ≤ sizeLine; decide, fun N hN => ⟨l, N, _, rfl, rfl, SqL.of (same_new hN _ _ e2), SqL.of upd_same, ?_⟩⟩⟩
              exact ⟨_, rfl, g _ (same_new hN)⟩
            · rw [decide_eq_false hy] at g ⊢
              exact ⟨_, rfl, iteT (g _ (Same.refl _))⟩
          | cons y2 r2 =>
            have e3 : decide (V.int (((y :: y2 :: r2).map V.int).length : Nat) = V.int 1) = false := decide_eq_false fun z => by
              have z2 := V.int.inj z
              rw [List.length_map, List.length_cons, List.length_cons] at z2
              omega
            rw [e3]
            refine iteF (iteF ⟨_, rfl, _, rfl, L, _, _, _, rfl, rfl, SqL.of la.l, e1, by show 0 ≤ sizeLine; decide, fun N hN => ⟨l, N, _, rfl, rfl, SqL.of (same_new hN _ _ e2), SqL.of upd_same, ?_⟩⟩)
            exact ⟨_, rfl, g _ (same_new hN)⟩
      · have e6 : ((List.range (qs.map V.ref).length).filter (fun i => goB o (((cs.map (left o))[i]?).getD []))).map (fun i : Nat => V.int (0 + (i : Int))) =
            (((List.range (qs.map V.ref).length).filter (fun i => goB o (((cs.map (left o))[i]?).getD []))).map (fun i : Nat => (0 + (i : Int)))).map V.int := by
          rw [List.map_map]
          rfl
        have b6 : ∀ x ∈ ((List.range (qs.map V.ref).length).filter (fun i => goB o (((cs.map (left o))[i]?).getD []))).map (fun i : Nat => (0 + (i : Int))), 0 ≤ x ∧ x < cs.length := fun x hx => by
          obtain ⟨i, hi, rfl⟩ := List.mem_map.mp hx
          have h2 := List.mem_range.mp (List.mem_filter.mp hi).1
          rw [List.length_map] at h2
          omega
        have z6 : (((List.range (qs.map V.ref).length).filter (fun i => goB o (((cs.map (left o))[i]?).getD []))).map (fun i : Nat => (0 + (i : Int)))).length ≤ 1000000 := by
          have h2 := List.length_filter_le (fun i => goB o (((cs.map (left o))[i]?).getD [])) (List.range (qs.map V.ref).length)
          rw [List.length_range] at h2
          have lq : (qs.map V.ref).length = qs.length := List.length_map _
          exact Nat.le_trans (Nat.le_of_eq (List.length_map _)) (Nat.le_trans h2 (by omega))
        rw [Int.toNat_natCast, e6] at h6
        generalize ((List.range (qs.map V.ref).length).filter (fun i => goB o (((cs.map (left o))[i]?).getD []))).map (fun i : Nat => (0 + (i : Int))) = ks at h6 b6 z6
        clear e6
        have t6 := t5.same s6
        refine ⟨_, rfl, by show 0 ≤ sizeLine; decide, fun N hN => ⟨S, N, _, rfl, rfl, SqL.of (same_new hN _ _ h6), SqL.of upd_same, _, rfl, ?_⟩⟩
        have t7 := t6.new (o := .lst []) hN
        have s47 := s5.trans (s6.trans (same_new (o := .lst []) hN))
        have h7S := same_new (o := .lst []) hN _ _ h6
        have ll7 := ll.same (s6.trans (same_new (o := .lst []) hN))
        generalize upd H6 N (.lst []) = H7 at t7 s47 h7S ll7
        have h7d := s47 _ _ h4d
        have h7R := s47 _ _ h4R
        have k7 : Kp t H H7 := k4.trans (Kp.same s47)
        cases ks with
        | nil => exact iteT (iteT ⟨_, rfl, k H7 R rs nR0 h7R (by omega) (t7.le (by omega)) k7⟩)
        | cons k0 kr =>
          refine iteF ⟨_, rfl, en, rfl, ite2 (fun _ => ⟨_, rfl, k H7 R rs nR0 h7R (by omega) (t7.le (by omega)) k7⟩) (fun _ => ?_)⟩
          -- the row
          refine ⟨_, rfl, _, rfl, t, c, S, _, n + 1 + i, rfl, t7, by omega, fun H' kp => .inl (SqL.of (t7.sq h7S kp)), by rw [List.length_map, List.length_cons]; omega, by rw [List.length_map]; exact z6, fun H8 i8 v8 g8 tp8 kp8 => ?_⟩
          obtain ⟨r, rfl, mr⟩ := pick_int g8
          obtain ⟨r0, r1⟩ := b6 r mr
          have ll8 := t7.ls ll7 kp8
          obtain ⟨l, e1, e2⟩ := ll8.at (i := r.toNat) (by omega)
          rw [show (0 : Int) + (r.toNat : Int) = r by omega] at e1
          have wx : ((cs.map (left o))[r.toNat]'(by omega)).length ≤ 5 := by
            rw [List.getElem_map]
            exact Nat.le_trans (List.length_filter_le _ _) (hw _ (List.getElem_mem _))
          generalize (cs.map (left o))[r.toNat]'(by omega) = x at e2 wx
          have h8d := kp8 _ _ h7d ndt
          have h8R := kp8 _ _ h7R nRt
          -- whether it ends
          refine ⟨_, rfl, _, rfl, L, _, _, _, rfl, rfl, SqL.of ll8.l, e1, by show 0 ≤ sizeLine; decide, fun N2 hN2 => ⟨l, N2, _, rfl, rfl, SqL.of (same_new hN2 _ _ e2), SqL.of upd_same, ?_⟩⟩
          have s89 := same_new (o := .lst []) hN2
          have t9 := tp8.new (o := .lst []) hN2
          generalize upd H8 N2 (.lst []) = H9 at s89 t9
          have ll9 := ll8.same s89
          have h9l := s89 _ _ e2
          refine ⟨_, rfl, .inr (.inr (.inl ⟨rfl, .inl ⟨_, s89 _ _ h8d⟩⟩)), ?_⟩
          refine ⟨_, rfl, _, rfl, L, _, _, _, rfl, rfl, SqL.of ll9.l, e1, l, rfl, ⟨_, SqL.of h9l⟩, fun D3 hD3 => lc_pairs (SqL.of h9l) hD3 (by omega) (fun n => rfl) (fun n Ha R g => ⟨_, rfl, by show 2 ≤ sizeLine; decide, g⟩) fun Hb pr6 sb hb6 p6 => ?_⟩
          refine ⟨D3, pr6, tru x, rfl, SqL.of hb6, p6.paired, fun d3 hd3 => ?_⟩
          rw [tru_fold]
          have hbd := sb _ _ (s89 _ _ h8d)
          have n3d : d ≠ d3 := ne_of_none hbd hd3
          have lo3 := fold_len x []
          simp only [List.length_nil, Nat.zero_add] at lo3
          refine ⟨d, d3, tru o, tru (x.foldl ins []), rfl, rfl, by rw [upd_ne n3d]; exact hbd, upd_same, n3d, by unfold tru; rw [List.length_map, List.length_map]; omega, ?_⟩
          rw [tru_merge]
          have lf := fold_len (x.foldl ins []) o
          have s8b : Same H8 (upd Hb d3 (.dK (tru (x.foldl ins [])))) := s89.trans (sb.trans (same_new hd3))
          have k8b := (k7.trans (kp8.trans (Kp.same s8b))).mut (o := .dK (tru ((x.foldl ins []).foldl ins o))) nd0
          have t8b := (tp8.same s8b).mut (o := .dK (tru ((x.foldl ins []).foldl ins o))) ndt ndc
          have h8b : (upd (upd Hb d3 (.dK (tru (x.foldl ins [])))) d (.dK (tru ((x.foldl ins []).foldl ins o)))) R = some (.lst (rs.map V.int)) := by
            rw [upd_ne nRd]
            exact s8b _ _ h8R
          refine ⟨_, rfl, .inl ⟨rfl, _, SqL.of h8b⟩, _, rfl, R, _, _, rfl, rfl, h8b, by rw [List.length_map]; omega, ?_⟩
          refine ⟨_, _, _, _, _, _, _, (x.foldl ins []).foldl ins o, _, rs ++ [r], rfl, k8b.mut nR0, (t8b.mut nRt nRc).le (by omega), ?_, by omega, by rw [upd_same, List.map_append]; rfl, by rw [List.length_append, lr]; rfl⟩
          rw [upd_ne nRd.symm]
          exact upd_same
    · rintro σ H4 ⟨v6, v7, v8, v9, v10, v11, v12, o, en, rs, rfl, k4, t4, h4d, lo, h4R, lr⟩
      exact ⟨_, rfl, k H4 R rs nR0 h4R (by omega) (t4.le (by omega)) k4⟩
end
/-! ### rows bent -/
theorem cut_ints (rs : List Int) (a b : Option Int) : ∃ ys : List Int, cutV (rs.map V.int) a b = ys.map V.int ∧ ys.length ≤ rs.length := by
  unfold cutV
  rw [← List.map_drop, ← List.map_take]
  refine ⟨_, rfl, ?_⟩
  have h1 := List.length_take_le' (i := HT.sIx (List.map V.int rs).length (List.map V.int rs).length b - HT.sIx (List.map V.int rs).length 0 a) (l := rs.drop (HT.sIx (List.map V.int rs).length 0 a))
  rw [List.length_drop] at h1
  omega
def spBent : Sp := fun vs H Q _ => ∃ (t c p : Addr) (rs : List Int) (m : Int) (n : Nat), vs = [.ref t, .ref p, .int m] ∧ Tape H t c n ∧ n < 1000000 ∧ H p = some (.lst (rs.map V.int)) ∧ rs.length ≤ 100 ∧ 0 ≤ m ∧ m ≤ 1000 ∧
  ∀ (H' : Hp) (q : Addr) (ys : List Int), H' q = some (.lst (ys.map V.int)) → ys.length ≤ 3 * rs.length + 1 → Tape H' t c (n + 10) → Kp t H H' → Q (.ref q) H'
section
variable {P : Program} {w : World} {K : PySem.W.Frag} {mg : Str → Option Value} {base : Heap}
theorem has_bent (T : Top K mg) (h__law_draw : Has P w K mg base 1 "_law_draw" ["_law_tape", "_law_many"] spDraw) (h__law_pick : Has P w K mg base 2 "_law_pick" ["_law_tape", "_law_some"] (spPick K)) :
    Has P w K mg base 3 "_law_bent" ["_law_tape", "_law_rows", "_law_many"] spBent := by
  refine has_of T.d__law_bent sc__law_bent bd__law_bent (fun vs H Q E h => ?_) (fun f cdv A outer s H vs Q E hr h => ?_)
  · obtain ⟨t, c, p, rs, m, n, rfl, _⟩ := h
    rfl
  · have hu := hu_of hr
    have nd := sc__law_bent.nd
    obtain ⟨t, c, p, rs, m, n, rfl, tp, hn, hp, hl, hm0, hm1, k⟩ := h
    refine ⟨_, (pss_cons (ps_par (i := 3) (j := 4) (by rfl) nd rfl rfl (by decide) rfl rfl (pa_cons (pe_has h__law_draw (hr.mono (by omega)) (by rfl) (pa_cons (pv 0) (pa_cons pe_int pa_nil))) (pa_cons (pe_has h__law_draw (hr.mono (by omega)) (by rfl) (pa_cons (pv 0) (pa_cons (pe_op op_add (pe_callB call_len_seq (by rfl) T.b_len (by decide +kernel) (pa_cons (pv 1) pa_nil)) pe_int) pa_nil))) pa_nil)) (by rfl))
    (pss_cons (ps_set (i := 5) nd rfl (.inl rfl) (pe_has h__law_pick (hr.mono (by omega)) (by rfl) (pa_cons (pv 0) (pa_cons (pe_lst (pa_cons (pe_has h__law_draw (hr.mono (by omega)) (by rfl) (pa_cons (pv 0) (pa_cons (pe_callB (call_max2 rfl) (by rfl) T.b_max (by decide +kernel) (pa_cons pe_int (pa_cons (pv 2) pa_nil))) pa_nil))) (pa_cons (pe_has h__law_draw (hr.mono (by omega)) (by rfl) (pa_cons (pv 0) (pa_cons (pe_callB (call_max2 rfl) (by rfl) T.b_max (by decide +kernel) (pa_cons pe_int (pa_cons (pv 2) pa_nil))) pa_nil))) (pa_cons (pe_un un_neg pe_int) (pa_cons (pv 2) (pa_cons (pe_op op_sub pe_int (pv 2)) (pa_cons (pe_op op_pow pe_int pe_int) pa_nil))))))) pa_nil))))
    (pss_cons (ps_if (pt_cmpR op_eq (pv 3) pe_int (nomark _)) (pss_one (ps_ret (pe_op op_cat (pe_slice sl_list (pv 1) po_none (po_some (pv 4))) (pe_slice sl_list (pv 1) (po_some (pe_op op_add (pv 4) pe_int)) po_none)))) pss_nil)
    (pss_cons (ps_if (pt_cmpR op_eq (pv 3) pe_int (nomark _)) (pss_one (ps_ret (pe_op op_cat (pe_op op_cat (pe_slice sl_list (pv 1) po_none (po_some (pv 4))) (pe_lst (pa_cons (pv 5) pa_nil))) (pe_slice sl_list (pv 1) (po_some (pv 4)) po_none)))) pss_nil)
    (pss_cons (ps_if (pt_cmpR op_eq (pv 3) pe_int (nomark _)) (pss_one (ps_ret (pe_op op_cat (pe_op op_cat (pe_slice sl_list (pv 1) po_none (po_some (pv 4))) (pe_lst (pa_cons (pv 5) pa_nil))) (pe_slice sl_list (pv 1) (po_some (pe_op op_add (pv 4) pe_int)) po_none)))) pss_nil)
    (pss_cons (ps_if (pt_cmpR op_eq (pv 3) pe_int (nomark _)) (pss_one (ps_ret (pe_op op_cat (pe_op op_cat (pe_slice sl_list (pv 1) po_none (po_some (pv 4))) (pe_slice sl_list (pv 1) (po_some (pv 4)) (po_some (pe_op op_add (pv 4) pe_int)))) (pe_slice sl_list (pv 1) (po_some (pv 4)) po_none)))) pss_nil)
    (pss_one (ps_ret (pe_ifExp (pt_cmpR op_eq (pv 3) pe_int (nomark _)) (pe_op op_cat (pe_slice sl_list (pv 1) po_none (po_some (pv 4))) (pe_revL (pe_slice sl_list (pv 1) (po_some (pv 4)) po_none))) (pv 1)))))))))), ?_⟩
    have line : 1000000 < sizeLine := by decide
    refine ⟨_, rfl, t, c, 8, n, rfl, tp, by omega, by decide, by decide +kernel, fun H1 way a1 b1 tp1 kp1 => ?_⟩
    have hp1 := tp.sq hp kp1
    refine ⟨_, rfl, _, rfl, p, _, rfl, .inl (SqL.of hp1), _, _, rfl, rfl, t, c, _, n + 1, rfl, tp1, by omega, by rw [List.length_map]; omega, pow8000 (by rw [List.length_map]; omega), fun H2 at_ a2 b2 tp2 kp2 => ?_⟩
    have hp2 := tp1.sq hp1 kp2
    refine ⟨_, _, rfl, ?_⟩
    -- another number
    refine ⟨_, rfl, _, rfl, _, rfl, 1, m, rfl, t, c, _, n + 2, rfl, tp2, by omega, by split <;> omega, pow8000 (by split <;> omega), fun H3 r3 a3 b3 tp3 kp3 => ?_⟩
    refine ⟨_, rfl, _, rfl, 1, m, rfl, t, c, _, n + 3, rfl, tp3, by omega, by split <;> omega, pow8000 (by split <;> omega), fun H4 r4 a4 b4 tp4 kp4 => ?_⟩
    refine ⟨_, rfl, _, rfl, _, rfl, _, _, rfl, rfl, _, _, rfl, rfl, ⟨by decide, by decide, by decide⟩, by show 6 ≤ sizeLine; decide, fun e5 g5 => ?_⟩
    refine ⟨t, c, e5, _, n + 4, rfl, tp4.new g5, by omega, fun H' kp => .inl (SqL.of (kp e5 _ upd_same (tp4.fresh g5))), by show 0 < 6; decide, by show 6 ≤ 1000000; decide, fun H5 i5 v5 h5 tp5 kp5 => ?_⟩
    obtain ⟨odd, rfl, _⟩ := pick_int (zs := [r3, r4, -1, m, 0 - m, 10 ^ (30 : Int).toNat]) h5
    have k25 : Kp t H2 H5 := kp3.trans (kp4.trans ((Kp.new g5).trans kp5))
    have k05 : Kp t H H5 := kp1.trans (kp2.trans k25)
    have hp5 := tp2.sq hp2 k25
    clear k25 h5 i5 g5 e5 kp4 kp5 tp4 tp3 kp3 tp1 kp1 hp1 hp2 b3 a3 b4 a4
    have fin : ∀ (Hx : Hp) (qa qb : Addr) (xs ys : List Int), Same H5 Hx → Hx qa = some (.lst (xs.map V.int)) → Hx qb = some (.lst (ys.map V.int)) → xs.length + ys.length ≤ 3 * rs.length + 1 → rCat (.ref qa) (.ref qb) Hx Q := fun Hx qa qb xs ys sm ha hb lz => by
      refine ⟨qa, qb, _, _, rfl, rfl, ha, hb, by rw [List.length_map, List.length_map]; omega, fun q hq => ?_⟩
      rw [← List.map_append]
      exact k _ q (xs ++ ys) upd_same (by rw [List.length_append]; exact lz) (((tp5.same sm).new hq).le (by omega)) (k05.trans ((Kp.same sm).trans (Kp.new hq)))
    obtain ⟨x1, c1, l1⟩ := cut_ints rs none (some at_)
    obtain ⟨x2, c2, l2⟩ := cut_ints rs (some (at_ + 1)) none
    obtain ⟨x3, c3, l3⟩ := cut_ints rs (some at_) none
    obtain ⟨x4, c4, l4⟩ := cut_ints rs (some at_) (some (at_ + 1))
    refine ⟨_, rfl, rfl, _, rfl, ite2 (fun _ => ?_) (fun _ => ?_)⟩
    · refine ⟨_, rfl, _, rfl, at_, rfl, p, _, rfl, SqL.of hp5, fun qa ha => ⟨_, rfl, _, rfl, _, _, rfl, rfl, _, rfl, p, _, rfl, SqL.of (same_new ha _ _ hp5), fun qb hb => ?_⟩⟩
      rw [c1, c2] at *
      exact fin _ qa qb x1 x2 ((same_new ha).trans (same_new hb)) (same_new hb _ _ upd_same) upd_same (by omega)
    refine ⟨_, rfl, rfl, _, rfl, ite2 (fun _ => ?_) (fun _ => ?_)⟩
    · refine ⟨_, rfl, _, rfl, at_, rfl, p, _, rfl, SqL.of hp5, fun qa ha => ⟨_, rfl, by show 1 ≤ sizeLine; decide, fun qo ho => ⟨qa, qo, _, _, rfl, rfl, same_new ho _ _ upd_same, upd_same, by rw [c1, List.length_map]; show x1.length + 1 ≤ sizeLine; omega, fun qc hc => ?_⟩⟩⟩
      refine ⟨_, rfl, _, rfl, at_, rfl, p, _, rfl, SqL.of (same_new hc _ _ (same_new ho _ _ (same_new ha _ _ hp5))), fun qb hb => ?_⟩
      rw [c1, c3] at *
      exact fin _ qc qb (x1 ++ [odd]) x3 ((same_new ha).trans ((same_new ho).trans ((same_new hc).trans (same_new hb)))) (by rw [List.map_append]; exact same_new hb _ _ upd_same) upd_same (by rw [List.length_append]; show x1.length + 1 + x3.length ≤ _; omega)
    refine ⟨_, rfl, rfl, _, rfl, ite2 (fun _ => ?_) (fun _ => ?_)⟩
    · refine ⟨_, rfl, _, rfl, at_, rfl, p, _, rfl, SqL.of hp5, fun qa ha => ⟨_, rfl, by show 1 ≤ sizeLine; decide, fun qo ho => ⟨qa, qo, _, _, rfl, rfl, same_new ho _ _ upd_same, upd_same, by rw [c1, List.length_map]; show x1.length + 1 ≤ sizeLine; omega, fun qc hc => ?_⟩⟩⟩
      refine ⟨_, rfl, _, rfl, _, _, rfl, rfl, _, rfl, p, _, rfl, SqL.of (same_new hc _ _ (same_new ho _ _ (same_new ha _ _ hp5))), fun qb hb => ?_⟩
      rw [c1, c2] at *
      exact fin _ qc qb (x1 ++ [odd]) x2 ((same_new ha).trans ((same_new ho).trans ((same_new hc).trans (same_new hb)))) (by rw [List.map_append]; exact same_new hb _ _ upd_same) upd_same (by rw [List.length_append]; show x1.length + 1 + x2.length ≤ _; omega)
    refine ⟨_, rfl, rfl, _, rfl, ite2 (fun _ => ?_) (fun _ => ?_)⟩
    · refine ⟨_, rfl, _, rfl, at_, rfl, p, _, rfl, SqL.of hp5, fun qa ha => ⟨_, rfl, _, rfl, at_, rfl, _, rfl, _, _, rfl, rfl, _, rfl, p, _, rfl, SqL.of (same_new ha _ _ hp5), fun qo ho => ⟨qa, qo, _, _, rfl, rfl, same_new ho _ _ upd_same, upd_same, by rw [c1, c4, List.length_map, List.length_map]; omega, fun qc hc => ?_⟩⟩⟩
      refine ⟨_, rfl, _, rfl, at_, rfl, p, _, rfl, SqL.of (same_new hc _ _ (same_new ho _ _ (same_new ha _ _ hp5))), fun qb hb => ?_⟩
      rw [c1, c3, c4] at *
      exact fin _ qc qb (x1 ++ x4) x3 ((same_new ha).trans ((same_new ho).trans ((same_new hc).trans (same_new hb)))) (by rw [List.map_append]; exact same_new hb _ _ upd_same) upd_same (by rw [List.length_append]; omega)
    refine ⟨_, rfl, rfl, _, rfl, ite2 (fun _ => ?_) (fun _ => ?_)⟩
    · refine ⟨_, rfl, _, rfl, at_, rfl, p, _, rfl, SqL.of hp5, fun qa ha => ⟨_, rfl, _, rfl, at_, rfl, p, _, rfl, SqL.of (same_new ha _ _ hp5), fun qo ho => ?_⟩⟩
      refine ⟨qo, _, rfl, SqL.of upd_same, fun qr hr => ?_⟩
      rw [c1, c3] at *
      rw [← List.map_reverse]
      exact fin _ qa qr x1 x3.reverse ((same_new ha).trans ((same_new ho).trans (same_new hr))) (same_new hr _ _ (same_new ho _ _ upd_same)) upd_same (by rw [List.length_reverse]; omega)
    · exact ⟨_, rfl, k H5 p rs hp5 (by omega) (tp5.le (by omega)) k05⟩
end

/-! ### what the data are -/
theorem lay_ints : ∀ l : List Int, PyData.canLayAll0 (l.map PyData.int) = true
  | [] => rfl
  | x :: r => by
    rw [List.map_cons, PyData.canLayAll0, lay_ints r]
    rfl
theorem dep_ints : ∀ l : List Int, PyData.depthAll (l.map PyData.int) ≤ 0
  | [] => Nat.le_refl _
  | x :: r => by
    rw [List.map_cons, PyData.depthAll]
    exact Nat.max_le.mpr ⟨Nat.le_refl _, dep_ints r⟩
def tupD (c : List Int) : PyData := .tuple (c.map PyData.int)
def lstD (c : List Int) : PyData := .list (c.map PyData.int)
theorem lay_tup (c : List Int) : (tupD c).canLay0 = true := by
  unfold tupD
  rw [PyData.canLay0]
  exact lay_ints c
theorem lay_lst (c : List Int) : (lstD c).canLay0 = true := by
  unfold lstD
  rw [PyData.canLay0]
  exact lay_ints c
theorem dep_tup (c : List Int) : (tupD c).depth ≤ 1 := by
  unfold tupD
  rw [PyData.depth]
  exact Nat.succ_le_succ (dep_ints c)
theorem dep_lst (c : List Int) : (lstD c).depth ≤ 1 := by
  unfold lstD
  rw [PyData.depth]
  exact Nat.succ_le_succ (dep_ints c)
theorem lay_tups : ∀ cs : List (List Int), PyData.canLayAll0 (cs.map tupD) = true
  | [] => rfl
  | x :: r => by
    rw [List.map_cons, PyData.canLayAll0, lay_tups r, lay_tup]
    rfl
theorem dep_tups : ∀ cs : List (List Int), PyData.depthAll (cs.map tupD) ≤ 1
  | [] => Nat.zero_le _
  | x :: r => by
    rw [List.map_cons, PyData.depthAll]
    exact Nat.max_le.mpr ⟨dep_tup x, dep_tups r⟩
def tupsD (cs : List (List Int)) : PyData := .list (cs.map tupD)
theorem lay_tupsD (cs : List (List Int)) : (tupsD cs).canLay0 = true := by
  unfold tupsD
  rw [PyData.canLay0]
  exact lay_tups cs
theorem dep_tupsD (cs : List (List Int)) : (tupsD cs).depth ≤ 2 := by
  unfold tupsD
  rw [PyData.depth]
  exact Nat.succ_le_succ (dep_tups cs)
def allD (cs : List (List Int)) (ps rs : List Int) : PyData := .list [tupsD cs, lstD ps, lstD rs]
theorem lay_all (cs : List (List Int)) (ps rs : List Int) : (allD cs ps rs).canLay0 = true := by
  unfold allD
  simp only [PyData.canLay0, PyData.canLayAll0, lay_tupsD, lay_lst, Bool.and_self]
theorem dep_all (cs : List (List Int)) (ps rs : List Int) : (allD cs ps rs).depth ≤ 3 := by
  unfold allD
  simp only [PyData.depth, PyData.depthAll]
  have h1 := dep_tupsD cs
  have h2 := dep_lst ps
  have h3 := dep_lst rs
  omega
theorem shape_all (cs : List (List Int)) (ps rs : List Int) : SeqAt.shaped (allD cs ps rs) = true := by
  unfold SeqAt.shaped
  rw [lay_all, decide_eq_true (Nat.le_trans (dep_all cs ps rs) (by decide))]
  rfl
section
variable {K : PySem.W.Frag} {H : Hp}
theorem dp_ints : ∀ l : List Int, DpAll K H (l.map V.int) (l.map PyData.int)
  | [] => .nil
  | x :: r => .cons (.int x) (dp_ints r)
theorem dp_lst {a : Addr} {l : List Int} (h : H a = some (.lst (l.map V.int))) : Dp K H (.ref a) (lstD l) := .lst (SqL.of h) (dp_ints l)
theorem dp_tups : ∀ {qs : List Addr} {cs : List (List Int)}, qs.length = cs.length → (∀ (i : Nat) q c, qs[i]? = some q → cs[i]? = some c → H q = some (.tup (c.map V.int))) → DpAll K H (qs.map V.ref) (cs.map tupD)
  | [], [], _, _ => .nil
  | [], _ :: _, n, _ => absurd n (by simp)
  | _ :: _, [], n, _ => absurd n (by simp)
  | q :: qs, c :: cs, n, t => .cons (.tup (SqT.of (t 0 q c rfl rfl)) (dp_ints c)) (dp_tups (Nat.succ.inj n) fun i q c hq hc => t (i + 1) q c hq hc)
theorem Cs.dp {a : Addr} {qs : List Addr} {cs : List (List Int)} (h : Cs H a qs cs) : Dp K H (.ref a) (tupsD cs) := .lst (SqL.of h.l) (dp_tups h.n h.t)
theorem dp_all {a x y z : Addr} {qs : List Addr} {cs : List (List Int)} {ps rs : List Int} (h : H a = some (.lst [.ref x, .ref y, .ref z])) (hx : Cs H x qs cs) (hy : H y = some (.lst (ps.map V.int))) (hz : H z = some (.lst (rs.map V.int))) :
    Dp K H (.ref a) (allD cs ps rs) := .lst (SqL.of h) (.cons hx.dp (.cons (dp_lst hy) (.cons (dp_lst hz) .nil)))
end
/-- another list of the same clauses -/
theorem Cs.copy {H : Hp} {a b : Addr} {qs : List Addr} {cs : List (List Int)} (h : Cs H a qs cs) (hb : H b = some (.lst (qs.map V.ref))) : Cs H b qs cs := ⟨hb, h.n, h.t⟩
/-! ### the law -/
def spLaw (K : PySem.W.Frag) : Sp := fun vs H Q _ => ∃ (a : Addr) (ns : List Int), vs = [.ref a] ∧ SqL K H a (ns.map V.int) ∧ ns.length ≤ 63 ∧ ∀ H', Q (.bl true) H'
section
variable {P : Program} {w : World} {K : PySem.W.Frag} {mg : Str → Option Value} {base : Heap}
theorem ok_law {f : Addr} {fd : FuncData} (F : Fun K "law" "law" s_law f fd) (T : Top K mg) (h__law_begun : Has P w K mg base 1 "_law_begun" ["_law_script"] (spBegun K)) (h__law_draw : Has P w K mg base 1 "_law_draw" ["_law_tape", "_law_many"] spDraw)
    (h__law_pick : Has P w K mg base 2 "_law_pick" ["_law_tape", "_law_some"] (spPick K)) (h__law_far_marks : Has P w K mg base 3 "_law_far_marks" ["_law_tape", "_law_many"] spFar) (h__law_system : Has P w K mg base 3 "_law_system" ["_law_tape", "_law_marks", "_law_many"] spSys)
    (h__law_puts : Has P w K mg base 3 "_law_puts" ["_law_tape", "_law_marks"] spPuts) (h__law_gone : Has P w K mg base 3 "_law_gone" ["_law_tape", "_law_clauses", "_law_puts_here"] spGone) (h__law_bent : Has P w K mg base 3 "_law_bent" ["_law_tape", "_law_rows", "_law_many"] spBent)
    (h_is_shown : Has P w K mg base 3 "is_shown" ["clauses", "puts", "rows", "mark"] spShown) (h__law_shows : Has P w K mg base 1 "_law_shows" ["_law_clauses", "_law_puts_here", "_law_rows", "_law_mark"] spShown) :
    FnOk P w K mg base CX0 4 f fd ["_law_script"] (spLaw K) := by
  refine F.ok sc_law (fun vs H Q E h => ?_) (fun cdv A outer s H vs Q E hr h => ?_)
  · obtain ⟨a, ns, rfl, _⟩ := h
    rfl
  · have hu := hu_of hr
    have nd := sc_law.nd
    obtain ⟨a, ns, rfl, hS, hl, k⟩ := h
    refine ⟨_, (pss_cons (ps_set (i := 1) nd rfl (.inl rfl) (pe_has h__law_begun (hr.mono (by omega)) (by rfl) (pa_cons (pv 0) pa_nil)))
    (pss_cons (ps_for PassesOwn.never rfl (pi_range1 (by rfl) T.b_range (pa_cons (pe_op op_add pe_int (pe_callB (call_min2 rfl) (by rfl) T.b_min (by decide +kernel) (pa_cons pe_int (pa_cons (pe_callB call_len_seq (by rfl) T.b_len (by decide +kernel) (pa_cons (pv 0) pa_nil)) pa_nil)))) pa_nil)) (pg_name (i := 2) nd rfl (.inl rfl))
      (pss_cons (ps_set (i := 3) nd rfl (.inl rfl) (pe_has h__law_far_marks (hr.mono (by omega)) (by rfl) (pa_cons (pv 1) (pa_cons (pe_op op_add pe_int (pe_has h__law_draw (hr.mono (by omega)) (by rfl) (pa_cons (pv 1) (pa_cons pe_int pa_nil)))) pa_nil))))
    (pss_cons (ps_set (i := 4) nd rfl (.inl rfl) (pe_has h__law_system (hr.mono (by omega)) (by rfl) (pa_cons (pv 1) (pa_cons (pv 3) (pa_cons (pe_has h__law_draw (hr.mono (by omega)) (by rfl) (pa_cons (pv 1) (pa_cons pe_int pa_nil))) pa_nil)))))
    (pss_cons (ps_set (i := 5) nd rfl (.inl rfl) (pe_slice sl_list (pe_has h__law_puts (hr.mono (by omega)) (by rfl) (pa_cons (pv 1) (pa_cons (pv 3) pa_nil))) po_none (po_some (pe_has h__law_draw (hr.mono (by omega)) (by rfl) (pa_cons (pv 1) (pa_cons pe_int pa_nil))))))
    (pss_one (ps_for PassesOwn.never rfl (pi_range1 (by rfl) T.b_range (pa_cons pe_int pa_nil)) (pg_name (i := 6) nd rfl (.inl rfl))
      (pss_cons (ps_set (i := 7) nd rfl (.inl rfl) (pe_has h__law_bent (hr.mono (by omega)) (by rfl) (pa_cons (pv 1) (pa_cons (pe_has h__law_gone (hr.mono (by omega)) (by rfl) (pa_cons (pv 1) (pa_cons (pv 4) (pa_cons (pv 5) pa_nil)))) (pa_cons (pe_callB call_len_seq (by rfl) T.b_len (by decide +kernel) (pa_cons (pv 4) pa_nil)) pa_nil)))))
    (pss_cons (ps_set (i := 8) nd rfl (.inl rfl) (pe_lst pa_nil))
    (pss_cons (ps_for PassesOwn.never rfl (pi_list (pe_slice sl_list (pv 7) (po_some (pe_un un_neg pe_int)) po_none)) (pg_name (i := 9) nd rfl (.inl rfl))
      (pss_one (ps_set (i := 8) nd rfl (.inl rfl) (pe_ifExp (pt_chain op_le op_lt pe_int (pv 9) (pe_callB call_len_seq (by rfl) T.b_len (by decide +kernel) (pa_cons (pv 4) pa_nil))) (pe_callTy call_list_of (by rfl) T.b_list (by decide +kernel) (pa_cons (pe_ix ix_list (pv 4) (pv 9) (fun _ _ => rfl)) pa_nil)) (pe_lst pa_nil)))))
    (pss_cons (ps_set (i := 10) nd rfl (.inl rfl) (pe_has h__law_pick (hr.mono (by omega)) (by rfl) (pa_cons (pv 1) (pa_cons (pe_op op_cat (pe_op op_cat (pe_op op_cat (pe_lst (pa_cons pe_non pa_nil)) (pv 8)) (pv 5)) (pe_lst (pa_cons (pe_has h__law_pick (hr.mono (by omega)) (by rfl) (pa_cons (pv 1) (pa_cons (pv 3) pa_nil))) (pa_cons (pe_op op_sub pe_int (pe_has h__law_pick (hr.mono (by omega)) (by rfl) (pa_cons (pv 1) (pa_cons (pv 3) pa_nil)))) pa_nil)))) pa_nil))))
    (pss_cons (ps_set (i := 11) nd rfl (.inl rfl) (pe_lst (pa_cons (pe_callTy call_list_of (by rfl) T.b_list (by decide +kernel) (pa_cons (pv 4) pa_nil)) (pa_cons (pe_callTy call_list_of (by rfl) T.b_list (by decide +kernel) (pa_cons (pv 5) pa_nil)) (pa_cons (pe_callTy call_list_of (by rfl) T.b_list (by decide +kernel) (pa_cons (pv 7) pa_nil)) pa_nil)))))
    (pss_cons (ps_set (i := 12) nd rfl (.inl rfl) (pe_has h_is_shown (hr.mono (by omega)) (by rfl) (pa_cons (pe_ix ix_list (pv 11) pe_int (fun _ _ => rfl)) (pa_cons (pe_ix ix_list (pv 11) pe_int (fun _ _ => rfl)) (pa_cons (pe_ix ix_list (pv 11) pe_int (fun _ _ => rfl)) (pa_cons (pv 10) pa_nil))))))
    (pss_one (ps_if (PW.pt (pw_or (pt_cmpR op_ne (pe_callB call_repr_bool (by rfl) T.b_repr (by decide +kernel) (pa_cons (pv 12) pa_nil)) (pe_callB call_repr_bool (by rfl) T.b_repr (by decide +kernel) (pa_cons (pe_has h__law_shows (hr.mono (by omega)) (by rfl) (pa_cons (pv 4) (pa_cons (pv 5) (pa_cons (pv 7) (pa_cons (pv 10) pa_nil))))) pa_nil)) (nomark _)) (pw_or1 (pt_cmpR (op_neD hr.units) (pv 11) (pe_lst (pa_cons (pv 4) (pa_cons (pv 5) (pa_cons (pv 7) pa_nil)))) (nomark _))))) (pss_one (ps_ret pe_bl)) pss_nil))))))))))))))
    (pss_one (ps_ret pe_bl)))), ?_⟩
    have line : 1000000 < sizeLine := by decide
    refine ⟨_, rfl, a, ns, rfl, hS, hl, fun H1 t c ht hc sm tp => ?_⟩
    refine ⟨_, rfl, a, _, rfl, .inl (sm.seq hS), _, _, rfl, _, _, rfl, rfl, _, rfl, ?_, ?_, for_range (lo := 0) (fun i σ H2 => ∃ v2 v3 v4 v5 v6 v7 v8 v9 v10 v11 v12, σ = [some (.ref a), some (.ref t), v2, v3, v4, v5, v6, v7, v8, v9, v10, v11, v12] ∧ Tape H2 t c (2000 * i)) ⟨none, none, none, none, none, none, none, none, none, none, none, rfl, tp⟩ ?_ ?_⟩
    · split <;> omega
    · split <;> omega
    · rintro i σ H2 hi ⟨v2, v3, v4, v5, v6, v7, v8, v9, v10, v11, v12, rfl, tp2⟩
      have hi2 : i < 8 := by
        rw [List.length_map] at hi
        split at hi <;> omega
      -- the marks
      refine ⟨_, rfl, _, rfl, t, c, _, _, rfl, tp2, by omega, by decide, by decide +kernel, fun H3 r3 a3 b3 tp3 kp3 => ⟨_, _, rfl, rfl, t, c, _, _, rfl, tp3, by omega, by omega, by omega, fun H4 M ms fM hM lM tp4 kp4 => ?_⟩⟩
      -- the clauses
      refine ⟨_, rfl, _, rfl, _, rfl, t, c, _, _, rfl, tp4, by omega, by decide, by decide +kernel, fun H5 r5 a5 b5 tp5 kp5 => ⟨t, c, M, ms, r5, _, rfl, tp5, by omega, a5, by omega, tp4.sq hM kp5, by omega, by omega, fun H6 G qs cs fG hG wG lG tp6 kp6 => ?_⟩⟩
      have h6M := tp4.sq hM (kp5.trans kp6)
      -- the puts
      refine ⟨_, rfl, _, rfl, t, c, M, ms, _, rfl, tp6, by omega, h6M, by omega, fun H7 PA ys fP hP lP tp7 kp7 => ⟨_, rfl, t, c, _, _, rfl, tp7, by omega, by decide, by decide +kernel, fun H8 r8 a8 b8 tp8 kp8 => ⟨_, rfl, PA, _, rfl, SqL.of (tp7.sq hP kp8), fun PU fPU => ?_⟩⟩⟩
      obtain ⟨ps, eps, lps⟩ := cut_ints ys none (some r8)
      rw [eps]
      have h9P : (upd H8 PU (.lst (ps.map V.int))) PU = some (.lst (ps.map V.int)) := upd_same
      have t9 : Tape (upd H8 PU (.lst (ps.map V.int))) t c (2000 * i + 1600) := (tp8.new fPU).le (by omega)
      have k89 : Kp t H8 (upd H8 PU (.lst (ps.map V.int))) := Kp.new fPU
      have h9M := (tp6.sq h6M (kp7.trans kp8)) |> fun h => tp8.sq h k89
      have c9 := tp6.cs hG (kp7.trans (kp8.trans k89))
      generalize upd H8 PU (.lst (ps.map V.int)) = H9 at h9P t9 h9M c9
      clear k89 kp8 tp8 kp7 tp7 hP fP h6M kp6 tp6 kp5 tp5 kp4 tp4 kp3 tp3 hM fM hG fG fPU eps
      have lq := c9.n
      refine ⟨3, rfl, by decide, by decide, for_range (lo := 0) (fun j σ H' => ∃ v6 v7 v8 v9 v10 v11 v12, σ = [some (.ref a), some (.ref t), some (.int (0 + i)), some (.ref M), some (.ref G), some (.ref PU), v6, v7, v8, v9, v10, v11, v12] ∧ Kp t H9 H' ∧ Tape H' t c (2000 * i + 1600 + 100 * j)) ⟨v6, v7, v8, v9, v10, v11, v12, rfl, Kp.refl _, t9⟩ ?_ ?_⟩
      · rintro j σ H10 hj ⟨u6, u7, u8, u9, u10, u11, u12, rfl, k10, t10⟩
        have hj2 : j < 3 := hj
        have c10 := t9.cs c9 k10
        -- the rows
        refine ⟨_, rfl, _, rfl, _, rfl, _, rfl, t, c, G, PU, qs, cs, ps, _, rfl, t10, by omega, c10, wG, by omega, t9.sq h9P k10, by omega, fun H11 R0 rs0 fR0 hR0 lR0 tp11 kp11 => ?_⟩
        have c11 := t10.cs c10 kp11
        refine ⟨_, rfl, G, _, rfl, .inl (SqL.of c11.l), t, c, R0, rs0, _, _, rfl, tp11, by omega, hR0, by omega, by omega, by rw [List.length_map]; omega, fun H12 R rs hR lR tp12 kp12 => ?_⟩
        have k12 : Kp t H9 H12 := k10.trans (kp11.trans kp12)
        have c12 := t9.cs c9 k12
        have h12P := t9.sq h9P k12
        have h12M := t9.sq h9M k12
        -- the ends
        refine ⟨by show 0 ≤ sizeLine; decide, fun E0' fE => ?_⟩
        obtain ⟨ls, els, lls⟩ := cut_ints rs (some (-1)) none
        refine ⟨_, rfl, _, rfl, -1, rfl, R, _, rfl, SqL.of (same_new fE _ _ hR), fun L fL => ?_⟩
        rw [els]
        have s13 : Same H12 (upd (upd H12 E0' (.lst [])) L (.lst (ls.map V.int))) := (same_new fE).trans (same_new fL)
        have h13E : (upd (upd H12 E0' (.lst [])) L (.lst (ls.map V.int))) E0' = some (.lst (([] : List Int).map V.int)) := same_new fL _ _ upd_same
        have h13L : (upd (upd H12 E0' (.lst [])) L (.lst (ls.map V.int))) L = some (.lst (ls.map V.int)) := upd_same
        generalize upd (upd H12 E0' (.lst [])) L (.lst (ls.map V.int)) = H13 at s13 h13E h13L
        have c13 := c12.same s13
        refine ⟨L, rfl, ⟨_, SqL.of h13L⟩, for_list (K := K) (a := L) (xs := ls.map V.int) (fun l σ H' => ∃ (w8 : Addr) (w9 : Option V) (es : List Int), σ = [some (.ref a), some (.ref t), some (.int (0 + i)), some (.ref M), some (.ref G), some (.ref PU), some (.int (0 + j)), some (.ref R), some (.ref w8), w9, u10, u11, u12] ∧ Same H13 H' ∧
          H' w8 = some (.lst (es.map V.int)) ∧ es.length ≤ 5) ⟨E0', u9, [], rfl, Same.refl _, h13E, by show 0 ≤ 5; decide⟩ ?_ ?_ ?_⟩
        · rintro l σ H' _ ⟨_, _, _, _, s', _⟩
          exact SqL.of (s' _ _ h13L)
        · rintro l x σ H14 hl2 ⟨w8, w9, es, rfl, s14, h14E, les⟩
          obtain ⟨r, rfl, _⟩ := int_at hl2
          have c14 := c13.same s14
          refine ⟨_, rfl, _, _, rfl, rfl, _, rfl, ite2 (fun h0 => ?_) (fun h0 => ?_)⟩
          · refine ⟨_, rfl, G, _, rfl, .inl (SqL.of c14.l), _, _, rfl, rfl, _, rfl, ?_⟩
            rw [List.length_map, c14.n]
            by_cases h1 : r < (cs.length : Int)
            · rw [decide_eq_true h1]
              obtain ⟨x, hx⟩ := clAt_in (of_decide_eq_true h0) h1
              obtain ⟨q, eq, hq⟩ := c14.at hx
              refine iteT ⟨_, rfl, _, rfl, G, _, _, _, rfl, rfl, SqL.of c14.l, eq, q, _, rfl, .inr (SqT.of hq), fun E2 fE2 => ?_⟩
              exact ⟨E2, _, x, rfl, s14.trans (same_new fE2), upd_same, wG x (List.mem_of_getElem? (clAt_some hx).2.2)⟩
            · rw [decide_eq_false h1]
              exact iteF ⟨by show 0 ≤ sizeLine; decide, fun E2 fE2 => ⟨E2, _, [], rfl, s14.trans (same_new fE2), upd_same, by show 0 ≤ 5; decide⟩⟩
          · exact ⟨_, rfl, iteF ⟨by show 0 ≤ sizeLine; decide, fun E2 fE2 => ⟨E2, _, [], rfl, s14.trans (same_new fE2), upd_same, by show 0 ≤ 5; decide⟩⟩⟩
        · rintro σ H14 ⟨EE, w9, es, rfl, s14, h14E, les⟩
          have s12 := s13.trans s14
          have t14 := tp12.same s12
          have c14 := c12.same s12
          have h14P := s12 _ _ h12P
          have h14M := s12 _ _ h12M
          have h14R := s12 _ _ hR
          have k14 := k12.trans (Kp.same s12)
          -- what is asked
          refine ⟨_, rfl, by show 1 ≤ sizeLine; decide, fun e1 g1 => ⟨_, rfl, e1, EE, _, _, rfl, rfl, upd_same, same_new g1 _ _ h14E, by rw [List.length_map]; show 1 + es.length ≤ sizeLine; omega, fun e2 g2 => ⟨_, rfl, e2, PU, _, _, rfl, rfl, upd_same, same_new g2 _ _ (same_new g1 _ _ h14P), by
            rw [List.length_append, List.length_map, List.length_map]
            show 1 + es.length + ps.length ≤ sizeLine
            omega, fun e3 g3 => ?_⟩⟩⟩
          have s15 : Same H14 (upd (upd (upd H14 e1 (.lst [V.non])) e2 (.lst ([V.non] ++ es.map V.int))) e3 (.lst ([V.non] ++ es.map V.int ++ ps.map V.int))) := (same_new g1).trans ((same_new g2).trans (same_new g3))
          have h15 : (upd (upd (upd H14 e1 (.lst [V.non])) e2 (.lst ([V.non] ++ es.map V.int))) e3 (.lst ([V.non] ++ es.map V.int ++ ps.map V.int))) e3 = some (.lst ([V.non] ++ es.map V.int ++ ps.map V.int)) := upd_same
          generalize upd (upd (upd H14 e1 (.lst [V.non])) e2 (.lst ([V.non] ++ es.map V.int))) e3 (.lst ([V.non] ++ es.map V.int ++ ps.map V.int)) = H15 at s15 h15
          have t15 := t14.same s15
          have h15M := s15 _ _ h14M
          refine ⟨_, rfl, _, rfl, t, c, M, _, _, rfl, t15, by omega, fun H' kp => .inl (SqL.of (t15.sq h15M kp)), by rw [List.length_map]; omega, by rw [List.length_map]; omega, fun H16 i16 v16 g16 tp16 kp16 => ?_⟩
          obtain ⟨z16, rfl, _⟩ := pick_int g16
          have h16M := t15.sq h15M kp16
          refine ⟨_, rfl, _, rfl, t, c, M, _, _, rfl, tp16, by omega, fun H' kp => .inl (SqL.of (tp16.sq h16M kp)), by rw [List.length_map]; omega, by rw [List.length_map]; omega, fun H17 i17 v17 g17 tp17 kp17 => ?_⟩
          obtain ⟨z17, rfl, _⟩ := pick_int g17
          have h17 := t15.sq h15 (kp16.trans kp17)
          have zz : ([V.non] ++ es.map V.int ++ ps.map V.int).length = 1 + es.length + ps.length := by
            rw [List.length_append, List.length_append, List.length_map, List.length_map]
            rfl
          refine ⟨_, _, rfl, rfl, by show 2 ≤ sizeLine; decide, fun e4 g4 => ⟨e3, e4, _, _, rfl, rfl, same_new g4 _ _ h17, upd_same, by rw [zz]; show 1 + es.length + ps.length + 2 ≤ sizeLine; omega, fun e5 g5 => ?_⟩⟩
          have t18 := (tp17.new (o := .lst [V.int z16, V.int (0 - z17)]) g4).new (o := .lst ([V.non] ++ es.map V.int ++ ps.map V.int ++ [V.int z16, V.int (0 - z17)])) g5
          refine ⟨t, c, e5, _, _, rfl, t18, by omega, fun H' kp => .inl (SqL.of (kp e5 _ upd_same ((tp17.new g4).fresh g5))), by rw [List.length_append, zz]; show 0 < 1 + es.length + ps.length + 2; omega, by rw [List.length_append, zz]; show 1 + es.length + ps.length + 2 ≤ 1000000; omega, fun H19 i19 v19 g19 tp19 kp19 => ?_⟩
          have mv : ∃ m, v19 = optV m := by
            have m2 := List.mem_of_getElem? g19
            rcases List.mem_append.mp m2 with m2 | m2
            · rcases List.mem_append.mp m2 with m2 | m2
              · rcases List.mem_append.mp m2 with m2 | m2
                · exact ⟨none, List.mem_singleton.mp m2⟩
                · obtain ⟨z, _, rfl⟩ := List.mem_map.mp m2
                  exact ⟨some z, rfl⟩
              · obtain ⟨z, _, rfl⟩ := List.mem_map.mp m2
                exact ⟨some z, rfl⟩
            · simp only [List.mem_cons, List.not_mem_nil, or_false] at m2
              rcases m2 with rfl | rfl
              · exact ⟨some z16, rfl⟩
              · exact ⟨some (0 - z17), rfl⟩
          obtain ⟨m, rfl⟩ := mv
          have k14' : Kp t H14 H19 := (Kp.same s15).trans (kp16.trans (kp17.trans ((Kp.new g4).trans ((Kp.new g5).trans kp19))))
          have k19 := k14.trans k14'
          have c19 := t14.cs c14 k14'
          have h19P := t14.sq h14P k14'
          have h19R := t14.sq h14R k14'
          clear k14' g19 t18 g5 g4 zz h17 g17 tp17 kp17 h16M g16 kp16 tp16 h15M t15 h15 s15 g3 g2 g1
          -- the copies
          refine ⟨_, rfl, G, _, rfl, .inl (SqL.of c19.l), fun A1 f1 => ⟨_, rfl, PU, _, rfl, .inl (SqL.of (same_new f1 _ _ h19P)), fun A2 f2 => ⟨_, rfl, R, _, rfl, .inl (SqL.of (same_new f2 _ _ (same_new f1 _ _ h19R))), fun A3 f3 => ⟨by show 3 ≤ sizeLine; decide, fun CC f4 => ?_⟩⟩⟩⟩
          have s20 : Same H19 (upd (upd (upd (upd H19 A1 (.lst (qs.map V.ref))) A2 (.lst (ps.map V.int))) A3 (.lst (rs.map V.int))) CC (.lst [V.ref A1, V.ref A2, V.ref A3])) := (same_new f1).trans ((same_new f2).trans ((same_new f3).trans (same_new f4)))
          have p1 : (upd (upd (upd (upd H19 A1 (.lst (qs.map V.ref))) A2 (.lst (ps.map V.int))) A3 (.lst (rs.map V.int))) CC (.lst [V.ref A1, V.ref A2, V.ref A3])) A1 = some (.lst (qs.map V.ref)) := same_new f4 _ _ (same_new f3 _ _ (same_new f2 _ _ upd_same))
          have p2 : (upd (upd (upd (upd H19 A1 (.lst (qs.map V.ref))) A2 (.lst (ps.map V.int))) A3 (.lst (rs.map V.int))) CC (.lst [V.ref A1, V.ref A2, V.ref A3])) A2 = some (.lst (ps.map V.int)) := same_new f4 _ _ (same_new f3 _ _ upd_same)
          have p3 : (upd (upd (upd (upd H19 A1 (.lst (qs.map V.ref))) A2 (.lst (ps.map V.int))) A3 (.lst (rs.map V.int))) CC (.lst [V.ref A1, V.ref A2, V.ref A3])) A3 = some (.lst (rs.map V.int)) := same_new f4 _ _ upd_same
          have p4 : (upd (upd (upd (upd H19 A1 (.lst (qs.map V.ref))) A2 (.lst (ps.map V.int))) A3 (.lst (rs.map V.int))) CC (.lst [V.ref A1, V.ref A2, V.ref A3])) CC = some (.lst [V.ref A1, V.ref A2, V.ref A3]) := upd_same
          generalize upd (upd (upd (upd H19 A1 (.lst (qs.map V.ref))) A2 (.lst (ps.map V.int))) A3 (.lst (rs.map V.int))) CC (.lst [V.ref A1, V.ref A2, V.ref A3]) = H20 at s20 p1 p2 p3 p4
          have c20 := c19.same s20
          have cA := c20.copy p1
          have wide : ∀ c ∈ cs, c.length ≤ 1000 := fun x hx => Nat.le_trans (wG x hx) (by decide)
          -- what is told
          refine ⟨_, rfl, CC, _, _, _, rfl, rfl, SqL.of p4, atI_nat (j := 0) rfl, _, rfl, CC, _, _, _, rfl, rfl, SqL.of p4, atI_nat (j := 1) rfl, _, rfl, CC, _, _, _, rfl, rfl, SqL.of p4, atI_nat (j := 2) rfl, _, rfl, A1, A3, A2, m, ps, rs, qs, cs, rfl, cA, p3, p2, wide, by omega, fun H21 s21 => ?_⟩
          refine ⟨_, rfl, _, rfl, _, rfl, _, rfl, _, rfl, _, rfl, G, R, PU, m, ps, rs, qs, cs, rfl, c20.same s21, s21 _ _ (s20 _ _ h19R), s21 _ _ (s20 _ _ h19P), wide, by omega, fun H22 s22 => ?_⟩
          have s20' : Same H20 H22 := s21.trans s22
          refine ⟨_, rfl, rfl, _, rfl, iteNS rfl ⟨_, rfl, _, rfl, _, rfl, _, rfl, by show 3 ≤ sizeLine; decide, fun DD f5 => ?_⟩⟩
          have s23 := s20'.trans (same_new (o := .lst [V.ref G, V.ref PU, V.ref R]) f5)
          refine ⟨allD cs ps rs, allD cs ps rs, dp_all (s23 _ _ p4) (cA.same s23) (s23 _ _ p2) (s23 _ _ p3), dp_all upd_same (c20.same s23) (s23 _ _ (s20 _ _ h19P)) (s23 _ _ (s20 _ _ h19R)), shape_all cs ps rs, shape_all cs ps rs, _, rfl, ?_⟩
          rw [SeqAt.eqv_refl _ (lay_all cs ps rs)]
          have s24 := s20.trans s23
          exact iteF ⟨_, _, _, _, _, _, _, rfl, k19.trans (Kp.same s24), (tp19.same s24).le (by omega)⟩
      · rintro σ H10 ⟨u6, u7, u8, u9, u10, u11, u12, rfl, k10, t10⟩
        exact ⟨_, _, _, _, _, _, _, _, _, _, _, rfl, t10.le (by omega)⟩
    · rintro σ H2 ⟨v2, v3, v4, v5, v6, v7, v8, v9, v10, v11, v12, rfl, tp2⟩
      exact k H2
theorem law_fn {f : Addr} {fd : FuncData} (T : Top K mg) (F : Fun K "law" "law" s_law f fd) : FnOk P w K mg base CX0 4 f fd ["_law_script"] (spLaw K) :=
  ok_law F T (has_begun T) (has_draw T) (has_pick T (has_draw T)) (has_far T (has_draw T) (has_pick T (has_draw T))) (has_sys T (has_draw T) (has_pick T (has_draw T))) (has_puts T (has_draw T) (has_pick T (has_draw T))) (has_gone T (has_pick T (has_draw T))) (has_bent T (has_draw T) (has_pick T (has_draw T)))
    (has_shown T (has_bring T (has_num T) (has_left T)) (has_broken T (has_num T) (has_left T))) (has_lshows T)
end

theorem all_mk {l : PySem.W.OpenLaw} {w : World} {K : PySem.W.Frag} {h : Heap} {mg : Str → Option Value} {fa : Addr} (X : K.In h) (G : h.Ns mainGlobals mg) (hfa : mg "law" = some (.ref fa))
    {f0 : Addr} {od0 an0 : Option Addr} {sl0 : Array (Option Value)} {oc0 kV0 dc0 pm0 cd0 ct0 : Value}
    (a0 : PySem.W.nsIn K mainGlobals "is_shown" = some (some (.ref f0))) (l0 : K.lookup f0 = some ⟨oc0, od0, .func (PySem.W.fnOf "is_shown" "is_shown" (defArgs s_is_shown) (defBody s_is_shown) (defScope s_is_shown) .none kV0 dc0 pm0 an0 cd0 ct0), sl0⟩) (cc0 : PySem.W.codeIn K cd0 "is_shown" = true) (k0 : PySem.W.keepIn K (.ref f0) = true)
    {f1 : Addr} {od1 an1 : Option Addr} {sl1 : Array (Option Value)} {oc1 kV1 dc1 pm1 cd1 ct1 : Value}
    (a1 : PySem.W.nsIn K mainGlobals "_bring_all" = some (some (.ref f1))) (l1 : K.lookup f1 = some ⟨oc1, od1, .func (PySem.W.fnOf "_bring_all" "_bring_all" (defArgs s__bring_all) (defBody s__bring_all) (defScope s__bring_all) .none kV1 dc1 pm1 an1 cd1 ct1), sl1⟩) (cc1 : PySem.W.codeIn K cd1 "_bring_all" = true) (k1 : PySem.W.keepIn K (.ref f1) = true)
    {f2 : Addr} {od2 an2 : Option Addr} {sl2 : Array (Option Value)} {oc2 kV2 dc2 pm2 cd2 ct2 : Value}
    (a2 : PySem.W.nsIn K mainGlobals "_is_broken" = some (some (.ref f2))) (l2 : K.lookup f2 = some ⟨oc2, od2, .func (PySem.W.fnOf "_is_broken" "_is_broken" (defArgs s__is_broken) (defBody s__is_broken) (defScope s__is_broken) .none kV2 dc2 pm2 an2 cd2 ct2), sl2⟩) (cc2 : PySem.W.codeIn K cd2 "_is_broken" = true) (k2 : PySem.W.keepIn K (.ref f2) = true)
    {f3 : Addr} {od3 an3 : Option Addr} {sl3 : Array (Option Value)} {oc3 kV3 dc3 pm3 cd3 ct3 : Value}
    (a3 : PySem.W.nsIn K mainGlobals "_is_number_of" = some (some (.ref f3))) (l3 : K.lookup f3 = some ⟨oc3, od3, .func (PySem.W.fnOf "_is_number_of" "_is_number_of" (defArgs s__is_number_of) (defBody s__is_number_of) (defScope s__is_number_of) .none kV3 dc3 pm3 an3 cd3 ct3), sl3⟩) (cc3 : PySem.W.codeIn K cd3 "_is_number_of" = true) (k3 : PySem.W.keepIn K (.ref f3) = true)
    {f4 : Addr} {od4 an4 : Option Addr} {sl4 : Array (Option Value)} {oc4 kV4 dc4 pm4 cd4 ct4 : Value}
    (a4 : PySem.W.nsIn K mainGlobals "_left_of" = some (some (.ref f4))) (l4 : K.lookup f4 = some ⟨oc4, od4, .func (PySem.W.fnOf "_left_of" "_left_of" (defArgs s__left_of) (defBody s__left_of) (defScope s__left_of) .none kV4 dc4 pm4 an4 cd4 ct4), sl4⟩) (cc4 : PySem.W.codeIn K cd4 "_left_of" = true) (k4 : PySem.W.keepIn K (.ref f4) = true)
    {f5 : Addr} {od5 an5 : Option Addr} {sl5 : Array (Option Value)} {oc5 kV5 dc5 pm5 cd5 ct5 : Value}
    (a5 : PySem.W.nsIn K mainGlobals "_law_begun" = some (some (.ref f5))) (l5 : K.lookup f5 = some ⟨oc5, od5, .func (PySem.W.fnOf "_law_begun" "_law_begun" (defArgs s__law_begun) (defBody s__law_begun) (defScope s__law_begun) .none kV5 dc5 pm5 an5 cd5 ct5), sl5⟩) (cc5 : PySem.W.codeIn K cd5 "_law_begun" = true) (k5 : PySem.W.keepIn K (.ref f5) = true)
    {f6 : Addr} {od6 an6 : Option Addr} {sl6 : Array (Option Value)} {oc6 kV6 dc6 pm6 cd6 ct6 : Value}
    (a6 : PySem.W.nsIn K mainGlobals "_law_draw" = some (some (.ref f6))) (l6 : K.lookup f6 = some ⟨oc6, od6, .func (PySem.W.fnOf "_law_draw" "_law_draw" (defArgs s__law_draw) (defBody s__law_draw) (defScope s__law_draw) .none kV6 dc6 pm6 an6 cd6 ct6), sl6⟩) (cc6 : PySem.W.codeIn K cd6 "_law_draw" = true) (k6 : PySem.W.keepIn K (.ref f6) = true)
    {f7 : Addr} {od7 an7 : Option Addr} {sl7 : Array (Option Value)} {oc7 kV7 dc7 pm7 cd7 ct7 : Value}
    (a7 : PySem.W.nsIn K mainGlobals "_law_pick" = some (some (.ref f7))) (l7 : K.lookup f7 = some ⟨oc7, od7, .func (PySem.W.fnOf "_law_pick" "_law_pick" (defArgs s__law_pick) (defBody s__law_pick) (defScope s__law_pick) .none kV7 dc7 pm7 an7 cd7 ct7), sl7⟩) (cc7 : PySem.W.codeIn K cd7 "_law_pick" = true) (k7 : PySem.W.keepIn K (.ref f7) = true)
    {f8 : Addr} {od8 an8 : Option Addr} {sl8 : Array (Option Value)} {oc8 kV8 dc8 pm8 cd8 ct8 : Value}
    (a8 : PySem.W.nsIn K mainGlobals "_law_far_marks" = some (some (.ref f8))) (l8 : K.lookup f8 = some ⟨oc8, od8, .func (PySem.W.fnOf "_law_far_marks" "_law_far_marks" (defArgs s__law_far_marks) (defBody s__law_far_marks) (defScope s__law_far_marks) .none kV8 dc8 pm8 an8 cd8 ct8), sl8⟩) (cc8 : PySem.W.codeIn K cd8 "_law_far_marks" = true) (k8 : PySem.W.keepIn K (.ref f8) = true)
    {f9 : Addr} {od9 an9 : Option Addr} {sl9 : Array (Option Value)} {oc9 kV9 dc9 pm9 cd9 ct9 : Value}
    (a9 : PySem.W.nsIn K mainGlobals "_law_system" = some (some (.ref f9))) (l9 : K.lookup f9 = some ⟨oc9, od9, .func (PySem.W.fnOf "_law_system" "_law_system" (defArgs s__law_system) (defBody s__law_system) (defScope s__law_system) .none kV9 dc9 pm9 an9 cd9 ct9), sl9⟩) (cc9 : PySem.W.codeIn K cd9 "_law_system" = true) (k9 : PySem.W.keepIn K (.ref f9) = true)
    {f10 : Addr} {od10 an10 : Option Addr} {sl10 : Array (Option Value)} {oc10 kV10 dc10 pm10 cd10 ct10 : Value}
    (a10 : PySem.W.nsIn K mainGlobals "_law_puts" = some (some (.ref f10))) (l10 : K.lookup f10 = some ⟨oc10, od10, .func (PySem.W.fnOf "_law_puts" "_law_puts" (defArgs s__law_puts) (defBody s__law_puts) (defScope s__law_puts) .none kV10 dc10 pm10 an10 cd10 ct10), sl10⟩) (cc10 : PySem.W.codeIn K cd10 "_law_puts" = true) (k10 : PySem.W.keepIn K (.ref f10) = true)
    {f11 : Addr} {od11 an11 : Option Addr} {sl11 : Array (Option Value)} {oc11 kV11 dc11 pm11 cd11 ct11 : Value}
    (a11 : PySem.W.nsIn K mainGlobals "_law_shows" = some (some (.ref f11))) (l11 : K.lookup f11 = some ⟨oc11, od11, .func (PySem.W.fnOf "_law_shows" "_law_shows" (defArgs s__law_shows) (defBody s__law_shows) (defScope s__law_shows) .none kV11 dc11 pm11 an11 cd11 ct11), sl11⟩) (cc11 : PySem.W.codeIn K cd11 "_law_shows" = true) (k11 : PySem.W.keepIn K (.ref f11) = true)
    {f12 : Addr} {od12 an12 : Option Addr} {sl12 : Array (Option Value)} {oc12 kV12 dc12 pm12 cd12 ct12 : Value}
    (a12 : PySem.W.nsIn K mainGlobals "_law_gone" = some (some (.ref f12))) (l12 : K.lookup f12 = some ⟨oc12, od12, .func (PySem.W.fnOf "_law_gone" "_law_gone" (defArgs s__law_gone) (defBody s__law_gone) (defScope s__law_gone) .none kV12 dc12 pm12 an12 cd12 ct12), sl12⟩) (cc12 : PySem.W.codeIn K cd12 "_law_gone" = true) (k12 : PySem.W.keepIn K (.ref f12) = true)
    {f13 : Addr} {od13 an13 : Option Addr} {sl13 : Array (Option Value)} {oc13 kV13 dc13 pm13 cd13 ct13 : Value}
    (a13 : PySem.W.nsIn K mainGlobals "_law_bent" = some (some (.ref f13))) (l13 : K.lookup f13 = some ⟨oc13, od13, .func (PySem.W.fnOf "_law_bent" "_law_bent" (defArgs s__law_bent) (defBody s__law_bent) (defScope s__law_bent) .none kV13 dc13 pm13 an13 cd13 ct13), sl13⟩) (cc13 : PySem.W.codeIn K cd13 "_law_bent" = true) (k13 : PySem.W.keepIn K (.ref f13) = true)
    {f14 : Addr} {od14 an14 : Option Addr} {sl14 : Array (Option Value)} {oc14 kV14 dc14 pm14 cd14 ct14 : Value}
    (a14 : PySem.W.nsIn K mainGlobals "law" = some (some (.ref f14))) (l14 : K.lookup f14 = some ⟨oc14, od14, .func (PySem.W.fnOf "law" "law" (defArgs s_law) (defBody s_law) (defScope s_law) .none kV14 dc14 pm14 an14 cd14 ct14), sl14⟩) (cc14 : PySem.W.codeIn K cd14 "law" = true) (k14 : PySem.W.keepIn K (.ref f14) = true)
    (z0 : PySem.W.nsIn K mainGlobals "len" = some none)
    (z1 : PySem.W.nsIn K mainGlobals "range" = some none)
    (z2 : PySem.W.nsIn K mainGlobals "list" = some none)
    (z3 : PySem.W.nsIn K mainGlobals "min" = some none)
    (z4 : PySem.W.nsIn K mainGlobals "tuple" = some none)
    (z5 : PySem.W.nsIn K mainGlobals "dict" = some none)
    (z6 : PySem.W.nsIn K mainGlobals "isinstance" = some none)
    (z7 : PySem.W.nsIn K mainGlobals "bool" = some none)
    (z8 : PySem.W.nsIn K mainGlobals "int" = some none)
    (z9 : PySem.W.nsIn K mainGlobals "max" = some none)
    (z10 : PySem.W.nsIn K mainGlobals "repr" = some none)
    : ∃ fd : FuncData, (∀ (s : Shared) (v : Value), BindsTo s fd ⟨[v], []⟩ [("_law_script", v)]) ∧ ∀ base : Heap, K.In base → base.Ns mainGlobals mg → FnOk l.prog w K mg base CX0 4 fa fd ["_law_script"] (spLaw K) := by
  have e := hfa.symm.trans (PySem.W.mg_of X G a14)
  cases e
  have T : Top K mg := ⟨⟨⟨_, _, PySem.W.mg_of X G a0, fun_mk (st := s_is_shown) l0 cc0 k0⟩⟩, ⟨⟨_, _, PySem.W.mg_of X G a1, fun_mk (st := s__bring_all) l1 cc1 k1⟩⟩, ⟨⟨_, _, PySem.W.mg_of X G a2, fun_mk (st := s__is_broken) l2 cc2 k2⟩⟩, ⟨⟨_, _, PySem.W.mg_of X G a3, fun_mk (st := s__is_number_of) l3 cc3 k3⟩⟩, ⟨⟨_, _, PySem.W.mg_of X G a4, fun_mk (st := s__left_of) l4 cc4 k4⟩⟩, ⟨⟨_, _, PySem.W.mg_of X G a5, fun_mk (st := s__law_begun) l5 cc5 k5⟩⟩, ⟨⟨_, _, PySem.W.mg_of X G a6, fun_mk (st := s__law_draw) l6 cc6 k6⟩⟩, ⟨⟨_, _, PySem.W.mg_of X G a7, fun_mk (st := s__law_pick) l7 cc7 k7⟩⟩, ⟨⟨_, _, PySem.W.mg_of X G a8, fun_mk (st := s__law_far_marks) l8 cc8 k8⟩⟩, ⟨⟨_, _, PySem.W.mg_of X G a9, fun_mk (st := s__law_system) l9 cc9 k9⟩⟩, ⟨⟨_, _, PySem.W.mg_of X G a10, fun_mk (st := s__law_puts) l10 cc10 k10⟩⟩, ⟨⟨_, _, PySem.W.mg_of X G a11, fun_mk (st := s__law_shows) l11 cc11 k11⟩⟩, ⟨⟨_, _, PySem.W.mg_of X G a12, fun_mk (st := s__law_gone) l12 cc12 k12⟩⟩, ⟨⟨_, _, PySem.W.mg_of X G a13, fun_mk (st := s__law_bent) l13 cc13 k13⟩⟩, ⟨⟨_, _, PySem.W.mg_of X G a14, fun_mk (st := s_law) l14 cc14 k14⟩⟩, PySem.W.mg_none_of X G z0, PySem.W.mg_none_of X G z1, PySem.W.mg_none_of X G z2, PySem.W.mg_none_of X G z3, PySem.W.mg_none_of X G z4, PySem.W.mg_none_of X G z5, PySem.W.mg_none_of X G z6, PySem.W.mg_none_of X G z7, PySem.W.mg_none_of X G z8, PySem.W.mg_none_of X G z9, PySem.W.mg_none_of X G z10⟩
  exact ⟨_, fun s v => .of_eq rfl, fun base _ _ => law_fn T (fun_mk (st := s_law) l14 cc14 k14)⟩
end Mc
open PySem PySem.W PyProof.Rows
set_option maxRecDepth 100000 in
set_option maxHeartbeats 0 in
theorem PySem.Challenge.cw_mostclauses_k03_rows_that_show_holds : PySem.Challenge.rw_mostclauses_k03_rows_that_show.Holds := by
  w_on; o_law; k_head; (case hw => w_witness2)
  k_fill
  refine L2.walk_of (l := PySem.Challenge.rw_mostclauses_k03_rows_that_show) (n := 63) (k := 4) (x := "_law_script") (CX := fun _ => L2.CX0) (sp := fun w => Mc.spLaw _) rfl (by decide) rfl ⟨rfl, by decide, by decide⟩ (fun w h Y => PySem.W.kIn_of Y) ?F (fun _ _ a ns hl _ hS => ⟨a, ns, rfl, hS, hl, fun _ => rfl⟩) (fun _ _ _ _ _ h => h)
  case F =>
    intro w mg fa h KX G hmg
    refine' Mc.all_mk KX G hmg ?a0 ?l0 ?cc0 ?k0 ?a1 ?l1 ?cc1 ?k1 ?a2 ?l2 ?cc2 ?k2 ?a3 ?l3 ?cc3 ?k3 ?a4 ?l4 ?cc4 ?k4 ?a5 ?l5 ?cc5 ?k5 ?a6 ?l6 ?cc6 ?k6 ?a7 ?l7 ?cc7 ?k7 ?a8 ?l8 ?cc8 ?k8 ?a9 ?l9 ?cc9 ?k9 ?a10 ?l10 ?cc10 ?k10 ?a11 ?l11 ?cc11 ?k11 ?a12 ?l12 ?cc12 ?k12 ?a13 ?l13 ?cc13 ?k13 ?a14 ?l14 ?cc14 ?k14 ?z0 ?z1 ?z2 ?z3 ?z4 ?z5 ?z6 ?z7 ?z8 ?z9 ?z10
    (case a0 => k_is)
    (case l0 => k_is)
    (case cc0 => k_is)
    (case k0 => k_is)
    (case a1 => k_is)
    (case l1 => k_is)
    (case cc1 => k_is)
    (case k1 => k_is)
    (case a2 => k_is)
    (case l2 => k_is)
    (case cc2 => k_is)
    (case k2 => k_is)
    (case a3 => k_is)
    (case l3 => k_is)
    (case cc3 => k_is)
    (case k3 => k_is)
    (case a4 => k_is)
    (case l4 => k_is)
    (case cc4 => k_is)
    (case k4 => k_is)
    (case a5 => k_is)
    (case l5 => k_is)
    (case cc5 => k_is)
    (case k5 => k_is)
    (case a6 => k_is)
    (case l6 => k_is)
    (case cc6 => k_is)
    (case k6 => k_is)
    (case a7 => k_is)
    (case l7 => k_is)
    (case cc7 => k_is)
    (case k7 => k_is)
    (case a8 => k_is)
    (case l8 => k_is)
    (case cc8 => k_is)
    (case k8 => k_is)
    (case a9 => k_is)
    (case l9 => k_is)
    (case cc9 => k_is)
    (case k9 => k_is)
    (case a10 => k_is)
    (case l10 => k_is)
    (case cc10 => k_is)
    (case k10 => k_is)
    (case a11 => k_is)
    (case l11 => k_is)
    (case cc11 => k_is)
    (case k11 => k_is)
    (case a12 => k_is)
    (case l12 => k_is)
    (case cc12 => k_is)
    (case k12 => k_is)
    (case a13 => k_is)
    (case l13 => k_is)
    (case cc13 => k_is)
    (case k13 => k_is)
    (case a14 => k_is)
    (case l14 => k_is)
    (case cc14 => k_is)
    (case k14 => k_is)
    (case z0 => k_is)
    (case z1 => k_is)
    (case z2 => k_is)
    (case z3 => k_is)
    (case z4 => k_is)
    (case z5 => k_is)
    (case z6 => k_is)
    (case z7 => k_is)
    (case z8 => k_is)
    (case z9 => k_is)
    (case z10 => k_is)
